import Derived.Test.YtghpcgagijhlaaaGreatDoorP13
set_option linter.all false
set_option maxRecDepth 100000
set_option maxHeartbeats 16000000
open Option renaming some->aA,none->aB
open Bool renaming true->aE,false->aF
open Or renaming inl->aG,inr->aH
open Go.Item renaming inRegion->aM
open Go.IntKind renaming i64->aD,u32->aO,u64->aQ
open Go.IntKind renaming wrap_u64->aCQ,wrap_i32->aCR
namespace Go.Ga
open Go.Conc Go.Ren Go.Tr Go.Wg
open Go.ConcR (KK WgAt stA smA DC0)
open Go.ConcN (WgLive sumTo sumTo_congr sumTo_upd upd upd_same upd_ne le_sumTo)
variable {S:Sp}
structure Sp.uD (S:Sp)(k:Nat)(f:Nat->Span)(gs:zG)(w:zW)(t:Trace)(rs ws:Nat->zP):Prop where
 pos:0<S.m0
 rG:S.n<2147483647
 le:k<=S.n
 size:gs.size=S.m0+(S.n-k)
 base:S.Base (S.m0+(S.n-k)) w t rs ws 0 (λa=>∃i,i<S.n-k/\a=S.m0+i)
 cr:∃c tm,w.heap[S.Cr]? =aA (.chan 0 #[] aF c c tm)
 cd:∃s r tm,w.heap[S.Cd]? =aA (.chan 0 #[] aF s r tm)
 main:∃g,gs[0]? =aA g/\S.dX (S.Fk k) (f 0).2 (Deaf t 0) (rs 0) (ws 0) g w
 zero:(f 0).1=0
 old:∀a g,0<a->a<S.m0->gs[a]? =aA g->∃q,f a=(0,.nat q)/\QuitsD S.P q (Deaf t a) g
 wk:∀i g,i<S.n-k->gs[S.m0+i]? =aA g->S.WSit (S.val i) (rs (S.m0+i)) (ws (S.m0+i)) (f (S.m0+i)) (Deaf t (S.m0+i)) g w/\8<=(f (S.m0+i)).1
def Sp.fh (S:Sp)(k:Nat)(f:Nat->Span):Mu:=(k+1,0,vec (S.m0+(S.n-k)) f,0)
def Sp.VL (S:Sp)(k:Nat)(f:Nat->Span)(gs:zG)(w:zW)(sl:Option (Nat×Nat))(t:Trace)(j:Nat):Prop:=
 ∃b w' ops,runT S.P (crowd gs w sl) j=(.next (crowd b w' sl),ops)/\
  ((∃d c r a,S.uD d c b w' (t++ops) r a/\Mu.Lt (S.fh d c) (S.fh k f))\/∃c r a,S.dQ c b w' (t++ops) r a)
section
variable {k:Nat}{f:Nat->Span}{gs:zG}{w w':zW}{t:Trace}{rs ws:Nat->zP}{j:Nat}{g g':zH}{es:zE}{s:Span}{sl:Option (Nat×Nat)}
def Sp.uD.at (h:S.uD k f gs w t rs ws)(d:Nat):S.uD k f gs (w.at d) t rs ws:=by obtain⟨g,a,c⟩:=h.main;exact⟨h.pos,h.rG,h.le,h.size,h.base.at d,h.cr,h.cd,⟨g,a,c.rely (OG _ _ w d)⟩,h.zero,h.old,λi g b a=>⟨(h.wk i g b a).1.rely (OG _ _ w d) h.base.live,(h.wk i g b a).2⟩⟩
def Sp.uD.own (h:S.uD k f gs w t rs ws)(X:gs[j]? =aA g)(M:stepG S.P (j==0) g w= .go g' w' es)(bU:Span.Lt s (f j))(p:Go.Ren.Does (λb=>ws j b\/(j=0/\b=S.Wg)) w w')(U:S.J w')(Q:∀e∈es,EvS S 0 j (rs j) (grown (ws j) w w') e)
  (hl:j=0\/(∃i,i<S.n-k/\j=S.m0+i)\/∀e∈es,(MemAct.ofEvent e).touch? =aB)
  (Z:j=0->s.1=0/\S.dX (S.Fk k) s.2 (deafBehind (Deaf t 0) es) (rs 0) (grown (ws 0) w w') g' w')
  (h1:0<j->j<S.m0->∃q,s=(0,.nat q)/\QuitsD S.P q (deafBehind (Deaf t j) es) g')
  (h2:∀i,i<S.n-k->j=S.m0+i->S.WSit (S.val i) (rs j) (grown (ws j) w w') s (deafBehind (Deaf t j) es) g' w'/\8<=s.1):S.VL k f gs w sl t j:=by
 have hp:=h.pos
 have L:=h.size
 have O:j<gs.size:=(zAb.1 X).1
 have l:Go.Ren.Does (Sp.JQ (S:=S) (ws j)) w w':=⟨λb r hn=>p.keep b r λx=>hn (x.imp id λy=>aG y.2),p.size,p.tape,p.os,p.output⟩
 have m:∀op∈MemOp.ofEvents j g.frame.fn g.frame.place es,op.g=j:=λop N=>by obtain⟨e,_,rfl⟩:=Go.Conc.mem_ofEvents N;rfl
 have o:∀b,b=S.Cr\/b=S.Cd->b≠S.Wg->w'.heap[b]? =w.heap[b]? :=λb r d=>p.keep b (h.base.oV (r.elim (λe=>aH (aH (aG e))) λe=>aH (aH (aH e)))) λx=>x.elim (λy=>h.base.off (aH y) (r.elim (λe=>aH (aH (aG e))) λe=>aH (aH (aH e)))) λy=>d y.2
 obtain⟨c,W,D⟩:=h.cr
 obtain⟨s0,r0,tm1,F⟩:=h.cd
 have R:S.Cr≠S.Wg:=λe=>by obtain⟨a,b,x⟩:=h.base.live;have v:w.heap[S.Wg]? =aA (Go.ConcR.wgBlock S.ty a b):=x;rw[<-e,D]at v;simp[Go.ConcR.wgBlock]at v
 have T:S.Cd≠S.Wg:=λe=>by obtain⟨a,b,x⟩:=h.base.live;have v:w.heap[S.Wg]? =aA (Go.ConcR.wgBlock S.ty a b):=x;rw[<-e,F]at v;simp[Go.ConcR.wgBlock]at v
 have u:w'.heap[S.Cr]? =aA (.chan 0 #[] aF c c W):=(o _ (aG rfl) R).trans D
 have E:w'.heap[S.Cd]? =aA (.chan 0 #[] aF s0 r0 tm1):=(o _ (aH rfl) T).trans F
 refine⟨_,w',_,runT_crowd_go X M,aG ⟨k,put f j s,rs,put ws j (grown (ws j) w w'),⟨hp,h.rG,h.le,by simp[L],h.base.own (by omega) l U Q (hl.imp id λx=>x.imp id λy=>λa e Q=>aG (y e (zBc Q))),⟨c,W,u⟩,⟨s0,r0,tm1,E⟩,?_,?_,λa y H G A=> ?_,λi y Y A=> ?_⟩,Mu.one (lX (by omega) bU)⟩⟩
 .obtain⟨y,A,r⟩:=h.main;by_cases e:j=0
  .subst e;refine⟨g',by rw[zAo (by simpa using O)],?_⟩;rw[aZ,aZ,Deaf_own];exact(Z rfl).2
  .have C:y.status= .running:=by
    cases B:(f 0).2 with
    |leaf=>
     rw[B]at r;have:=r.2 w (cQ.refl _ _ w);cases k with
     |zero=>exact this.1
     |succ k=>exact this.1
    |node ch=>rw[B]at r;exact r.1
   refine⟨y,?_,?_⟩
   .rw[zAd e,zCt,A,zAx,woken_running C]
   .rw[bJ _ _ (λx=>e x.symm),bJ _ _ (λx=>e x.symm),Deaf_other t e _ m];refine r.rely ⟨λb hx=> ?_,p.size,p.tape,p.os,p.output⟩;have lK:=h.base.lK l (k:=0) (λx=>e x.symm);obtain x|x|x:=hx
    .exact lK.dF b (aG x)
    .exact lK.dF b (aH x)
    .subst x;exact p.keep _ (h.base.oV (aH (aG rfl))) λy=>y.elim (λz=>h.base.off (aH z) (aH (aG rfl))) λz=>e z.1
 .by_cases e:j=0
  .subst e;rw[aZ];exact(Z rfl).1
  .rw[bJ _ _ (λx=>e x.symm)];exact h.zero
 .obtain⟨rfl,rfl⟩|⟨d,z,K,rfl⟩:=iT _ _ _ _ _ _ A
  .rw[aZ,Deaf_own];exact h1 H G
  .obtain⟨q,V,I⟩:=h.old a z H G K;rw[bJ _ _ d,Deaf_other t (λe=>d e.symm) _ m,woken_quitsD I];exact⟨q,V,I⟩
 .obtain⟨e,rfl⟩|⟨d,z,K,rfl⟩:=iT _ _ _ _ _ _ A
  .have:=h2 i Y e.symm;subst e;rw[aZ,aZ,Deaf_own];exact this
  .obtain⟨V,I⟩:=h.wk i z Y K;have e3:=V.rely (h.base.lK l d) U;rw[bJ _ _ d,bJ _ _ d,Deaf_other t (λe=>d e.symm) _ m,e3.woken U u];exact⟨e3,I⟩
def Rd {rs ws:zP}{e:Event}(h:ak S rs ws e):EvS S 0 0 rs ws e:=by
 obtain h|h|h|h|⟨a,h,b⟩:=h
 .exact aG h
 .exact aH (aG h)
 .exact aH (aH (aG h))
 .exact aH (aH (aH (aG h)))
 .exact aH (aH (aH (aH (aH (aG ⟨rfl,a,aG h,b⟩)))))
def Sp.uD.QH (h:S.uD k f gs w t rs ws){i:Nat}(hi:i<S.n-k)(T:gs[S.m0+i]? =aA g)(hr:g.status= .running):S.VL k f gs w sl t (S.m0+i):=by
 have R:=h.pos;have N:=h.size;have J:=h.base.live;obtain⟨O,h8⟩:=h.wk i g hi T;generalize hf:f (S.m0+i)=sp at O h8;generalize H:Deaf t (S.m0+i)=d at O;cases O with
 | @busy tr _ _ A=>
  cases tr with
  |node ch=>
   obtain⟨_,A⟩:=A;obtain⟨g',w',es,u,B,G,Y⟩:=A w (cQ.refl _ _ w) J;have M:w'.heap[S.Wg]? =w.heap[S.Wg]? :=B.keep _ (h.base.oV (aH (aG rfl))) λx=>h.base.off (aH x) (aH (aG rfl));have J':S.J w':=by obtain⟨a,b,x⟩:=J;exact⟨a,b,M.trans x⟩
   have W:deafBehind 0 es=0:=deafBehind_still (λe V=>by
    obtain⟨a,wr,s,rfl,_⟩|⟨r,s,rfl,_⟩|x|x|⟨q,x⟩:=G e V
    .simp
    .simp
    .rw[x];simp
    .rw[x];simp
    .rw[x];simp) 0
   refine h.own (s:=(9,ch w)) T (by rw[eH R];exact u) (by rw[hf];exact .right _ ⟨_,_,rfl,rfl⟩) ⟨λb A hn=>B.keep b A λx=>hn (aG x),B.size,B.tape,B.os,B.output⟩ J' (λe V=>aG (G e V)) (aH (aG ⟨i,hi,rfl⟩)) (λe=>by omega) (λ_ e=>by omega) (λp F e=> ?_)
   have:p=i:=by omega
   subst this
   rw[H,W]
   exact⟨.busy Y,by simp⟩
  |leaf=>
   obtain⟨_,K,z,u,m,U⟩:=A w (cQ.refl _ _ w) J;obtain⟨c,tm,X⟩:=h.cr;have D:stepG S.P (S.m0+i==0) g w= .comm K #[scase S.Cr (S.val i) z] aE .send w #[]:=by rw[eH R];exact u
   obtain⟨y,hy,o⟩:=h.main
   have v:y.status= .running:=by
    cases C:(f 0).2 with
    |leaf=>
     rw[C]at o;have:=o.2 w (cQ.refl _ _ w);cases k with
     |zero=>exact this.1
     |succ k=>exact this.1
    |node ch=>rw[C]at o;exact o.1
   have Q:partners (gs.setIfInBounds (S.m0+i) Go.Conc.ph) S.Cr aF=[]:=partners_nil λa x l=>by
    obtain⟨_,rfl⟩|⟨_,l⟩:=getElem?_stand _ _ _ _ l
    .exact offersAt_ph _ _
    .have bU:a<gs.size:=(zAb.1 l).1;by_cases e0:a=0
     .subst e0;rw[hy]at l;obtain rfl:=zAm l;exact zGt (by rw[v];simp) _ _
     .by_cases e1:a<S.m0
      .obtain⟨q,_,hq⟩:=h.old a x (by omega) e1 l;exact zGt (by obtain x|x:=hq.status<;>rw[x]<;>simp) _ _
      .obtain⟨p,rfl⟩:∃p,a=S.m0+p:=⟨a-S.m0,by omega⟩;obtain⟨L,_⟩:=h.wk p x (by omega) l;generalize f (S.m0+p)=fa at L;generalize Deaf t (S.m0+p)=da at L;obtain x|x|x:=L.status J
       .exact zGt (by rw[x.2];simp) _ _
       .cases L with
        |parked hh=>exact offersAt_parked_send' _ _ _ _ _ _
        |_=>exact absurd x.1 (by simp)
       .exact zGt (by rw[x.2];simp) _ _
   have E:=crowd_waits (P:=S.P) (sl:=sl) T D λcc I=>by simp only[zAp,zAg,zAt,zCp]at I;subst I;exact ways_send_none X (by simp) Q
   refine⟨_,_,_,E,aG ⟨k,put f (S.m0+i) (8,.leaf),rs,ws,?_,Mu.one (lX (by omega) (by rw[hf];exact iF (by omega)))⟩⟩
   have e1:t++MemOp.ofEvents (S.m0+i) g.frame.fn g.frame.place #[]=t:=by simp[ofEvents_eq]
   rw[e1]
   refine⟨R,h.rG,h.le,by simp[N],h.base,h.cr,h.cd,⟨y,by rw[zAd (by omega)];exact hy,by rw[bJ _ _ (by omega)];exact o⟩,by rw[bJ _ _ (by omega)];exact h.zero,λa x Zf Z l=> ?_,λp x F l=> ?_⟩
   .rw[zAd (by omega)]at l;rw[bJ _ _ (by omega)];exact h.old a x Zf Z l
   .by_cases e:p=i
    .subst e;rw[zAo (by omega)]at l;obtain rfl:=zAm l;rw[aZ,H];exact⟨.parked U,by simp⟩
    .rw[zAd (by omega)]at l;rw[bJ _ _ (by omega)];exact h.wk p x F l
 |parked A=>exact absurd hr (by simp[Go.Conc.parked])
 |_=>simp at h8
def Sp.Base.fork {N sdo sdo':Nat}{Live:zP}(h:S.Base N w t rs ws sdo Live)(L:0<N){m:zP}(hh:∀b,m b->rs 0 b\/ws 0 b)(K:Deaf t 0=0){x y:MemOp}(A:x.g=0/\x.act= .go N)(v:y.g=N/\y.act= .start)(hs:sdo=0)(B:sdo'=0\/sdo'=N):
  S.Base (N+1) w (t++ #[x,y]) (put (put rs 0 λb=>rs 0 b\/m b) N m) (put (put ws 0 λb=>ws 0 b/\¬m b) N λ_=>False) sdo' (λa=>Live a\/a=N):=by
 have r:∀a b,put (put rs 0 λb=>rs 0 b\/m b) N m a b->(rs a b/\a≠N)\/((a=0\/a=N)/\m b):=λa b c=>by
  by_cases e:a=N
  .subst e;rw[aZ]at c;exact aH ⟨aH rfl,c⟩
  .rw[bJ _ _ e]at c;by_cases o:a=0
   .subst o;rw[aZ]at c;exact c.imp (λx=>⟨x,e⟩) λx=>⟨aG rfl,x⟩
   .rw[bJ _ _ o]at c;exact aG ⟨c,e⟩
 have d:∀a b,put (put ws 0 λb=>ws 0 b/\¬m b) N (λ_=>False) a b->ws a b/\a≠N/\(a=0->¬m b):=λa b c=>by
  by_cases e:a=N
  .subst e;rw[aZ]at c;exact c.elim
  .rw[bJ _ _ e]at c;by_cases o:a=0
   .subst o;rw[aZ]at c;exact⟨c.1,e,λ_=>c.2⟩
   .rw[bJ _ _ o]at c;exact⟨c,e,λx=>absurd x o⟩
 have I:∀op∈#[x,y],op.act.touch? =aB:=by
  intro op l;simp only[zAp,zAg,zAt,zCp]at l;obtain rfl|rfl:=l
  .rw[A.2];rfl
  .rw[v.2];rfl
 have n:∀a,Deaf (t++ #[x,y]) a=Deaf t a:=λa=>Go.ConcN.Deaf_still t a _ λop l=>by
  simp only[zAp,zAg,zAt,zCp]at l;obtain rfl|rfl:=l
  .rw[A.2];simp
  .rw[v.2];simp
 have u:∀i,Knows t 0 i->Knows (t++ #[x,y]) N i:=λi J=>Go.ConcN.fork_knows A v K (h.above N (zAa _)) J
 refine⟨λ{a b} c=> ?_,λ{a H b} p q=>h.QE (d _ _ p).1 (d _ _ q).1,λ{a H b} p q=> ?_,λ{a b} c=> ?_,h.oV,h.live,?_,?_,λa E=>by rw[n];exact h.above a (by omega)⟩
 .obtain c|c:=c
  .obtain x|x:=r a b c
   .exact h.lt (aG x.1)
   .exact h.lt (hh b x.2)
  .exact h.lt (aH (d a b c).1)
 .obtain x|⟨x,y⟩:=r H b q
  .exact h.QF (d _ _ p).1 x.1
  .have C:=d _ _ p;have:a=0:=by
    obtain z|z:=hh b y
    .exact h.QF C.1 z
    .exact h.QE C.1 z
   exact absurd y (C.2.2 this)
 .obtain c|c:=c
  .obtain x|x:=r a b c
   .exact h.off (aG x.1)
   .exact h.off (hh b x.2)
  .exact h.off (aH (d a b c).1)
 .refine h.ti.Ke I (λa b c=> ?_) (λa b c=>aG (d a b c).1) (λa b c=> ?_) (λb c=>aG c) (λb c=>c) (λa E=>aG (aG E))
  .obtain p|⟨rfl|rfl,p⟩:=r a b c
   .exact aG p.1
   .exact(hh b p).elim aG λz=>aH (aG z)
   .exact aH (aH (aG ⟨0,hh b p,u⟩))
  .obtain⟨G,F⟩:=c;obtain D|D:=B
   .exact aG ⟨G,by rw[F,D,hs]⟩
   .refine aH (aG ⟨0,⟨G,hs.symm⟩,?_⟩);rw[F,D];exact u
 .refine seen_app h.low λop l=> ?_;simp only[zAp,zAg,zAt,zCp]at l;obtain rfl|rfl:=l
  .rw[A.2];trivial
  .rw[v.2];trivial
end
end Go.Ga
namespace Go.Ga
open Go.Conc Go.Ren Go.Tr Go.Wg
open Go.ConcR (KK WgAt stA smA DC0)
open Go.ConcN (WgLive sumTo sumTo_congr sumTo_upd upd upd_same upd_ne le_sumTo)
variable {S:Sp}
section
variable {k:Nat}{f:Nat->Span}{gs:zG}{w:zW}{t:Trace}{rs ws:Nat->zP}{g:zH}{sl:Option (Nat×Nat)}
def rK (gs:zG)(x y:zH){a:Nat}{z:zH}(h:((gs.setIfInBounds 0 x).push y)[a]? =aA z):(a=gs.size/\z=y)\/(a<gs.size/\((a=0/\z=x)\/(a≠0/\gs[a]? =aA z))):=by
 rw[zBh]at h;simp only[zDe]at h;split at h
 .rename_i e;exact aG ⟨e,(zAm h).symm⟩
 .right;have bU:=(zAb.1 h).1;simp only[zDe]at bU;refine⟨bU,?_⟩;by_cases b:a=0
  .subst b;rw[zAo bU]at h;exact aG ⟨rfl,(zAm h).symm⟩
  .rw[zAd λe=>b e.symm]at h;exact aH ⟨b,h⟩
def Sp.uD.Tv (h:S.uD k f gs w t rs ws)(N:gs[0]? =aA g):S.VL k f gs w sl t 0:=by
 have T:=h.pos;have v:=h.size;have hle:=h.le;have J:=h.base.live;obtain⟨g0,M,q⟩:=h.main;rw[N]at M;obtain rfl:=zAm M;cases I:(f 0).2 with
 |node ch=>rw[I]at q;obtain⟨_,q⟩:=q;obtain⟨g',w',es,A,p,hJ,Z,Us⟩:=q w (cQ.refl _ _ w);have Y:f 0=(0,.node ch):=Prod.ext h.zero I;exact h.own (s:=(0,ch w)) N A (by rw[Y];exact .right _ ⟨_,_,rfl,rfl⟩) ⟨λb q hn=>p.keep b q λx=>hn (x.imp id λy=>⟨rfl,y⟩),p.size,p.tape,p.os,p.output⟩ hJ (λe he=>Rd (Z e he)) (aG rfl) (λ_=>⟨rfl,Us⟩) (λe=>by omega) (λi _ e=>by omega)
 |leaf=>
  rw[I]at q;obtain⟨G,q⟩:=q;have q:=q w (cQ.refl _ _ w);have e1:∀(x y:MemOp),t++(((MemOp.ofEvents 0 g.frame.fn g.frame.place #[]).push x).push y)=t++ #[x,y]:=λx y=>by simp[ofEvents_eq]
  cases k with
  |succ k=>
   obtain⟨_,g',child,p,A,X,⟨F,O⟩,E,W⟩:=q;have hN:S.m0+(S.n-(k+1))+1=S.m0+(S.n-k):=by omega
   have l:S.n-1-k=S.n-(k+1):=by omega
   refine⟨_,w,_,runT_crowd_spawn N A,aG ⟨k,put (put f 0 (0,E)) (S.m0+(S.n-(k+1))) (9,F),put (put rs 0 λb=>rs 0 b\/p b) (S.m0+(S.n-(k+1))) p,put (put ws 0 λb=>ws 0 b/\¬p b) (S.m0+(S.n-(k+1))) λ_=>False,?_,Mu.fork (by omega)⟩⟩
   rw[e1,v]
   generalize Q:({g:=0,fn:=g.frame.fn,pos:=g.frame.place,act:= .go (S.m0+(S.n-(k+1)))}:MemOp)=x
   generalize P:({g:=S.m0+(S.n-(k+1)),fn:=child.frame.fn,pos:=g.frame.place,act:= .start}:MemOp)=y
   have u:x.g=0/\x.act= .go (S.m0+(S.n-(k+1))):=by rw[<-Q];exact⟨rfl,rfl⟩
   have r:y.g=S.m0+(S.n-(k+1))/\y.act= .start:=by rw[<-P];exact⟨rfl,rfl⟩
   have c:∀a,Deaf (t++ #[x,y]) a=Deaf t a:=λa=>Go.ConcN.Deaf_still t a _ λop C=>by
    simp only[zAp,zAg,zAt,zCp]at C;obtain rfl|rfl:=C
    .rw[u.2];simp
    .rw[r.2];simp
   have d:=h.base.fork (sdo':=0) (by omega) X G u r rfl (aG rfl)
   have m:(λa=>(∃i,i<S.n-(k+1)/\a=S.m0+i)\/a=S.m0+(S.n-(k+1)))=λa=>∃i,i<S.n-k/\a=S.m0+i:=by
    funext a;apply propext;constructor
    .rintro(⟨i,l,rfl⟩|rfl)
     .exact⟨i,by omega,rfl⟩
     .exact⟨_,by omega,rfl⟩
    .rintro⟨i,l,rfl⟩;by_cases e:i=S.n-(k+1)
     .exact aH (by rw[e])
     .exact aG ⟨i,by omega,rfl⟩
   rw[m,hN]at d
   refine⟨T,h.rG,by omega,by simp[v];omega,d,h.cr,h.cd,⟨g',?_,?_⟩,?_,λa z Zf K o=> ?_,λi z om o=> ?_⟩
   .rw[zBh];simp only[zDe];rw[zAh (by omega),zAo (by omega)]
   .rw[bJ _ _ (by omega),aZ,bJ _ _ (by omega),aZ,bJ _ _ (by omega),aZ,c,G];exact W
   .rw[bJ _ _ (by omega),aZ]
   .obtain⟨e,_⟩|⟨_,⟨e,_⟩|⟨e,o⟩⟩:=rK _ _ _ o
    .omega
    .omega
    .rw[bJ _ _ (by omega),bJ _ _ (by omega),c];exact h.old a z Zf K o
   .obtain⟨e,rfl⟩|⟨bU,⟨e,_⟩|⟨e,o⟩⟩:=rK _ _ _ o
    .have ei:i=S.n-(k+1):=by omega
     subst ei;rw[aZ,aZ,aZ,c,h.base.above _ (zAa _)];rw[l]at O;exact⟨.busy O,by simp⟩
    .omega
    .have:=h.wk i z (by omega) o;rw[bJ _ _ (by omega),bJ _ _ (by omega),bJ _ _ (by omega),bJ _ _ (by omega),bJ _ _ (by omega),bJ _ _ (by omega),c];exact this
  |zero=>
   obtain⟨_,R,g',child,p,A,X,⟨F,O⟩,E,W⟩:=q;have hN:S.m0+(S.n-0)=S.m0+S.n:=by omega
   have j:=h.base
   rw[hN]at j v
   let D:=put (put f 0 (3*S.n+2,E)) (S.m0+S.n) (15,F)
   have f0:D 0=(3*S.n+2,E):=by
    show put (put f _ _) _ _ _=_
    rw[bJ _ _ (by omega),aZ]
   have fn:D (S.m0+S.n)=(15,F):=aZ _ _ _
   have fk:∀a,a≠0->a≠S.m0+S.n->D a=f a:=λa h0 h1=>by
    show put (put f _ _) _ _ _=_
    rw[bJ _ _ h1,bJ _ _ h0]
   have B:∀i,i<S.n->8<=S.ph D i:=λi l=>by unfold Sp.ph;rw[fk _ (by omega) (by omega)];exact(h.wk i _ (by omega) (zAs (show S.m0+i<gs.size by omega))).2
   have pn:S.ph D S.n=15:=by unfold Sp.ph;rw[fn]
   have H:∀n,sumTo n (λ_=>1)=n:=λn=>by
    induction n with
    |zero=>rfl
    |succ n ih=>rw[Go.ConcN.sumTo,ih]
   have hU:S.U D=S.n:=by unfold Sp.U;rw[zHg (g:=λ_=>1) λi l=>zAk (B i l),H]
   have hV:S.V D=S.n:=by unfold Sp.V;rw[zHg (g:=λ_=>1) λi l=>zAk (by have:=B i l;omega),H]
   have hR:S.Rc D=λ_=>False:=by funext i;apply propext;exact⟨λx=>by have:=B i x.1;have:=x.2;omega,λx=>x.elim⟩
   refine⟨_,w,_,runT_crowd_spawn N A,aH ⟨D,put (put rs 0 λb=>rs 0 b\/p b) (S.m0+S.n) p,put (put ws 0 λb=>ws 0 b/\¬p b) (S.m0+S.n) λ_=>False,?_⟩⟩
   rw[e1,v]
   generalize Q:({g:=0,fn:=g.frame.fn,pos:=g.frame.place,act:= .go (S.m0+S.n)}:MemOp)=x
   generalize P:({g:=S.m0+S.n,fn:=child.frame.fn,pos:=g.frame.place,act:= .start}:MemOp)=y
   have u:x.g=0/\x.act= .go (S.m0+S.n):=by rw[<-Q];exact⟨rfl,rfl⟩
   have r:y.g=S.m0+S.n/\y.act= .start:=by rw[<-P];exact⟨rfl,rfl⟩
   have c:∀a,Deaf (t++ #[x,y]) a=Deaf t a:=λa=>Go.ConcN.Deaf_still t a _ λop C=>by
    simp only[zAp,zAg,zAt,zCp]at C;obtain rfl|rfl:=C
    .rw[u.2];simp
    .rw[r.2];simp
   have d:=j.fork (sdo':=S.m0+S.n) (by omega) X G u r rfl (aH rfl)
   have m:(λa=>(∃i,i<S.n-0/\a=S.m0+i)\/a=S.m0+S.n)=S.Live D:=by funext a;apply propext;unfold Sp.Live;exact or_congr ⟨λ⟨i,l,e⟩=>⟨i,l,e,B i l⟩,λ⟨i,l,e,_⟩=>⟨i,l,e⟩⟩ Iff.rfl
   rw[m]at d
   obtain⟨s0,r0,tm1,Kv⟩:=h.cd
   refine⟨T,h.rG,by simp[v],d,h.cr,⟨s0,r0,tm1,by rw[Kv,pn];rfl⟩,λa z o=> ?_,λz o=> .a (by omega) (λi l hl=>by have:=B i l;unfold Sp.kO at hl;omega) (by rw[hV];exact R),λe=>by rw[f0,hU]at e;simp at e,λe=>by omega,λe=>by rw[f0,hU]at e;simp at e,λe=>by omega⟩
   rw[hR,hU,hV,c]
   obtain⟨e,rfl⟩|⟨bU,⟨rfl,rfl⟩|⟨e0,o⟩⟩:=rK _ _ _ o
   .have ea:a=S.m0+S.n:=by omega
    subst ea;rw[fn,j.above _ (zAa _)];refine nY T ?_;rw[aZ,aZ];exact .busy O
   .rw[f0];refine⟨λ_=>⟨G,?_⟩,λe=>by omega,λ_ _ e=>by omega,λe=>by omega⟩;rw[bJ _ _ (by omega),aZ,bJ _ _ (by omega),aZ];exact .busy W
   .rw[fk a e0 (by omega)];refine⟨λe=>absurd e e0,λ_ K=>h.old a z (by omega) K o,λi l e=> ?_,λe=>by omega⟩;subst e;have:=(h.wk i z (by omega) o).1;rw[bJ _ _ (by omega),bJ _ _ (by omega),bJ _ _ (by omega),bJ _ _ (by omega)];exact this
def Sp.uD.elder (h:S.uD k f gs w t rs ws){j:Nat}(u:0<j)(p:j<S.m0)(o:gs[j]? =aA g)(b:g.status= .running):S.VL k f gs w sl t j:=by
 obtain⟨q,r,n⟩:=h.old j g u p o;cases q with
 |zero=>rw[n.1]at b;cases b
 |succ q=>
  obtain⟨l,_⟩|⟨_,v,es,a,c,d⟩:=n
  .rw[l]at b;cases b
  .exact h.own (s:=(0,.nat q)) o (by rw[show(j==0)=aF by simp;omega];exact c w) (by rw[r];exact fR) (Go.Ren.Does.refl _ w) h.base.live (λe m=>aH (aH (aH (aH (aH (aH (aH (a e m)))))))) (aH (aH λe m=>touch_mute (a e m))) (λe=>by omega) (λ_ _=>⟨q,rfl,d⟩) (λi _ e=>by omega)
def Sp.uD.Kd (h:S.uD k f gs w t rs ws):∃g,gs[0]? =aA g/\g.status= .running:=by
 obtain⟨y,c,a⟩:=h.main;refine⟨y,c,?_⟩;cases b:(f 0).2 with
 |leaf=>
  rw[b]at a;have:=a.2 w (cQ.refl _ _ w);cases k with
  |zero=>exact this.1
  |succ k=>exact this.1
 |node ch=>rw[b]at a;exact a.1
def Sp.uD.runs (H:S.Good)(h:S.uD k f gs w t rs ws):∃N o B b R,runNT S.P N (crowd gs w sl) t=(.next (crowd o B b),R)/\S.Nk o B R:=by
 generalize E:S.fh k f=Q;induction Q using Mu.wf.induction generalizing k f gs w t rs ws sl with
 |_ Q U=>
  have W:=h.size;have J:=h.base.live;obtain⟨g0,u,r⟩:=h.Kd;have G:∀g∈gs,Go.Conc.awake g:=by
   intro y V;obtain⟨a,Y,rfl⟩:=Array.mem_iff_getElem.1 V;have v:gs[a]? =aA gs[a]:=zAs Y;by_cases O:a=0
   .subst O;rw[u]at v;rw[<-zAm v];exact awake_of (aG r)
   .by_cases M:a<S.m0
    .obtain⟨q,_,X⟩:=h.old a _ (by omega) M v;exact awake_of (X.status.elim aG λx=>aH (aH x))
    .obtain⟨i,rfl⟩:∃i,a=S.m0+i:=⟨a-S.m0,by omega⟩;obtain x|x|x:=(h.wk i _ (by omega) v).1.status J
     .exact awake_of (aG x.2)
     .exact awake_of (aH (aG x.2))
     .exact awake_of (aH (aH x.2))
  obtain⟨j,g,d,b,z,T,p⟩:=crowd_pick (P:=S.P) (w:=w) (sl:=sl) G ⟨0,g0,u,r⟩
  have L:=h.at d
  have bU:j<gs.size:=(zAb.1 z).1
  have D:S.VL k f gs (w.at d) b t j:=by
   by_cases O:j=0
   .subst O;exact L.Tv z
   .by_cases M:j<S.m0
    .exact L.elder (by omega) M z T
    .obtain⟨i,rfl⟩:∃i,j=S.m0+i:=⟨j-S.m0,by omega⟩;exact L.QH (by omega) z T
  obtain⟨o,B,ops,l,⟨k',Z,C,A,c,F⟩|⟨Z,C,A,c⟩⟩:=D
  .obtain⟨N,e,m,s,n,I,K⟩:=U _ (E▸F) (sl:=b) c rfl;exact⟨N+1,e,m,s,n,by simp only[runNT,p,l];exact I,K⟩
  .obtain⟨N,e,m,s,n,I,K⟩:=c.runs (sl:=b) H;exact⟨N+1,e,m,s,n,by simp only[runNT,p,l];exact I,K⟩
end
end Go.Ga
namespace Go.Wg
open Go.Conc Go.RowKit Go.Conc.Lib Go.ConcR.Gen Go.ConcN Go.ConcN.Gen
open Go.ConcR (KK wgBlock WgAt stA smA rd wr mk Payload DC0)
variable {L:WgLink}
section
variable {P:zZ}{R:zW->zW->Prop}{F:zW->Prop}{Wg:Nat}{b₀:zC}{a₀:Act}{ops₀:zQ}{i₀:Nat}{rest₀:List Nat}{k₀:zI}{cs:zL}{Fin:zU}
def add1 [Payload] (H:WgLib P L)(j:Cn L.tWg Wg R F){mT:Nat}(o:∀w,F w/\WgLive L.tWg Wg w->Goes P aE R DC0 Fin mT (G (b₀.at (a₀.put ((ops₀[i₀]?).bind (·.dst)) (.tuple #[])) (aM ops₀ rest₀::k₀)) cs) w)
  (w:zW) (hF:F w/\WgLive L.tWg Wg w):
  On P aE R (iE P aE .disable (On P aE R (lr P aE L.tWg Wg λv=>On P aE R (if v=0 then iE P aE (.read (smA Wg)) (On P aE R (iE P aE .enable (On P aE R Fin)))else iE P aE .enable (On P aE R Fin)))))
   (G ((base L.add).at ⟨#[.pointer (aA ⟨Wg,0,aB⟩),.int aD 1]++Array.replicate 115 undef,[]⟩ [.code (body_add L)]) (b₀.at a₀ (aM ops₀ (i₀::rest₀)::k₀)::cs)) w:=by
 have r:= @j.rely
 lib_facts
 simp only[body_add,addFn,zCc]
 refine⟨200,?_⟩
 walk_nrm
 u_c zGn r hF
 u_cnd aE r hF
 u_c zGn r hF
 u_c zGn r hF
 u_reg r hF
 u_op r hF
 u_op r hF
 u_c zGm r hF
 u_cnd aF r hF
 u_c zGu r hF
 u_c zGn r hF
 u_reg r hF
 refine Goes.stop (λn e=> ?_)
 replace hF:=r hF e
 clear e
 refine⟨rfl,_,stepG_mark0 .disable (by simp) rfl rfl (by k_ne) rfl H.f_disable (x_disable_n L) (x_disable_b L) (x_disable_x L) (x_disable_f L),200,?_⟩
 walk_nrm
 u_c zGm r hF
 u_reg r hF
 u_defer r hF
 u_c zGm r hF
 u_c zGn r hF
 u_reg r hF
 u_op r hF
 u_c zGm r hF
 u_c zGn r hF
 u_c zGn r hF
 u_reg r hF
 u_bub r hF
 u_c zGm r hF
 u_cnd aF r hF
 u_c zGu r hF
 u_c zGn r hF
 u_reg r hF
 iterate 6 (u_op r hF)
 u_call H.f_uAdd (nm_uAdd L) uAddFn r hF
 u_c zGn r hF
 u_reg r hF
 u_op r hF
 u_c zGm r hF
 u_c zGn r hF
 u_reg r hF
 iterate 4 (u_op r hF)
 refine Goes.stop (λa d=> ?_)
 replace hF:=r hF d
 clear d
 refine⟨rfl,λv D b=> ?_⟩
 obtain rfl|q:=zEu v
 .replace b:WgAt L.tWg Wg a 0 0:=by simpa using b
  have z:(((0:Nat):Int)+1)*KK=KK:=by simp
  rw[z]
  have u:IntKind.u64.wrap (0+4294967296)=KK:=by decide
  refine⟨_,(stepG_add_atomic rfl rfl (by k_ne) rfl H.f_addU64 (x_addU64_n L) (x_addU64_b L) (x_addU64_x L) aQ (x_addU64_f L) rfl rfl b.cellSt (b.thaw 0)).trans (by rw[u];rfl),?_⟩
  show∃m,Goes P aE R DC0 (if(0:Nat)=0 then _ else _) m _ _
  rw[zAk rfl]
  refine⟨200,?_⟩
  replace hF:F (a.setCell (stA Wg) (.int aQ KK))/\WgLive L.tWg Wg (a.setCell (stA Wg) (.int aQ KK)):=⟨j.NM hF.1,⟨_,_,b.setSt _⟩⟩
  clear b
  simp only[KK]at hF⊢
  walk_nrm
  u_op r hF
  u_c zGm r hF
  u_c zHe r hF
  u_leave1 H.f_uAdd r hF
  u_op r hF
  u_c zGm r hF
  u_c zGn r hF
  u_c zGn r hF
  u_reg r hF
  iterate 4 (u_op r hF)
  u_skip r hF
  u_skip r hF
  u_op r hF
  u_c zGm r hF
  u_cnd aF r hF
  u_c zGu r hF
  u_c zGn r hF
  u_reg r hF
  iterate 4 (u_op r hF)
  u_c zGm r hF
  u_c zGn r hF
  u_reg r hF
  iterate 4 (u_op r hF)
  u_c zGm r hF
  u_c zGn r hF
  u_c zGn r hF
  u_reg r hF
  iterate 10 (u_op r hF)
  u_c zGm r hF
  u_cnd aE r hF
  u_reg r hF
  iterate 3 (u_op r hF)
  u_conv H.underlying_tPU32 H.room_tU32 (WgLive.cell1 hF.2).choose_spec r hF
  refine Goes.stop (λl c=> ?_)
  replace hF:=r hF c
  clear c
  refine⟨rfl,_,stepG_markAt .read (by simp) rfl rfl (by k_ne) rfl H.f_raceRead (x_raceRead_n L) (x_raceRead_b L) (x_raceRead_x L) (x_raceRead_f L) (ad:=⟨Wg,1,aB⟩) (by simp[Act.eval]),200,?_⟩
  walk_nrm
  u_c zGm r hF
  u_c zGn r hF
  u_c zGn r hF
  u_reg r hF
  u_op r hF
  u_op r hF
  u_c zGm r hF
  u_cnd aF r hF
  u_c zGu r hF
  u_c zGn r hF
  u_c zGn r hF
  u_reg r hF
  iterate 3 (u_op r hF)
  u_skip r hF
  u_skip r hF
  u_op r hF
  u_op r hF
  iterate 4 (u_skip r hF)
  u_op r hF
  u_c zGm r hF
  u_cnd aF r hF
  u_c zGu r hF
  u_c zGn r hF
  u_c zGn r hF
  u_reg r hF
  iterate 3 (u_op r hF)
  u_skip r hF
  u_skip r hF
  u_op r hF
  u_c zGm r hF
  u_cnd aE r hF
  u_c zHe r hF
  refine Goes.stop (λg h=> ?_)
  replace hF:=r hF h
  clear h
  refine⟨rfl,_,stepG_unwind_entry (v:= .tuple #[]) (evs:= #[mk .enable]) rfl H.f_enable (x_enable_n L) (x_enable_b L) (x_enable_x L) (x_enable_f L) (by simp[Extern.Race.none_]) (by simp[mk]) (by simp[mk]),mT+1,?_⟩
  u_leave0 H.f_add r hF
  exact o _ hF
 .obtain⟨V,i⟩:∃V:Int,V=(v:Int)+1:=⟨_,rfl⟩;obtain⟨S,f⟩:∃S:Int,S=V*KK:=⟨_,rfl⟩;have p:IntKind.u64.wrap ((v:Int)*KK+4294967296)=S:=by rw[aCQ,f,i];simp only[KK];omega
  rw[<-i,<-f];have J:S/4294967296=V:=by rw[f];simp only[KK];omega
  have b1:bits .and aQ S 2147483648=0:=by rw[f,i];have:=st_flag (v+1) 0 (by omega) (by omega);simpa [KK]using this
  have E:bits .and aQ S 2147483647=0:=by rw[f,i];have:=st_waiters (v+1) 0 (by omega) (by omega);simpa [KK]using this
  have c1:IntKind.i32.wrap V=V:=by rw[aCR];omega
  have t:1<V:=by omega
  have s:V<2147483648:=by omega
  have q1:(V==1)=aF:=by simp;omega
  have C:decide (V=1)=aF:=zCy (by omega)
  have B:decide (V<0)=aF:=zCy (by omega)
  have A:decide (0<V)=aE:=zEi (by omega)
  have y:(V==0)=aF:=by simp;omega
  have x:decide (V=0)=aF:=zCy (by omega)
  refine⟨_,(stepG_add_atomic rfl rfl (by k_ne) rfl H.f_addU64 (x_addU64_n L) (x_addU64_b L) (x_addU64_x L) aQ (x_addU64_f L) rfl rfl b.cellSt (b.thaw 0)).trans (by rw[p];rfl),?_⟩
  show∃m,Goes P aE R DC0 (if v=0 then _ else _) m _ _
  rw[zAh (by omega)]
  refine⟨200,?_⟩
  replace hF:F (a.setCell (stA Wg) (.int aQ S))/\WgLive L.tWg Wg (a.setCell (stA Wg) (.int aQ S)):=⟨j.NM hF.1,⟨_,_,b.setSt _⟩⟩
  clear b f i p
  walk_nrm
  u_op r hF
  u_c zGm r hF
  u_c zHe r hF
  u_leave1 H.f_uAdd r hF
  u_op r hF
  u_c zGm r hF
  u_c zGn r hF
  u_c zGn r hF
  u_reg r hF
  iterate 4 (u_op r hF)
  u_skip r hF
  u_skip r hF
  u_op r hF
  u_c zGm r hF
  u_cnd aF r hF
  u_c zGu r hF
  u_c zGn r hF
  u_reg r hF
  iterate 4 (u_op r hF)
  u_c zGm r hF
  u_c zGn r hF
  u_reg r hF
  iterate 4 (u_op r hF)
  u_c zGm r hF
  u_c zGn r hF
  u_c zGn r hF
  u_reg r hF
  iterate 10 (u_op r hF)
  u_c zGm r hF
  u_cnd aF r hF
  u_c zGu r hF
  u_c zGn r hF
  u_c zGn r hF
  u_reg r hF
  u_op r hF
  u_op r hF
  u_c zGm r hF
  u_cnd aF r hF
  u_c zGu r hF
  u_c zGn r hF
  u_c zGn r hF
  u_reg r hF
  iterate 3 (u_op r hF)
  u_skip r hF
  u_skip r hF
  u_op r hF
  u_op r hF
  iterate 4 (u_skip r hF)
  u_op r hF
  u_c zGm r hF
  u_cnd aF r hF
  u_c zGu r hF
  u_c zGn r hF
  u_c zGn r hF
  u_reg r hF
  iterate 3 (u_op r hF)
  u_skip r hF
  u_skip r hF
  u_op r hF
  u_c zGm r hF
  u_cnd aE r hF
  u_c zHe r hF
  refine Goes.stop (λg h=> ?_)
  replace hF:=r hF h
  clear h
  refine⟨rfl,_,stepG_unwind_entry (v:= .tuple #[]) (evs:= #[mk .enable]) rfl H.f_enable (x_enable_n L) (x_enable_b L) (x_enable_x L) (x_enable_f L) (by simp[Extern.Race.none_]) (by simp[mk]) (by simp[mk]),mT+1,?_⟩
  u_leave0 H.f_add r hF
  exact o _ hF
end
end Go.Wg
namespace Go.Wg
open Go.Conc Go.RowKit Go.Conc.Lib Go.ConcR.Gen Go.ConcN Go.ConcN.Gen
open Go.ConcR (KK wgBlock WgAt stA smA rd wr mk Payload DC0)
variable {L:WgLink}
section
variable {P:zZ}{mn:Bool}{R:zW->zW->Prop}{F:zW->Prop}{Wg:Nat}{b₀:zC}{a₀:Act}{ops₀:zQ}{i₀:Nat}{rest₀:List Nat}{k₀:zI}{cs:zL}{Fin:zU}{mT:Nat}
def waitStart [Payload] (H:WgLib P L)(a:Cn L.tWg Wg R F)(w:zW)(hF:F w/\WgLive L.tWg Wg w):
  On P mn R (iE P mn .disable (On P mn R (AnchWN L F Wg (b₀.at a₀ (aM ops₀ (i₀::rest₀)::k₀)) cs)))
   (G ((base L.wait).at ⟨#[.pointer (aA ⟨Wg,0,aB⟩)]++Array.replicate 83 undef,[]⟩ [.code (body_wait L)]) (b₀.at a₀ (aM ops₀ (i₀::rest₀)::k₀)::cs)) w:=by
 lib_facts
 simp only[body_wait,waitFn,zCc]
 refine⟨200,?_⟩
 walk_nrm
 u_c zGn a.rely hF
 u_cnd aE a.rely hF
 u_reg a.rely hF
 refine Goes.stop (λd h=> ?_)
 replace hF:=a.rely hF h
 clear h
 refine⟨rfl,_,stepG_mark0 .disable (by simp) rfl rfl (by k_ne) rfl H.f_disable (x_disable_n L) (x_disable_b L) (x_disable_x L) (x_disable_f L),200,?_⟩
 walk_nrm
 u_c zGm a.rely hF
 u_c stepG_block a.rely hF
 u_c stepG_loop a.rely hF
 exact Goes.stop (λc b=>⟨_,rfl,by simp,by simp,a.rely hF b⟩)
def an (P:zZ)(mn:Bool)(R:zW->zW->Prop)(Wg:Nat)(Fin:zU):zU:=On P mn R (iE P mn .enable (On P mn R (iE P mn (.acquire (stA Wg)) (On P mn R Fin))))
def waitRound [Payload] (H:WgLib P L)(x:Cn L.tWg Wg R F)(A:∀w,F w/\WgLive L.tWg Wg w->Goes P mn R DC0 Fin mT (G (b₀.at (a₀.put ((ops₀[i₀]?).bind (·.dst)) (.tuple #[])) (aM ops₀ rest₀::k₀)) cs) w)
  (g:zH) (w:zW) (h:AnchWN L F Wg (b₀.at a₀ (aM ops₀ (i₀::rest₀)::k₀)) cs g w):
  On P mn R (ar P mn L.tWg Wg (an P mn R Wg Fin) λv=>On P mn R (Sr P mn L.tWg Wg v
   (On P mn R (iE P mn (.write (smA Wg)) (On P mn R (Sn P mn L.tWg Wg (On P mn R (No P mn L.tWg Wg (an P mn R Wg Fin)))))))
   (On P mn R (AnchWN L F Wg (b₀.at a₀ (aM ops₀ (i₀::rest₀)::k₀)) cs)))) g w:=by
 have r:= @x.rely
 lib_facts
 obtain⟨T,rfl,t,t0,hF⟩:=h
 obtain⟨v0,v1,v2,v3,v4,v5,v6,v7,v8,v9,v10,v11,v12,v13,v14,v15,v16,v17,v18,v19,v20,v21,v22,v23,v24,v25,v26,v27,v28,v29,v30,v31,v32,v33,v34,v35,v36,v37,v38,v39,v40,v41,v42,Z,v44,v45,v46,Y,X,v49,v50,v51,W,v53,v54,v55,V,U,v58,v59,v60,Q,O,N,v64,M,v66,v67,K,J,v70,I,v72,E,D,v75,v76,v77,v78,v79,v80,C,v82,B,rfl⟩:=array84 T t
 simp only[zDj,zDc,Option.some.injEq]at t0
 subst t0
 refine⟨200,?_⟩
 simp only[L7,body_wait,waitFn,zCc]
 u_c stepG_block r hF
 u_c zGn r hF
 u_reg r hF
 iterate 3 (u_op r hF)
 u_call H.f_uLoad (nm_uLoad L) uLoadFn r hF
 u_c zGn r hF
 u_reg r hF
 u_op r hF
 u_c zGm r hF
 u_c zGn r hF
 u_reg r hF
 iterate 3 (u_op r hF)
 refine Goes.stop (λq l=> ?_)
 replace hF:=r hF l
 clear l
 refine⟨rfl,λv hv a=> ?_⟩
 obtain rfl|hvp:=zEu v
 .replace a:WgAt L.tWg Wg q 0 0:=by simpa using a
  refine⟨_,stepG_load_atomic (v:=0) rfl rfl (by k_ne) rfl H.f_loadU64 (x_loadU64_n L) (x_loadU64_b L) (x_loadU64_x L) aQ (x_loadU64_f L) rfl a.cellSt,λ_=>⟨200,?_⟩,λh=>absurd rfl h⟩;clear a;walk_nrm;u_op r hF;u_c zGm r hF;u_c zHe r hF;u_leave1 H.f_uLoad r hF;u_op r hF;u_c zGm r hF;u_c zGn r hF;u_reg r hF;iterate 4 (u_op r hF)
  u_c zGm r hF
  u_c zGn r hF
  u_reg r hF
  iterate 4 (u_op r hF)
  u_c zGm r hF
  u_c zGn r hF
  u_c zGn r hF
  u_reg r hF
  u_op r hF
  u_op r hF
  u_c zGm r hF
  u_cnd aE r hF
  u_c zGn r hF
  u_cnd aE r hF
  u_c zGn r hF
  u_reg r hF
  refine Goes.stop (λp c=> ?_)
  replace hF:=r hF c
  clear c
  refine⟨rfl,_,stepG_mark0 .enable (by simp) rfl rfl (by k_ne) rfl H.f_enable (x_enable_n L) (x_enable_b L) (x_enable_x L) (x_enable_f L),200,?_⟩
  walk_nrm
  u_c zGm r hF
  u_reg r hF
  u_op r hF
  u_conv H.underlying_tWgP H.room_tWg (WgLive.cell0 hF.2).choose_spec r hF
  refine Goes.stop (λo b=> ?_)
  replace hF:=r hF b
  clear b
  refine⟨rfl,_,stepG_markAt .acquire (by simp) rfl rfl (by k_ne) rfl H.f_acquire (x_acquire_n L) (x_acquire_b L) (x_acquire_x L) (x_acquire_f L) (by simp[Act.eval,stA]),⟨mT+60,?_⟩⟩
  walk_nrm
  u_c zGm r hF
  u_c zGn r hF
  u_c zGn r hF
  u_reg r hF
  iterate 8 (u_op r hF)
  u_skip r hF
  u_skip r hF
  u_op r hF
  u_c zGm r hF
  u_cnd aF r hF
  u_c zGu r hF
  u_c zHe r hF
  u_leave0 H.f_wait r hF
  exact(A _ hF).mono (by omega)
 .obtain⟨S,m⟩:∃S:Int,(v:Int)*KK=S:=⟨_,rfl⟩;have a1:S/4294967296=(v:Int):=by rw[<-m];simp only[KK];omega
  have b1:bits .and aQ S 2147483648=0:=by rw[<-m];have:=st_flag v 0 (by omega) (by omega);simpa [KK]using this
  have b2:bits .and aQ S 2147483647=0:=by rw[<-m];have:=st_waiters v 0 (by omega) (by omega);simpa [KK]using this
  have c1:IntKind.i32.wrap (v:Int)=(v:Int):=by rw[aCR];omega
  have w1:IntKind.u64.wrap (S+1)=S+1:=by rw[aCQ,<-m];simp only[KK];omega
  have q3:decide ((v:Int)<0)=aF:=zCy (by omega)
  have q4:decide (0<(v:Int))=aE:=zEi (by omega)
  have q5:((v:Int)==0)=aF:=by simp;omega
  have q6:decide ((v:Int)=0)=aF:=zCy (by omega)
  rw[m]at a
  refine⟨_,stepG_load_atomic (v:=S) rfl rfl (by k_ne) rfl H.f_loadU64 (x_loadU64_n L) (x_loadU64_b L) (x_loadU64_x L) aQ (x_loadU64_f L) rfl a.cellSt,λh0=>absurd h0 (by omega),λ_=>⟨200,?_⟩⟩
  clear a
  walk_nrm
  u_op r hF
  u_c zGm r hF
  u_c zHe r hF
  u_leave1 H.f_uLoad r hF
  u_op r hF
  u_c zGm r hF
  u_c zGn r hF
  u_reg r hF
  iterate 4 (u_op r hF)
  u_c zGm r hF
  u_c zGn r hF
  u_reg r hF
  iterate 4 (u_op r hF)
  u_c zGm r hF
  u_c zGn r hF
  u_c zGn r hF
  u_reg r hF
  u_op r hF
  u_op r hF
  u_c zGm r hF
  u_cnd aF r hF
  u_c zGu r hF
  u_c zGn r hF
  u_reg r hF
  iterate 6 (u_op r hF)
  u_call H.f_uCas (nm_uCas L) uCasFn r hF
  u_c zGn r hF
  u_reg r hF
  u_op r hF
  u_c zGm r hF
  u_c zGn r hF
  u_reg r hF
  iterate 5 (u_op r hF)
  refine Goes.stop (λi k=> ?_)
  replace hF:=r hF k
  clear k
  refine⟨rfl,λv' hv' a=>⟨λe=> ?_,λe=> ?_⟩⟩
  .subst e;rw[m]at a⊢;refine⟨_,(stepG_cas_hit (v:=S) (n:=S+1) rfl rfl (by k_ne) rfl H.f_casU64 (x_casU64_n L) (x_casU64_b L) (x_casU64_x L) aQ (x_casU64_f L) rfl rfl rfl a.cellSt (a.thaw 0)).trans (by rfl),200,?_⟩;replace hF:F (i.setCell (stA Wg) (.int aQ (S+1)))/\WgLive L.tWg Wg (i.setCell (stA Wg) (.int aQ (S+1))):=⟨x.NM hF.1,⟨_,_,a.setSt _⟩⟩;clear a;walk_nrm;u_op r hF;u_c zGm r hF;u_c zHe r hF;u_leave1 H.f_uCas r hF;u_c zGm r hF;u_cnd aE r hF;u_c zGn r hF;u_c zGn r hF;u_reg r hF;iterate 4 (u_op r hF)
   u_c zGm r hF;u_cnd aE r hF;u_reg r hF;iterate 3 (u_op r hF)
   u_conv H.underlying_tPU32 H.room_tU32 (WgLive.cell1 hF.2).choose_spec r hF
   refine Goes.stop (λf d=> ?_)
   replace hF:=r hF d
   clear d
   refine⟨rfl,_,stepG_markAt .write (by simp) rfl rfl (by k_ne) rfl H.f_raceWrite (x_raceWrite_n L) (x_raceWrite_b L) (x_raceWrite_x L) (x_raceWrite_f L) (ad:=⟨Wg,1,aB⟩) (by simp[Act.eval]),200,?_⟩
   walk_nrm
   u_c zGm r hF
   u_c zGn r hF
   u_reg r hF
   u_op r hF
   u_c zGm r hF
   u_c zGn r hF
   u_c zGn r hF
   u_reg r hF
   iterate 4 (u_op r hF)
   u_skip r hF
   u_op r hF
   u_c zGm r hF
   u_cnd aF r hF
   u_c zGu r hF
   u_c zGn r hF
   u_reg r hF
   iterate 4 (u_op r hF)
   refine Goes.stop (λf d=> ?_)
   replace hF:=r hF d
   clear d
   refine⟨rfl,rfl,λ⟨st,a⟩=>stepG_semacquire_wait rfl rfl rfl H.f_semacquire (x_semacquire_n L) (x_semacquire_b L) (x_semacquire_x L) (x_semacquire_f L) (by simp[Act.eval,smA]) a.cellSm,λu=> ?_⟩
   refine⟨_,(stepG_semacquire (n:=1) rfl rfl (by k_ne) rfl H.f_semacquire (x_semacquire_n L) (x_semacquire_b L) (x_semacquire_x L) (x_semacquire_f L) (by simp[Act.eval,smA]) u.cellSm (by k_ne) (u.thaw 1)).trans (by rfl),200,?_⟩
   replace hF:F (f.setCell (smA Wg) (.int aO 0))/\WgLive L.tWg Wg (f.setCell (smA Wg) (.int aO 0)):=⟨x.Xf hF.1,⟨_,_,u.setSm 0⟩⟩
   clear u
   walk_nrm
   u_c zGm r hF
   u_c zGn r hF
   u_reg r hF
   iterate 3 (u_op r hF)
   u_call H.f_uLoad (nm_uLoad L) uLoadFn r hF
   u_c zGn r hF
   u_reg r hF
   u_op r hF
   u_c zGm r hF
   u_c zGn r hF
   u_reg r hF
   iterate 3 (u_op r hF)
   refine Goes.stop (λz j=> ?_)
   replace hF:=r hF j
   clear j
   refine⟨rfl,λa=>⟨_,stepG_load_atomic (v:=0) rfl rfl (by k_ne) rfl H.f_loadU64 (x_loadU64_n L) (x_loadU64_b L) (x_loadU64_x L) aQ (x_loadU64_f L) rfl a.cellSt,200,?_⟩⟩
   clear a
   walk_nrm
   u_op r hF
   u_c zGm r hF
   u_c zHe r hF
   u_leave1 H.f_uLoad r hF
   u_op r hF
   u_op r hF
   u_c zGm r hF
   u_c zGn r hF
   u_cnd aE r hF
   u_c zGn r hF
   u_reg r hF
   refine Goes.stop (λp c=> ?_)
   replace hF:=r hF c
   clear c
   refine⟨rfl,_,stepG_mark0 .enable (by simp) rfl rfl (by k_ne) rfl H.f_enable (x_enable_n L) (x_enable_b L) (x_enable_x L) (x_enable_f L),200,?_⟩
   walk_nrm
   u_c zGm r hF
   u_reg r hF
   u_op r hF
   u_conv H.underlying_tWgP H.room_tWg (WgLive.cell0 hF.2).choose_spec r hF
   refine Goes.stop (λo b=> ?_)
   replace hF:=r hF b
   clear b
   refine⟨rfl,_,stepG_markAt .acquire (by simp) rfl rfl (by k_ne) rfl H.f_acquire (x_acquire_n L) (x_acquire_b L) (x_acquire_x L) (x_acquire_f L) (by simp[Act.eval,stA]),⟨mT+60,?_⟩⟩
   walk_nrm
   u_c zGm r hF
   u_c zGn r hF
   u_c zGn r hF
   u_reg r hF
   u_op r hF
   u_c zGm r hF
   u_cnd aF r hF
   u_c zGu r hF
   u_c zHe r hF
   u_leave0 H.f_wait r hF
   exact(A _ hF).mono (by omega)
  .refine⟨_,stepG_cas_miss (v:=(v':Int)*KK) (old:=S) (n:=S+1) rfl rfl (by k_ne) rfl H.f_casU64 (x_casU64_n L) (x_casU64_b L) (x_casU64_x L) aQ (x_casU64_f L) rfl rfl rfl a.cellSt (a.thaw 0) (by rw[<-m];simp only[KK];omega),200,?_⟩;clear a;walk_nrm;u_op r hF;u_c zGm r hF;u_c zHe r hF;u_leave1 H.f_uCas r hF;u_c zGm r hF;u_cnd aF r hF;u_c zGu r hF;u_c stepG_inBlock r hF;u_c stepG_inLoop r hF;exact Goes.stop (λy s=>⟨_,rfl,by simp,by simp,r hF s⟩)
end
end Go.Wg
