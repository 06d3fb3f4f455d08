import Derived.Below
import Derived.Test.YtghpcgagijhlaaaGreatDoorP10
set_option linter.all false
set_option maxRecDepth 100000
set_option maxHeartbeats 16000000
open Option renaming some->aA,none->aB
open Bool renaming true->aE,false->aF
open Or renaming inl->aG,inr->aH
open Go.IntKind renaming u64->aQ
namespace Go.Ga
open Go.Conc Go.Ren Go.Tr Go.Wg
open Go.ConcR (KK WgAt stA smA mk DC0)
open Go.ConcN (WgLive sumTo sumTo_congr)
variable(S:Sp)
def Sp.ph (f:Nat->Span)(i:Nat):Nat:=(f (S.m0+i)).1
def Sp.V (f:Nat->Span):Nat:=sumTo S.n λi=>if 5<=S.ph f i then 1 else 0
def Sp.U (f:Nat->Span):Nat:=sumTo S.n λi=>if 8<=S.ph f i then 1 else 0
def Sp.Rc (f:Nat->Span):zP:=λi=>i<S.n/\S.ph f i<=7
def Sp.kO (f:Nat->Span)(i:Nat):Prop:=1<=S.ph f i/\S.ph f i<=3
def Sp.kI (f:Nat->Span):Prop:=∀i,i<S.n->¬S.kO f i
def Sp.kD (f:Nat->Span)(i:Nat):Prop:=i<S.n/\∀k,k<S.n->k≠i->¬S.kO f k
inductive Sp.Mode (f:Nat->Span)(st:GoStatus)(w:zW):Prop
 |a (hc:8<=S.ph f S.n) (hl:S.kI f) (hw:WgAt S.ty S.Wg w (S.V f*KK) 0)
 |b (hc:S.ph f S.n=7\/S.ph f S.n=6) (hv:0<S.V f) (hl:S.kI f) (hw:WgAt S.ty S.Wg w (S.V f*KK+1) 0)
 |c (hc:S.ph f S.n=7\/S.ph f S.n=6) (hv:S.V f=0) (i:Nat) (hl:S.kD f i) (hi:S.ph f i=3\/S.ph f i=2) (hw:WgAt S.ty S.Wg w 1 0)
 |c' (hc:S.ph f S.n=7\/S.ph f S.n=6) (hv:S.V f=0) (i:Nat) (hl:S.kD f i) (hi:S.ph f i=1) (hw:WgAt S.ty S.Wg w 0 0)
 |d (hc:S.ph f S.n=7\/S.ph f S.n=6) (hv:S.V f=0) (hl:S.kI f) (hw:WgAt S.ty S.Wg w 0 1) (hs:st≠.blocked)
 |e (hc:S.ph f S.n<=5) (hv:S.V f=0) (hl:S.kI f) (hw:WgAt S.ty S.Wg w 0 0)
def Sp.VN (R:zP)(u V:Nat)(rs ws:Nat->zP)(k:Nat)(f:Span)(d:Nat)(g:zH)(w:zW):Prop:=
 (k=0->d=0/\S.JO R (rs k) (ws k) u f g w)/\(0<k->k<S.m0->∃q,f=(0,.nat q)/\QuitsD S.P q d g)/\
  (∀i,i<S.n->k=S.m0+i->S.WSit (S.val i) (rs k) (ws k) f d g w)/\(k=S.m0+S.n->S.CSit V (rs k) (ws k) f d g w)
def Sp.Live (f:Nat->Span):zP:=λk=>(∃i,i<S.n/\k=S.m0+i/\8<=S.ph f i)\/k=S.m0+S.n
structure Sp.dQ (f:Nat->Span)(gs:zG)(w:zW)(t:Trace)(rs ws:Nat->zP):Prop where
 pos:0<S.m0
 rG:S.n<2147483647
 size:gs.size=S.m0+S.n+1
 base:S.Base (S.m0+S.n+1) w t rs ws (S.m0+S.n) (S.Live f)
 cr:∃k tm,w.heap[S.Cr]? =aA (.chan 0 #[] aF k k tm)
 cd:∃s r tm,w.heap[S.Cd]? =aA (.chan 0 #[] (decide (S.ph f S.n=0)) s r tm)
 FP:∀k g,gs[k]? =aA g->S.VN (S.Rc f) (S.U f) (S.V f) rs ws k (f k) (Deaf t k) g w
 mode:∀g,gs[S.m0+S.n]? =aA g->S.Mode f g.status w
 bc:(f 0).1=3*S.U f+1->∀i,i<S.n->S.ph f i≠8
 shut:S.ph f S.n=0->(f 0).1≠3*S.U f+1
 tries:(f 0).1=3*S.U f->S.ph f S.n=0
 Fg:S.ph f S.n=0->∃ic,t.act? ic=aA (.close S.Cd)/\t.heard ic/\∀i op a,t[i]? =aA op->op.g=S.m0+S.n->touchAt t i=aA a->Before t i ic
def bit (a:zG)(k:Nat):Nat:=match a[k]? with
 |some g=>if g.status= .blocked then 0 else 1
 |none=>0
def Sp.mu (f:Nat->Span)(g:zG):Mu:=(0,S.V f,vec (S.m0+S.n+1) f,bit g (S.m0+S.n))
variable {S}
def gY {f:Nat->Span}{j:Nat}{s:Span}(h:∀i,i<S.n->j=S.m0+i->(8<=s.1↔8<=(f j).1)/\(5<=s.1↔5<=(f j).1)):
  S.Rc (put f j s)=S.Rc f/\S.U (put f j s)=S.U f/\S.V (put f j s)=S.V f:=by
 have k:∀i,i<S.n->(8<=S.ph (put f j s) i↔8<=S.ph f i)/\(5<=S.ph (put f j s) i↔5<=S.ph f i):=λi a=>by
  by_cases e:S.m0+i=j
  .subst e;simp only[Sp.ph,aZ];exact h i a rfl
  .simp only[Sp.ph,bJ _ _ e,true_and]
 refine⟨?_,?_,?_⟩
 .funext i;apply propext;unfold Sp.Rc;constructor
  .rintro⟨a,b⟩;have:=(k i a).1;exact⟨a,by omega⟩
  .rintro⟨a,b⟩;have:=(k i a).1;exact⟨a,by omega⟩
 .exact zHg λi a=>by simp only[(k i a).1]
 .exact zHg λi a=>by simp only[(k i a).2]
def Sp.VN.rely {R:zP}{u V:Nat}{rs ws:Nat->zP}{k:Nat}{f:Span}{d:Nat}{g:zH}{w w₁:zW}(h:S.VN R u V rs ws k f d g w)(r:cQ (rs k) (ws k) w w₁)(j:S.J w₁):S.VN R u V rs ws k f d g w₁:=
 ⟨λe=>⟨(h.1 e).1,(h.1 e).2.rely r⟩,h.2.1,λi a e=>(h.2.2.1 i a e).rely r j,λe=>(h.2.2.2 e).rely r j⟩
def Sp.Goes.run {Stop:zU}{m:Nat}{g:zH}{w:zW}(h:S.Goes Stop m g w)(j:S.J w)(hs:∀g w,Stop g w->g.status= .running):g.status= .running:=
 Go.Conc.Goes.running hs w j h
def UZ {main:Bool}{St:(zP)->(zP)->zU}{t:Tree}{rs ws:zP}{g:zH}{w:zW}(h:cX S.P main S.J St t rs ws g w)(j:S.J w)(hs:∀rs ws g w,St rs ws g w->g.status= .running):g.status= .running:=by
 cases t with
 |leaf=>exact hs _ _ _ _ (h w (cQ.refl _ _ w) j)
 |node ch=>exact h.1
def Sp.WSit.status {v:zY}{rs ws:zP}{f:Span}{d:Nat}{g:zH}{w:zW}(h:S.WSit v rs ws f d g w)(j:S.J w):(f.1≠8/\g.status= .running)\/(f.1=8/\g.status= .blocked)\/(f.1=0/\g.status= .finished):=by
 cases h with
 |busy h=>exact aG ⟨by simp,UZ h j λ_ _ _ _ x=>x.1⟩
 |parked h=>exact aH (aG ⟨rfl,rfl⟩)
 |rm h=>exact aG ⟨by simp,h.run j λ_ _ x=>x.1⟩
 |ED h=>exact aG ⟨by simp,h.run j λ_ _ x=>x.1⟩
 |dn h=>exact aG ⟨by simp,h.run j λ_ _ x=>x.1⟩
 |one h=>exact aG ⟨by simp,h.run j λ_ _ x=>x.1⟩
 |null h=>exact aG ⟨by simp,h.run j λ_ _ x=>x.1⟩
 |rel h=>exact aG ⟨by simp,h.run j λ_ _ x=>x.1⟩
 |quit h=>exact h.status.elim (λx=>aG ⟨by simp,x⟩) λx=>aH (aH ⟨rfl,x⟩)
def Sp.WSit.woken {v:zY}{rs ws:zP}{f:Span}{d:Nat}{g x b:zH}{w:zW}{k s r:Nat}{tm:Bool}(h:S.WSit v rs ws f d g w)(j:S.J w)(c:w.heap[S.Cr]? =aA (.chan k #[] aF s r tm)):Go.Conc.woken S.P x b w g=g:=by
 obtain a|a|a:=h.status j
 .exact woken_running a.2
 .cases h with
  |parked h=>exact woken_send_open x b c
  |quit h=>exact woken_quitsD h
  |_=>exact absurd a.1 (by simp)
 .cases h with
  |quit h=>exact woken_quitsD h
  |_=>exact absurd a.1 (by simp)
end Go.Ga
namespace Go.Ga
open Go.Conc Go.Ren Go.Tr Go.Wg
open Go.ConcR (KK WgAt stA smA mk DC0)
open Go.ConcN (WgLive sumTo sumTo_congr)
variable {S:Sp}
structure Sp.Good (S:Sp):Prop where
 anch:∀g w,S.J w->S.lH g w->g.status= .running/\S.On S.de g w
 Xk:∀R rs ws g w,S.J w->S.M R rs ws g w->g.status= .running/\∃yR sh zr zd,stepG S.P aE g w= .comm yR (S.cases zr zd) aE sh w #[]/\S.Nd R rs ws yR sh zr zd w
 chans:S.Cr≠S.Cd/\S.Wg≠S.Cr/\S.Wg≠S.Cd
def Sp.CSit.status {V:Nat}{rs ws:zP}{f:Span}{d:Nat}{g:zH}{w:zW}(H:S.Good)(h:S.CSit V rs ws f d g w)(j:S.J w):g.status= .running\/(f.1=6/\g.status= .blocked)\/(f.1=0/\g.status= .finished):=by
 cases h with
 |busy h=>exact aG (UZ h j λ_ _ _ _ x=>x.1)
 |CQ h a=>exact aG (h.run j λ_ _ x=>x.1)
 | @anch m g w h=>
  cases m with
  |zero=>exact aG (H.anch _ _ j (h w j)).1
  |succ m=>exact h.elim (λx=>aG (H.anch _ _ j (x w j)).1) λx=>aG x.1
 |ld h=>exact aG (h.run j λ_ _ x=>x.1)
 |Vh h a=>exact aG (h.run j λ_ _ x=>x.1)
 |wm h=>exact aG (h.run j λ_ _ x=>x.1)
 |Eb h=>exact aG (h.run j λ_ _ x=>x.1)
 |blk h c b=>exact aH (aG ⟨rfl,rfl⟩)
 |zero h=>exact aG (h.run j λ_ _ x=>x.1)
 |en h=>exact aG (h.run j λ_ _ x=>x.1)
 |acq h=>exact aG (h.run j λ_ _ x=>x.1)
 |cl h=>exact aG (h.run j λ_ _ x=>x.1)
 |quit h=>exact h.status.elim aG λx=>aH (aH ⟨rfl,x⟩)
def Sp.CSit.woken {V:Nat}{rs ws:zP}{f:Span}{d:Nat}{g x i:zH}{w:zW}(H:S.Good)(h:S.CSit V rs ws f d g w)(j:S.J w):S.CSit V rs ws f d (Go.Conc.woken S.P x i w g) w:=by
 obtain a|a|a:=h.status H j
 .rw[woken_running a];exact h
 .cases h with
  | @blk m g w h c b=>
   unfold Go.Conc.woken;split
   .have e:({g with status:= .blocked}:zH).again w=g:=by
     obtain⟨k,cs,st,off,x⟩:=g;simp only at c b;subst c;subst b;simp[Goroutine.again]
    rw[e];exact .Eb h
   .exact .blk h c b
  |quit h=>rw[woken_quitsD h];exact .quit h
  |Eb h=>rw[h.run j λ_ _ x=>x.1]at a;exact absurd a.2 (by simp)
  |_=>exact absurd a.1 (by simp)
 .cases h with
  |quit h=>rw[woken_quitsD h];exact .quit h
  |_=>exact absurd a.1 (by simp)
def Sp.JO.status {R rs ws:zP}{u:Nat}{f:Span}{g:zH}{w:zW}(H:S.Good)(h:S.JO R rs ws u f g w)(j:S.J w):(g.status= .running/\(f.1=3*u+2\/f.1=3*u))\/(f.1=3*u+1/\g.status= .blocked):=by
 cases h with
 | @busy a g w h=>
  cases a with
  |leaf=>exact aG ⟨(H.Xk _ _ _ _ _ j (h w (cQ.refl _ _ w) j)).1,aG rfl⟩
  |node ch=>exact aG ⟨h.1,aG rfl⟩
 |parked h=>exact aH ⟨rfl,rfl⟩
 |tries h=>exact aG ⟨rfl,aH rfl⟩
def Sp.JO.woken {R rs ws:zP}{u:Nat}{f:Span}{g x i:zH}{w:zW}{s r s' r' c c':Nat}{tm tm':Bool}(H:S.Good)(h:S.JO R rs ws u f g w)(j:S.J w)(k:w.heap[S.Cr]? =aA (.chan c #[] aF s r tm))(e:f.1=3*u+1->w.heap[S.Cd]? =aA (.chan c' #[] aF s' r' tm')):
  Go.Conc.woken S.P x i w g=g:=by
 obtain a|a:=h.status H j
 .exact woken_running a.1
 .have d:=e a.1;clear e;cases h with
  |parked h=>
   refine woken_of_again (again_all_open λl b=> ?_);simp only[Sp.cases,zAp,zAg,zAt,zCp]at b;obtain rfl|rfl:=b
   .exact⟨_,_,_,_,_,_,_,rfl,k⟩
   .exact⟨_,_,_,_,_,_,_,rfl,d⟩
  |busy h=>exact absurd a.1 (by simp)
  |tries h=>exact absurd a.1 (by simp)
def Sp.VN.other {R:zP}{u V:Nat}{rs ws:Nat->zP}{k:Nat}{f:Span}{d:Nat}{g x o:zH}{w w₁:zW}{s r s' r' c c':Nat}{tm tm':Bool}(H:S.Good)(h:S.VN R u V rs ws k f d g w)(b:cQ (rs k) (ws k) w w₁)(j:S.J w₁)
  (m:w₁.heap[S.Cr]? =aA (.chan c #[] aF s r tm)) (p:k=0->f.1=3*u+1->w₁.heap[S.Cd]? =aA (.chan c' #[] aF s' r' tm')):S.VN R u V rs ws k f d (Go.Conc.woken S.P x o w₁ g) w₁:=by
 have a:=h.rely b j
 refine⟨λe=>⟨(a.1 e).1,?_⟩,λz y=> ?_,λi l e=> ?_,λe=>(a.2.2.2 e).woken H j⟩
 .rw[(a.1 e).2.woken H j m (p e)];exact(a.1 e).2
 .obtain⟨q,v,n⟩:=a.2.1 z y;rw[woken_quitsD n];exact⟨q,v,n⟩
 .rw[(a.2.2.1 i l e).woken j m];exact a.2.2.1 i l e
def Sp.Mode.same {f f':Nat->Span}{st r:GoStatus}{w w':zW}(h:S.Mode f st w)(u:∀i,i<=S.n->S.ph f' i=S.ph f i)(l:w'.heap[S.Wg]? =w.heap[S.Wg]?)(hs:st≠.blocked->r≠.blocked):S.Mode f' r w':=by
 have F:S.V f'=S.V f:=zHg λi p=>by rw[u i (by omega)]
 have H:=u S.n (zAa _)
 have G:∀i,i<S.n->(S.kO f' i↔S.kO f i):=λi p=>by unfold Sp.kO;rw[u i (by omega)]
 have o:S.kI f->S.kI f':=λx i p y=>x i p ((G i p).1 y)
 have z:∀i,S.kD f i->S.kD f' i:=λi x=>⟨x.1,λk E C y=>x.2 k E C ((G k E).1 y)⟩
 have q:∀st D,WgAt S.ty S.Wg w st D->WgAt S.ty S.Wg w' st D:=λ_ _ x=>l.trans x
 cases h with
 |a v m l=>exact .a (by omega) (o m) (by rw[F];exact q _ _ l)
 |b v A m l=>exact .b (by omega) (by omega) (o m) (by rw[F];exact q _ _ l)
 |c v A i m p l=>exact .c (by omega) (by omega) i (z i m) (by rw[u i (by have:=m.1;omega)];exact p) (q _ _ l)
 |c' v A i m p l=>exact .c' (by omega) (by omega) i (z i m) (by rw[u i (by have:=m.1;omega)];exact p) (q _ _ l)
 |d v A m l B=>exact .d (by omega) (by omega) (o m) (q _ _ l) (hs B)
 |e v A m l=>exact .e (by omega) (by omega) (o m) (q _ _ l)
def iT (gs:zG)(a:zH->zH)(j k:Nat)(x g:zH)(h:((gs.map a).setIfInBounds j x)[k]? =aA g):(k=j/\g=x)\/(k≠j/\∃y,gs[k]? =aA y/\g=a y):=by
 by_cases e:j=k
 .subst e;by_cases c:j<gs.size
  .rw[zAo (by simpa using c)]at h;exact aG ⟨rfl,(zAm h).symm⟩
  .rw[zBk (by simp;omega)]at h;cases h
 .rw[zAd e,zCt]at h;obtain⟨y,b,rfl⟩:=zBx.1 h;exact aH ⟨λx=>e x.symm,y,b,rfl⟩
section
variable {f:Nat->Span}{gs:zG}{w w':zW}{t:Trace}{rs ws:Nat->zP}{j:Nat}{g g':zH}{es:zE}{fn:zN}{pos:String}{s:Span}
def Sp.dQ.oW {f':Nat->Span}(H:S.Good)(h:S.dQ f gs w t rs ws)(hj:gs[j]? =aA g)(hd:Go.Ren.Does (Sp.JQ (S:=S) (ws j)) w w')(hJ:S.J w')(he:∀e∈es,EvS S (S.m0+S.n) j (rs j) (grown (ws j) w w') e)
  (hl:j=0\/S.Live f j\/∀k e,es[k]? =aA e->(MemAct.ofEvent e).touch? =aB\/((∃a wr,e=⟨.cell a,wr,aE⟩/\a.block=S.Wg)/\0<deafBehind (Deaf t j) (es.extract 0 k)))
  (I:w'.heap[S.Cr]? =w.heap[S.Cr]?) (K:w'.heap[S.Cd]? =w.heap[S.Cd]?)
  (v:S.Live f'=S.Live f) (L:S.U f'=S.U f) (c:(f' 0).1=(f 0).1\/(f' 0).1=3*S.U f+2) (b:S.ph f' S.n=0↔S.ph f S.n=0) (h8:∀i,i<S.n->S.ph f' i=8->S.ph f i=8)
  (G:∀k x,k≠j->S.VN (S.Rc f) (S.U f) (S.V f) rs ws k (f k) (Deaf t k) x w->S.VN (S.Rc f') (S.U f') (S.V f') rs ws k (f' k) (Deaf t k) x w)
  (D:S.VN (S.Rc f') (S.U f') (S.V f') rs (put ws j (grown (ws j) w w')) j (f' j) (deafBehind (Deaf t j) es) g' w')
  (u:∀y,((gs.map (Go.Conc.woken S.P g g' w')).setIfInBounds j g')[S.m0+S.n]? =aA y->S.Mode f' y.status w')
  (hk:j=S.m0+S.n->S.ph f S.n=0->∀e∈es,(MemAct.ofEvent e).touch? =aB):
  S.dQ f' ((gs.map (Go.Conc.woken S.P g g' w')).setIfInBounds j g') w' (t++MemOp.ofEvents j fn pos es) rs (put ws j (grown (ws j) w w')):=by
 have hjs:j<gs.size:=(zAb.1 hj).1
 have Z:=h.pos
 have M:=h.size
 have o:∀op∈MemOp.ofEvents j fn pos es,op.g=j:=λop l=>by obtain⟨e,_,rfl⟩:=Go.Conc.mem_ofEvents l;rfl
 obtain⟨C,B,p⟩:=h.cr
 obtain⟨s0,r0,tm1,q⟩:=h.cd
 refine⟨h.pos,h.rG,by simp[M],?_,⟨C,B,I.trans p⟩,⟨s0,r0,tm1,?_⟩,λk y hy=> ?_,u,λE i A=> ?_,λd=> ?_,λd=> ?_,λd=> ?_⟩
 .rw[v];exact h.base.own (by omega) hd hJ he hl
 .rw[K,q];simp only[b]
 .obtain⟨rfl,rfl⟩|⟨m,z,d,rfl⟩:=iT _ _ _ _ _ _ hy
  .rw[Deaf_own];exact D
  .rw[Deaf_other t (λe=>m e.symm) _ o];have Y:=G k z m (h.FP k z d);have e1:put ws j (grown (ws j) w w') k=ws k:=bJ _ _ m;have N:S.VN (S.Rc f') (S.U f') (S.V f') rs (put ws j (grown (ws j) w w')) k (f' k) (Deaf t k) z w:=by
    unfold Sp.VN at Y⊢;rw[e1];exact Y
   refine N.other (s:=C) (r:=C) (tm:=B) (s':=s0) (r':=r0) (tm':=tm1) (c':=0) H ?_ hJ (I.trans p) (λC E=> ?_)
   .rw[e1];exact h.base.lK hd m
   .subst C;rw[L]at E;have O:(f 0).1=3*S.U f+1:=by
     obtain c|c:=c
     .omega
     .omega
    have:S.ph f S.n≠0:=λe=>h.shut e O;rw[K,q];simp[this]
 .rw[L]at E;obtain c|c:=c
  .rw[c]at E;exactλe=>h.bc E i A (h8 i A e)
  .omega
 .rw[L];obtain c|c:=c
  .rw[c];exact h.shut (b.1 d)
  .omega
 .rw[L]at d;obtain c|c:=c
  .rw[c]at d;exact b.2 (h.tries d)
  .omega
 .obtain⟨ic,h1,h2,h3⟩:=h.Fg (b.1 d);have bU:=lt_of_act? h1;refine⟨ic,by rw[act?_old bU];exact h1,(heard_old bU).2 h2,λi op a A hg ha=> ?_⟩;obtain⟨R,W⟩|⟨fe,_,X,l,F⟩:=eA ha
  .rw[getElem?_append_old R]at A;exact(h3 i op a A hg W).app _
  .rw[A]at X;obtain rfl:=zAm X;have Q:j=S.m0+S.n:=(o op l).symm.trans hg;obtain⟨e,T,rfl⟩:=Go.Conc.mem_ofEvents l;rw[hk Q (b.1 d) e T]at F;cases F
def yM {f':Nat->Span}(h:∀i,i<S.n->(8<=S.ph f' i↔8<=S.ph f i)):S.Live f'=S.Live f:=by funext k;apply propext;unfold Sp.Live;exact or_congr ⟨λ⟨i,a,b,e⟩=>⟨i,a,b,(h i a).1 e⟩,λ⟨i,a,b,e⟩=>⟨i,a,b,(h i a).2 e⟩⟩ Iff.rfl
def Sp.dQ.own (H:S.Good)(h:S.dQ f gs w t rs ws)(G:gs[j]? =aA g)(K:Go.Ren.Does (Sp.JQ (S:=S) (ws j)) w w')(L:S.J w')(I:∀e∈es,EvS S (S.m0+S.n) j (rs j) (grown (ws j) w w') e)
  (E:j=0\/S.Live f j\/∀k e,es[k]? =aA e->(MemAct.ofEvent e).touch? =aB\/((∃a wr,e=⟨.cell a,wr,aE⟩/\a.block=S.Wg)/\0<deafBehind (Deaf t j) (es.extract 0 k)))
  (v:w'.heap[S.Cr]? =w.heap[S.Cr]?) (z:w'.heap[S.Cd]? =w.heap[S.Cd]?)
  (b:∀i,i<S.n->j=S.m0+i->(8<=s.1↔8<=(f j).1)/\(5<=s.1↔5<=(f j).1)) (l:∀i,i<S.n->j=S.m0+i->s.1=8->(f j).1=8)
  (c:j=S.m0+S.n->(s.1=0↔(f j).1=0)) (p:j=0->s.1=3*S.U f+2)
  (q:S.VN (S.Rc f) (S.U f) (S.V f) rs (put ws j (grown (ws j) w w')) j s (deafBehind (Deaf t j) es) g' w')
  (o:∀y,((gs.map (Go.Conc.woken S.P g g' w')).setIfInBounds j g')[S.m0+S.n]? =aA y->S.Mode (put f j s) y.status w')
  (F:j=S.m0+S.n->S.ph f S.n=0->∀e∈es,(MemAct.ofEvent e).touch? =aB):
  S.dQ (put f j s) ((gs.map (Go.Conc.woken S.P g g' w')).setIfInBounds j g') w' (t++MemOp.ofEvents j fn pos es) rs (put ws j (grown (ws j) w w')):=by
 obtain⟨r,A,C⟩:=gY (S:=S) (f:=f) (j:=j) (s:=s) b
 have d:∀i,S.m0+i≠j->S.ph (put f j s) i=S.ph f i:=λi m=>by simp only[Sp.ph,bJ _ _ m]
 refine h.oW H G K L I E v z (yM λi u=> ?_) A ?_ ?_ (λi u B=> ?_) (λk x m D=> ?_) ?_ o F
 .by_cases e:S.m0+i=j
  .subst e;have:=(b i u rfl).1;simpa only[Sp.ph,aZ]using this
  .rw[d _ e]
 .by_cases e:j=0
  .subst e;rw[aZ];exact aH (p rfl)
  .rw[bJ _ _ (λx=>e x.symm)];exact aG rfl
 .by_cases e:S.m0+S.n=j
  .subst e;simp only[Sp.ph,aZ];exact c rfl
  .rw[d _ e]
 .by_cases e:S.m0+i=j
  .subst e;simp only[Sp.ph,aZ]at B;exact l i u rfl B
  .rwa [d _ e]at B
 .rw[r,A,C,bJ _ _ m];exact D
 .rw[r,A,C,aZ];exact q
end
end Go.Ga
namespace Go.Ga
open Go.Conc Go.Ren Go.Tr Go.Wg
open Go.ConcR (KK WgAt stA smA mk DC0)
open Go.ConcN (WgLive sumTo sumTo_congr)
variable {S:Sp}
def OG (rs ws:zP)(w:zW)(d:Nat):cQ rs ws w (w.at d):=⟨λ_ _=>rfl,zAa _,rfl,rfl,rfl⟩
def Sp.Base.at {N:Nat}{w:zW}{t:Trace}{rs ws:Nat->zP}{sdo:Nat}{Live:zP}(h:S.Base N w t rs ws sdo Live)(d:Nat):S.Base N (w.at d) t rs ws sdo Live:=
 ⟨h.lt,h.QE,h.QF,h.off,h.oV,h.live,h.ti,h.low,h.above⟩
def Sp.dQ.at {f:Nat->Span}{gs:zG}{w:zW}{t:Trace}{rs ws:Nat->zP}(h:S.dQ f gs w t rs ws)(d:Nat):S.dQ f gs (w.at d) t rs ws:=
 ⟨h.pos,h.rG,h.size,h.base.at d,h.cr,h.cd,λk g a=>(h.FP k g a).rely (OG _ _ w d) h.base.live,λg a=>(h.mode g a).same (λ_ _=>rfl) rfl id,h.bc,h.shut,h.tries,h.Fg⟩
def Sp.Step (S:Sp)(f:Nat->Span)(gs:zG)(w:zW)(sl:Option (Nat×Nat))(t:Trace)(j:Nat):Prop:=
 ∃a w' c r b ops,runT S.P (crowd gs w sl) j=(.next (crowd a w' sl),ops)/\S.dQ c a w' (t++ops) r b/\Mu.Lt (S.mu c a) (S.mu f gs)
def dP {Stop:zU}{m:Nat}{g:zH}{w:zW}(h:S.Goes Stop m g w)(j:S.J w):Stop g w\/∃a g',m=a+1/\stepG S.P aF g w= .go g' w #[]/\S.Goes Stop a g' w:=by
 cases m with
 |zero=>exact aG (h w j)
 |succ m=>
  obtain h|⟨_,h⟩:=h
  .exact aG (h w j)
  .obtain⟨g',w',es,e,⟨d,c⟩,b⟩:=goes_elim (h w j);subst d;subst c;exact aH ⟨m,g',rfl,e,b⟩
section
variable {f:Nat->Span}{gs:zG}{w w':zW}{t:Trace}{rs ws:Nat->zP}{j:Nat}{g g':zH}{es:zE}{s:Span}{sl:Option (Nat×Nat)}
def Sp.dQ.go_own (H:S.Good)(h:S.dQ f gs w t rs ws)(q:gs[j]? =aA g)(p:stepG S.P (j==0) g w= .go g' w' es)(bU:Span.Lt s (f j))(C:Go.Ren.Does (Sp.JQ (S:=S) (ws j)) w w')(D:S.J w')(B:∀e∈es,EvS S (S.m0+S.n) j (rs j) (grown (ws j) w w') e)
  (x:j=0\/S.Live f j\/∀k e,es[k]? =aA e->(MemAct.ofEvent e).touch? =aB\/((∃a wr,e=⟨.cell a,wr,aE⟩/\a.block=S.Wg)/\0<deafBehind (Deaf t j) (es.extract 0 k)))
  (r:w'.heap[S.Cr]? =w.heap[S.Cr]?) (u:w'.heap[S.Cd]? =w.heap[S.Cd]?)
  (b:∀i,i<S.n->j=S.m0+i->(8<=s.1↔8<=(f j).1)/\(5<=s.1↔5<=(f j).1)) (d:∀i,i<S.n->j=S.m0+i->s.1=8->(f j).1=8)
  (c:j=S.m0+S.n->(s.1=0↔(f j).1=0)) (m:j=0->s.1=3*S.U f+2)
  (o:S.VN (S.Rc f) (S.U f) (S.V f) rs (put ws j (grown (ws j) w w')) j s (deafBehind (Deaf t j) es) g' w')
  (l:∀y,((gs.map (Go.Conc.woken S.P g g' w')).setIfInBounds j g')[S.m0+S.n]? =aA y->S.Mode (put f j s) y.status w')
  (z:j=S.m0+S.n->S.ph f S.n=0->∀e∈es,(MemAct.ofEvent e).touch? =aB):S.Step f gs w sl t j:=by
 refine⟨_,w',put f j s,rs,_,_,runT_crowd_go q p,h.own H q C D B x r u b d c m o l z,?_⟩
 have A:j<gs.size:=(zAb.1 q).1
 have v:=h.size
 unfold Sp.mu
 rw[(gY (S:=S) (f:=f) (j:=j) (s:=s) b).2.2]
 exact Mu.one (lX (by omega) bU)
def KR (H:S.Good)(h:S.dQ f gs w t rs ws)(o:gs[j]? =aA g)(p:S.J w')(k:j=S.m0+S.n->g'.status≠.blocked){y c:zH}(e:gs[S.m0+S.n]? =aA y)
  (a:((gs.map (Go.Conc.woken S.P g g' w')).setIfInBounds j g')[S.m0+S.n]? =aA c) (b:y.status≠.blocked):c.status≠.blocked:=by
 obtain⟨m,rfl⟩|⟨i,z,d,rfl⟩:=iT _ _ _ _ _ _ a
 .exact k m.symm
 .rw[e]at d;obtain rfl:=zAm d;have l:=((h.FP _ y e).2.2.2 rfl);obtain x|x|x:=l.status H h.base.live
  .rw[woken_running x];exact b
  .exact absurd x.2 b
  .rw[woken_rf (aH x.2)];exact b
def nS (H:S.Good)(h:S.dQ f gs w t rs ws)(d:gs[j]? =aA g)(k:S.J w')(e:j=S.m0+S.n->g'.status≠.blocked)(hs:∀i,i<=S.n->S.ph (put f j s) i=S.ph f i)(c:w'.heap[S.Wg]? =w.heap[S.Wg]?):
  ∀y,((gs.map (Go.Conc.woken S.P g g' w')).setIfInBounds j g')[S.m0+S.n]? =aA y->S.Mode (put f j s) y.status w':=by
 intro y b
 have bU:S.m0+S.n<gs.size:=by have:=h.size;omega
 have a:gs[S.m0+S.n]? =aA gs[S.m0+S.n]:=zAs bU
 exact(h.mode _ a).same hs c λx=>KR H h d k e a b x
def iQ (hs:s.1=(f j).1):∀i,i<=S.n->S.ph (put f j s) i=S.ph f i:=λi _=>by
 by_cases e:S.m0+i=j
 .simp only[Sp.ph,e,aZ,hs]
 .simp only[Sp.ph,bJ _ _ e]
def uS (ws:zP)(w:zW):Go.Ren.Does ws w w:=Go.Ren.Does.refl ws w
def jE (ws:Nat->zP)(j:Nat)(w:zW):put ws j (grown (ws j) w w)=ws:=by
 funext k;by_cases e:k=j
 .subst e;rw[aZ,dZ]
 .rw[bJ _ _ e]
def Sp.dQ.idle (H:S.Good)(h:S.dQ f gs w t rs ws)(d:gs[j]? =aA g)(b:j≠0)(c:stepG S.P aF g w= .go g' w #[])(hs:s.1=(f j).1)(bU:Span.Lt s (f j))(l:j=S.m0+S.n->g'.status≠.blocked)
  (a:S.VN (S.Rc f) (S.U f) (S.V f) rs ws j s (Deaf t j) g' w):S.Step f gs w sl t j:=by
 refine h.go_own H d (by rw[show(j==0)=aF by simp[b]];exact c) bU (uS _ w) h.base.live (by simp) (aH (aH (by simp))) rfl rfl (λi k e=>by rw[hs];exact⟨Iff.rfl,Iff.rfl⟩) (λi k e x=>hs▸x) (λ_=>by rw[hs]) (λe=>absurd e b) ?_ (nS H h d h.base.live l (iQ hs) rfl) (by simp)
 rw[jE]
 exact a
def fR {p m:Nat}:Span.Lt (p,Tree.nat m) (p,Tree.nat (m+1)):= .right _ (Tree.fR m)
def iF {p q:Nat}{a b:Tree}(h:p<q):Span.Lt (p,a) (q,b):= .left _ _ h
end
end Go.Ga
namespace Go.Ga
open Go.Conc Go.Ren Go.Tr Go.Wg
open Go.ConcR (KK WgAt stA smA mk DC0)
open Go.ConcN (WgLive sumTo sumTo_congr sumTo_upd upd upd_same upd_ne le_sumTo)
variable {S:Sp}
def BV (ws:zP)(w:zW)(a:Addr)(v:zY)(h:a.block=S.Wg):Go.Ren.Does (Sp.JQ (S:=S) ws) w (w.setCell a v):=
 ⟨λb _ c=>Go.RowKit.Below.heap_setCell w a v b λe=>c (aH (aG (e.trans h))),by simp[World.setCell],by simp[World.setCell],by simp[World.setCell],by simp[World.setCell]⟩
def Dm (w:zW)(a:Addr)(v:zY):(w.setCell a v).heap.size=w.heap.size:=by simp[World.setCell]
def YN (ws:zP)(w:zW)(a:Addr)(v:zY):grown ws w (w.setCell a v)=ws:=by funext b;apply propext;unfold grown;rw[Dm];exact⟨λx=>x.elim id λy=>by omega,aG⟩
def oE (ws:Nat->zP)(j:Nat)(w:zW)(a:Addr)(v:zY):put ws j (grown (ws j) w (w.setCell a v))=ws:=by
 funext k;by_cases e:k=j
 .subst e;rw[aZ,YN]
 .rw[bJ _ _ e]
def uM (w:zW)(a:Addr)(v:zY){b:Nat}(h:b≠a.block):(w.setCell a v).heap[b]? =w.heap[b]? :=Go.RowKit.Below.heap_setCell w a v b h
def eW {R:zP}{u V:Nat}{rs ws:Nat->zP}{i d:Nat}{f:Span}{g:zH}{w:zW}(a:0<S.m0)(c:i<S.n)(h:S.WSit (S.val i) (rs (S.m0+i)) (ws (S.m0+i)) f d g w):S.VN R u V rs ws (S.m0+i) f d g w:=
 ⟨λe=>by omega,λ_ e=>by omega,λk b e=>by
  have:k=i:=by omega
  subst this
  exact h,λe=>by omega⟩
def fL (f:Nat->Span)(i:Nat)(s:Span):S.ph (put f (S.m0+i) s) i=s.1:=by simp[Sp.ph,aZ]
def dL (f:Nat->Span){i k:Nat}(s:Span)(h:k≠i):S.ph (put f (S.m0+i) s) k=S.ph f k:=by simp only[Sp.ph];rw[bJ _ _ (by omega)]
def af {f:Nat->Span}{i:Nat}{s:Span}(h:i<S.n)(b:5<=S.ph f i)(c:s.1<5):S.V (put f (S.m0+i) s)+1=S.V f:=by
 have:=sumTo_upd (S.ph f) s.1 (λp=>if 5<=p then 1 else 0) h;simp only[b,zDf]at this;rw[zAh (by omega)]at this;unfold Sp.V;rw[<-show sumTo S.n (λa=>if 5<=upd (S.ph f) i s.1 a then 1 else 0)=sumTo S.n (λa=>if 5<=S.ph (put f (S.m0+i) s) a then 1 else 0)from zHg λa _=>by
  by_cases e:a=i
  .subst e;rw[upd_same,fL]
  .rw[upd_ne _ _ e,dL _ _ e]]
 omega
def NB {f:Nat->Span}{i:Nat}(h:i<S.n)(a:5<=S.ph f i):0<S.V f:=by have:=le_sumTo (f:=λi=>if 5<=S.ph f i then 1 else 0) h;simp only[a,zDf]at this;exact this
def Vm (f:Nat->Span):S.V f<=S.n:=by
 have:=Go.ConcN.sumTo_le (f:=λi=>if 5<=S.ph f i then 1 else 0) (c:=1) (j:=S.n) λi _=>by split<;>omega
 unfold Sp.V
 omega
def Sp.CSit.less {V a:Nat}{rs ws:zP}{f:Span}{d:Nat}{g:zH}{w:zW}(h:S.CSit V rs ws f d g w)(j:a<V):S.CSit a rs ws (if f.1=8 then(13,f.2)else f) d g w:=by
 cases h with
 |busy h=>exact .busy h
 |CQ h b=>exact .CQ h (by omega)
 |anch h=>exact .anch h
 |ld h=>exact .ld h
 |Vh h b=>exact .CQ h j
 |wm h=>exact .wm h
 |Eb h=>exact .Eb h
 |blk h e c=>exact .blk h e c
 |zero h=>exact .zero h
 |en h=>exact .en h
 |acq h=>exact .acq h
 |cl h=>exact .cl h
 |quit h=>exact .quit h
section
variable {f:Nat->Span}{gs:zG}{w:zW}{t:Trace}{rs ws:Nat->zP}{i:Nat}{g g':zH}{sl:Option (Nat×Nat)}
def Bo {sdo j:Nat}{rs ws:zP}:∀e∈#[Go.ConcR.rd (stA S.Wg),Go.ConcR.wr (stA S.Wg)],EvS S sdo j rs ws e:=by
 intro e h;simp only[zAp,zAg,zAt,zCp]at h;obtain rfl|rfl:=h
 .exact aH (aG ⟨_,_,rfl,rfl⟩)
 .exact aH (aG ⟨_,_,rfl,rfl⟩)
def UN {d:Nat}:deafBehind d #[Go.ConcR.rd (stA S.Wg),Go.ConcR.wr (stA S.Wg)]=d:=by simp[deafBehind,Go.ConcR.rd,Go.ConcR.wr]
def Sp.dQ.counts (H:S.Good)(h:S.dQ f gs w t rs ws)(X:i<S.n)(hj:gs[S.m0+i]? =aA g)(bf:S.ph f i=5)(O:Deaf t (S.m0+i)=1)(hD:S.D4 g w):S.Step f gs w sl t (S.m0+i):=by
 have M:=h.pos;have Yv:=h.rG;have VS:=h.size;have hVp:0<S.V f:=NB (S:=S) X (by omega);have ze:=Vm (S:=S) f;have P:S.m0+S.n<gs.size:=by omega
 have Ku:gs[S.m0+S.n]? =aA gs[S.m0+S.n]:=zAs P
 have E:=h.mode _ Ku
 obtain⟨wt,Y,B,yi,N⟩:∃wt:Nat,wt<=1/\WgAt S.ty S.Wg w (S.V f*KK+wt) 0/\((wt=0/\8<=S.ph f S.n)\/(wt=1/\(S.ph f S.n=7\/S.ph f S.n=6)))/\S.kI f:=by
  cases E with
  |a z hl hw=>exact⟨0,by omega,by simpa using hw,aG ⟨rfl,z⟩,hl⟩
  |b z J hl hw=>exact⟨1,by omega,by simpa using hw,aH ⟨rfl,z⟩,hl⟩
  |c z J _ _ _ _=>omega
  |c' z J _ _ _ _=>omega
  |d z J _ _ _=>omega
  |e z J _ _=>omega
 obtain⟨v,J⟩:∃v,S.V f=v+1:=⟨S.V f-1,by omega⟩
 obtain⟨g',Qo,F,D⟩:=hD.2 v wt Y (by omega) (by rw[J]at B;simpa using B)
 obtain⟨s,vd,L,hls⟩:∃s:Span,s.1<5/\S.WSit (S.val i) (rs (S.m0+i)) (ws (S.m0+i)) s 1 g' (w.setCell (stA S.Wg) (.int aQ (v*KK+wt)))/\((v=0/\wt=1/\s.1=3)\/(¬(v=0/\wt=1)/\s.1=0)):=by
  by_cases K:v=0/\wt=1
  .obtain⟨m,W⟩:=F K;exact⟨(3,.nat m),by simp,.one W,aG ⟨K.1,K.2,rfl⟩⟩
  .obtain⟨q,hq⟩:=D K;exact⟨(0,.nat q),by simp,.quit hq,aH ⟨K,rfl⟩⟩
 have u:WgAt S.ty S.Wg (w.setCell (stA S.Wg) (.int aQ (v*KK+wt))) (v*KK+wt) 0:=B.setSt _
 let f1:=put f (S.m0+i) s
 let l:=put f1 (S.m0+S.n) (if(f (S.m0+S.n)).1=8 then(13,(f (S.m0+S.n)).2)else f (S.m0+S.n))
 have fi:S.ph l i=s.1:=by
  show(put f1 (S.m0+S.n) _ (S.m0+i)).1=_
  rw[bJ _ _ (by omega)]
  exact fL f i s
 have fk:∀k,k<S.n->k≠i->S.ph l k=S.ph f k:=λk o r=>by
  show(put f1 (S.m0+S.n) _ (S.m0+k)).1=_
  rw[bJ _ _ (by omega)]
  exact dL f s r
 have fn:S.ph l S.n=if S.ph f S.n=8 then 13 else S.ph f S.n:=by
  show(put f1 (S.m0+S.n) _ (S.m0+S.n)).1=_
  rw[aZ]
  unfold Sp.ph
  split<;>rfl
 have I:S.V l=v:=by
  have e:S.V l=S.V f1:=zHg λk o=>by
   show(if 5<=(put f1 (S.m0+S.n) _ (S.m0+k)).1 then 1 else 0)=_
   rw[bJ _ _ (by omega)]
   rfl
  have h2:S.V f1+1=S.V f:=af (S:=S) (f:=f) (s:=s) X (by omega) vd
  omega
 have A:∀k,k<S.n->(8<=S.ph l k↔8<=S.ph f k):=λk o=>by
  by_cases e:k=i
  .subst e;omega
  .rw[fk k o e]
 have hU:S.U l=S.U f:=zHg λk o=>by simp only[A k o]
 have Zg:S.Rc l=S.Rc f:=by funext k;apply propext;unfold Sp.Rc;exact⟨λx=>⟨x.1,by have:=A k x.1;have:=x.2;omega⟩,λx=>⟨x.1,by have:=A k x.1;have:=x.2;omega⟩⟩
 have Hl:S.Cr≠(stA S.Wg).block:=λe=>H.chans.2.1 e.symm
 have Kv:S.Cd≠(stA S.Wg).block:=λe=>H.chans.2.2 e.symm
 have G:Deaf t (S.m0+i)=1:=O
 refine⟨_,_,l,rs,_,_,runT_crowd_go hj (by rw[show(S.m0+i==0)=aF by simp;omega];exact Qo),h.oW (f':=l) H hj (BV _ w _ _ rfl) ⟨_,_,u⟩ Bo (aH (aH λk e he=> ?_)) (uM w _ _ Hl) (uM w _ _ Kv) (yM A) hU ?_ ?_ ?_ (λk x r T=> ?_) ?_ (λy hy=> ?_) (λe=>by omega),?_⟩
 .refine aH ⟨?_,?_⟩
  .have:=Bo (S:=S) (sdo:=0) (j:=0) (rs:=λ_=>False) (ws:=λ_=>False) e (zBc he);have W:=zBc he;simp only[zAp,zAg,zAt,zCp]at W;obtain rfl|rfl:=W
   .exact⟨_,_,rfl,rfl⟩
   .exact⟨_,_,rfl,rfl⟩
  .have o:k<2:=by simpa using(zAb.1 he).1
   rw[G];obtain rfl|rfl:k=0\/k=1:=by omega
   .simp[deafBehind]
   .simp[deafBehind,Go.ConcR.rd]
 .left;show(put f1 (S.m0+S.n) _ 0).1=_
  rw[bJ _ _ (by omega)];show(put f (S.m0+i) s 0).1=_
  rw[bJ _ _ (by omega)]
 .rw[fn];split<;>omega
 .intro k o e8;by_cases e:k=i
  .subst e;omega
  .rwa [fk k o e]at e8
 .rw[Zg,hU,I];by_cases e:k=S.m0+S.n
  .subst e;refine⟨λe=>by omega,λ_ e=>by omega,λa ha e=>by omega,λ_=> ?_⟩;have R:l (S.m0+S.n)=if(f (S.m0+S.n)).1=8 then(13,(f (S.m0+S.n)).2)else f (S.m0+S.n):=aZ _ _ _
   rw[R];exact(T.2.2.2 rfl).less (by omega)
  .have R:l k=f k:=by
    show put f1 (S.m0+S.n) _ k=_
    rw[bJ _ _ e]
    show put f (S.m0+i) s k=_
    rw[bJ _ _ r]
   rw[R];exact⟨T.1,T.2.1,T.2.2.1,λe2=>absurd e2 e⟩
 .have R:l (S.m0+i)=s:=by
   show put f1 (S.m0+S.n) _ (S.m0+i)=_
   rw[bJ _ _ (by omega)]
   exact aZ _ _ _
  rw[R,oE,O,UN];exact eW M X L
 .have Q:s.1=0->S.kI l:=λe0 k o p=>by
   by_cases e:k=i
   .subst e;unfold Sp.kO at p;omega
   .exact N k o (by unfold Sp.kO at p⊢;rwa [fk k o e]at p)
  obtain⟨rfl,z⟩|⟨rfl,z⟩:=yi
  .have C:s.1=0:=by omega
   refine .a (by rw[fn];split<;>omega) (Q C) ?_;rw[I];simpa using u
  .by_cases Z:v=0
   .subst Z;have hs3:s.1=3:=by omega
    refine .c (by rw[fn];split<;>omega) (by omega) i ⟨X,λk o r p=>N k o (by unfold Sp.kO at p⊢;rwa [fk k o r]at p)⟩ (by omega) ?_;simpa using u
   .have C:s.1=0:=by omega
    refine .b (by rw[fn];split<;>omega) (by omega) (Q C) ?_;rw[I];simpa using u
 .unfold Sp.mu;exact Mu.count (by omega)
end
end Go.Ga
