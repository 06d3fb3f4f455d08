import Derived.Calls
import Derived.Test.YtghpcgagijhlaaaGreatDoorP06
set_option linter.all false
set_option maxRecDepth 100000
set_option maxHeartbeats 16000000
open Option renaming some->aA,none->aB
open Bool renaming true->aE,false->aF
open Or renaming inl->aG,inr->aH
open Go.Ending renaming returned->aL
open Classical renaming choose->aCJ
namespace Go
def World.re (w:zW)(a:zT)(d:Nat):zW:={w with tape:=a,drawn:=d}
end Go
namespace Go.Ren
open Go.Conc (G)
def dE (D:zP):Rn:=λb a=>b=a/\D b
def K0:Kp:=⟨λ_=>False,aB,False⟩
def Nh (n:Nat):Kp:=⟨λ_=>False,aA n,False⟩
section
variable {P:zZ}{Al:zF}
def JK {R:zY->zY->Prop}{a b:zA}(hs:b.size=a.size)(h:∀(i:Nat)(v v':zY),a[i]? =aA v->b[i]? =aA v'->v=v'):a=b:=by
 apply zCd;intro i;by_cases d:i<a.size
 .have c:i<b.size:=by rw[hs];exact d
  have:=h i a[i] b[i] (by simp[d]) (by simp[c]);simp[d,c,this]
 .have c:¬i<b.size:=by rw[hs];exact d
  simp[d,c]
def EV {ρ:Rn}(c:∀b d,ρ b d->b=d){a a':Addr}(h:bV ρ a a'):a=a':=by obtain⟨e,g,f⟩:=h;have:=c _ _ e;cases a;cases a';simp_all
def NI (f:¬Al 1000000/\∀k,¬Al (1000002+k)){ρ:Rn}(a:∀b g,ρ b g->b=g){x e:zY}(h:bG Al ρ x e):x=e:=by
 induction h with
 |pointer y=>cases y with
  |none=>rfl
  |some y=>rw[EV a y]
 |slice y n c=>cases y with
  |none=>rfl
  |some y=>rw[EV a y]
 |func o d m _ _ _ i3 i4=>rw[JK (R:=λ_ _=>True) d i3,JK (R:=λ_ _=>True) m i4]
 |iface t _ i=>rw[i]
 |agg d _ i=>rw[JK (R:=λ_ _=>True) d i]
 |tuple d _ i=>rw[JK (R:=λ_ _=>True) d i]
 |junk l _=>exact absurd l f.1
 |void j _=>exact absurd j (f.2 _)
 |_=>rfl
def sM (j:¬Al 1000000/\∀k,¬Al (1000002+k)){ρ:Rn}(a:∀b e,ρ b e->b=e){x d:zA}(h:aW Al ρ x d):x=d:=JK (R:=λ_ _=>True) h.size λi v f g c=>NI j a (h.at' i v f g c)
def yL {α:Type}{R:α->α->Prop}(h:∀a b,R a b->a=b):∀{l c:List α},hQ R l c->l=c
 |_,_,.nil=>rfl
 |_,_,.cons x y=>by rw[h _ _ x,yL h y]
def EL (d:¬Al 1000000/\∀k,¬Al (1000002+k)){F:Kp}{ρ:Rn}(c:∀b p,ρ b p->b=p){f f':zC}(h:cW P Al F ρ f f'):f=f':=by
 obtain⟨z,I,y,x,H,w,v,u,G,n,l⟩:=h;obtain⟨fn,tmps,todo,defers,mode,kind,round⟩:=f;obtain⟨A,g,t,e,m,i,oD⟩:=f';dsimp only at*;subst z;subst x;subst u;subst n;subst l;have D:=sM d c y;have C:=yL (λa b (h:CH Al ρ a b)=>by
  cases h with
  |fn E s j=>rw[sM d c s,sM d c j]
  |nil j=>rw[sM d c j]) w
 have B:mode=m:=by
  cases v with
  |run=>rfl
  |returning=>rfl
  |panicking r=>
   congr 1;exact yL (λa b (h:Cj Al ρ a b)=>by obtain⟨L,M,N⟩:=a;obtain⟨bv,J,K⟩:=b;obtain⟨q1,o,q⟩:=h;dsimp only at q1 o q;rw[NI d c q1,o,q]) r
 subst D;subst C;subst B;rfl
structure Closed (P:zZ)(Al:zF)(D:zP)(fr:zC)(own:zL)(v:zW):Prop where
 frame:cW P Al K0 (dE D) fr fr
 own:hQ (cW P Al K0 (dE D)) own own
 world:cB P Al K0 (dE D) v v
 nj:¬Al 1000000/\∀k,¬Al (1000002+k)
def SX {o:Oper}{n:Nat}(h:PU P Al K0 o):PU P Al (Nh n) o:=by
 obtain⟨d,a⟩:=h;refine⟨d,?_⟩;revert a;cases o.op<;>intro a<;>first|exact a|skip
 exact⟨a.ptr,λ_=>aG λb c=>c,a.float,a.complex,a.Ya,a.rune⟩
def wT {n:Nat}:∀{c:Code},lG P Al K0 c->lG P Al (Nh n) c:=by
 intro c;induction c with
 |region id ops d=>intro h o j;exact SX (h o j)
 |seq a b e i=>intro h;exact⟨e h.1,i h.2⟩
 |cond c a b e i=>intro h;exact⟨h.1,e h.2.1,i h.2.2⟩
 |block id b g=>intro h;exact g h
 |loop b g=>intro h;exact g h
 |scope b g=>intro h;exact g h
 |rangeFunc f p a b=>intro h;exact h.elim
 |_=>intro _;trivial
def YI {n:Nat}{i:Item}(h:iZ P Al K0 i):iZ P Al (Nh n) i:=by
 cases i with
 |code c=>exact wT h
 |inLoop c=>exact wT (c:=c) h
 |inScope c=>exact wT (c:=c) h
 |inBlock _=>trivial
 |inRegion ops l=>exactλo a=>SX (h o a)
 |_=>exact h.elim
def UA {n:Nat}{π:Rn}{f f':zC}(h:cW P Al K0 π f f'):cW P Al (Nh n) π f f':=
 ⟨h.fn,h.al,h.tmps,h.todo,λi a=>YI (h.items i a),h.defers,h.mode,h.kind,h.kinds,h.round,h.oD⟩
def jV {F:Kp}{D:zP}{v:zW}(h:cB P Al K0 (dE D) v v)(hF:∀b,¬F b)(i a:zT)(d j:Nat)(m:∀k,F.upto (d+k)->a (j+k)=i (d+k)):
  cB P Al F (dE D) (v.re i d) (v.re a j):=by
 refine⟨h.ok,λb r e=> ?_,m,λb e=>absurd e (hF b),h.low,rfl,λb e=>absurd e (hF b)⟩
 obtain⟨c,c',ty,q,f,p,g2,o,s,n⟩|g|g:=h.blk b r e
 .left;exact⟨c,c',ty,q,f,p,g2,o,λx=>absurd x (hF b),λ_=>n.1 (λx=>x),λ⟨_,x,l⟩=>absurd l (hF x)⟩
 .exact aH (aG g)
 .exact aH (aH g)
end
section
variable {P:zZ}{Al:zF}{D:zP}{fr:zC}{own cs:zL}{v:zW}
def Yf {ρ:Rn}(c:∀b a,ρ b a->b=a):ρ=dE (λb=>ρ b b):=by
 funext b a;apply propext;constructor
 .intro h;have:=c b a h;subst this;exact⟨rfl,h⟩
 .rintro⟨rfl,h⟩;exact h
def Ju (j:¬Al 1000000/\∀k,¬Al (1000002+k)){F:Kp}{ρ:Rn}(a:∀b f,ρ b f->b=f)(hF:∀b,¬F b){v w:zW}(h:cB P Al F ρ v w){b:Nat}(i:ρ b b):v.heap[b]? =w.heap[b]? :=by
 obtain⟨c,c',ty,fr,n,g,g2,e,q,m⟩|⟨_,o,g,g2,_⟩|⟨y,p,g,g2,e⟩:=h.blk b b i
 .rw[g,g2,sM j a e,m.1 (hF b)]
 .rw[g,g2]
 .rw[g,g2];cases e with
  |view d u hu=>rw[EV a d]
  |number d l=>rw[EV a d]
def kE (hB:∀K:Kp,(∀b,¬K b)->cJ P Al K)(j:Closed P Al D fr own v)(m:fr.mode= .run\/fr.defers≠[]\/own≠[])(mn:Bool)(w:zT)(d:Nat):
  (∃o u N,stepG P mn (G fr (own++cs)) (v.re w d)= .ended o u N)\/
  ∃l e c N D1,stepG P mn (G fr (own++cs)) (v.re w d)= .go (G l (e++cs)) c N/\Closed P Al D1 l e c/\d<=c.drawn/\c.tape=w/\(∀b,D b->D1 b)/\
   ∀(i:zT)(s:Nat)(t:zL)(y:Bool),(∀k,d+k<c.drawn->i (s+k)=w (d+k))->
    ∃M,stepG P y (G fr (own++t)) (v.re i s)= .go (G l (e++t)) (c.re i (s+(c.drawn-d))) M:=by
 have I:∀b,¬K0 b:=λb h=>h
 have hw:=jV j.world I w w d d (λ_ _=>rfl)
 obtain h|⟨_,_,_,_,_,n,B,_⟩|⟨Q,g1,c,N,g1',w1,M,O,e2,hg,V,hm,_⟩:=xG (cs:=cs) (cs':=cs) (hB K0 I) hw j.frame j.own m mn mn (hs:=kB j.nj.2)
 .exact aG h
 .cases B
 .right;have J:∀b q,dE D b q->b=q:=λb q h=>h.1;obtain⟨VS,z⟩:=hm.same rfl J;obtain⟨l,aAw,e,T,q1,q2,q3,q4⟩:=hg;subst q1;subst q2;have e3:=EL j.nj z q3;have e4:=yL (λa b (h:cW P Al K0 Q a b)=>EL j.nj z h) q4;subst e3;subst e4;rw[O]at e2;cases e2;have hD:Q=dE (λb=>Q b b):=Yf z;obtain⟨k,k1,k2⟩:=hm.drawn;have k1:c.drawn=d+k:=k1;refine⟨l,e,c,N,λb=>Q b b,O,⟨by rw[<-hD];exact q3,by rw[<-hD];exact q4,by rw[<-hD];exact V,j.nj⟩,by omega,hm.Ad,λb x=>hm.sub b b ⟨rfl,x⟩,?_⟩;intro i s t y yy;have A:∀b,¬(Nh c.drawn) b:=λb h=>h;have W:cB P Al (Nh c.drawn) (dE D) (v.re w d) (v.re i s):=jV j.world A w i d s (λk hk=>yy k (hk c.drawn rfl));obtain⟨o,u,Zn,h⟩|⟨_,_,v2,_,h,n,B,bU⟩|⟨σ,g2,v2,Zn,g2',w2,L,f1,f2,Z,U,f,_⟩:=xG (cs:=cs) (cs':=t) (hB (Nh c.drawn) A) W (UA j.frame) (j.own.imp λ_ _ h=>UA h) m mn y (hs:=kB j.nj.2)
  .rw[O]at h;cases h
  .rw[O]at h;have hv:c=v2:=by injection h
   subst hv;have X:c.drawn=n:=by injection B
   subst X
   exact absurd bU (zEt _)
  .rw[O]at f1;cases f1;obtain⟨H,r⟩:=f.same rfl J;obtain⟨Va,Zl,oW,S,r1,r2,r3,r4⟩:=Z;subst r2;have e5:=EL j.nj r r3;have e6:=yL (λa b (h:cW P Al (Nh c.drawn) σ a b)=>EL j.nj r h) r4;subst e5;subst e6;have e7:l=Va:=congrArg (λg:zH=>g.frame) r1;have e8:e++cs=oW++cs:=congrArg (λg:zH=>g.callers) r1;have e9:e=oW:=zDt e8;subst e7;subst e9;obtain⟨k',E,C⟩:=f.drawn;have E:c.drawn=d+k':=E;have C:w2.drawn=s+k':=C;have p:w2.heap=c.heap:=by
    apply zCd;intro b;by_cases x:∃q,σ b q
    .obtain⟨q,x⟩:=x;have:=r b q x;subst this;exact(Ju j.nj r A U x).symm
    .have B:∀q,¬dE D b q:=λq h=>x ⟨q,f.sub _ _ h⟩;obtain bU|Y:=zDx b v.heap.size
     .rw[f.still b bU (λb0 h0=>absurd h0 (by rintro⟨rfl,hx⟩;exact B b0 ⟨rfl,hx⟩)),f.FB b bU B];rfl
     .obtain R|R:=zDx b c.heap.size
      .exact absurd (f.full b Y R) x
      .rw[zBk (by rw[<-H];exact R),zBk R]
   have F:w2=c.re i (s+(c.drawn-d)):=by
    have t1:w2.tape=i:=f.tape;have t2:w2.os=c.os:=f.os.trans f.aw.symm;have t3:w2.output=c.output:=f.out.trans f.Oj.symm;have t4:w2.drawn=s+(c.drawn-d):=by omega
    obtain⟨x1,x2,x3,x4,x5⟩:=w2
    dsimp only at t1 t2 t3 t4 p
    subst t1;subst t2;subst t3;subst t4;subst p
    rfl
   rw[F]at f2
   exact⟨L,f2⟩
end
inductive Lone (P:zZ)(cs:zL)(S:zS):zS
 |stop {fr:zC} {own:zL} {v:zW} (h:S fr own v):Lone P cs S fr own v
 |step {fr fr1:zC} {own own1:zL} {v v1:zW} {es:zE} (Sb:fr.mode= .run\/fr.defers≠[]\/own≠[]) (hs:stepG P aE (G fr (own++cs)) v= .go (G fr1 (own1++cs)) v1 es) (h:Lone P cs S fr1 own1 v1):Lone P cs S fr own v
inductive Ends (P:zZ)(Al:zF)(S:zS):zS
 |stop {fr:zC} {own:zL} {v:zW} (h:S fr own v):Ends P Al S fr own v
 |step {fr:zC} {own:zL} {v:zW} (Sb:fr.mode= .run\/fr.defers≠[]\/own≠[]) (nx:(zT)->Nat->zC×zL×zW)
   (h1:∀τ d,∃D,Closed P Al D (nx τ d).1 (nx τ d).2.1 (nx τ d).2.2) (h2:∀τ d cs mn,∃es,stepG P mn (G fr (own++cs)) (v.re τ d)= .go (G (nx τ d).1 ((nx τ d).2.1++cs)) (nx τ d).2.2 es)
   (h3:∀τ d,Ends P Al S (nx τ d).1 (nx τ d).2.1 (nx τ d).2.2):Ends P Al S fr own v
section
variable {P:zZ}{Al:zF}{cs:zL}{S:zS}
def Ends.of {fr:zC}{own:zL}{v:zW}(b:fr.mode= .run\/fr.defers≠[]\/own≠[])
  (h:∀a d,∃fr1 own1 v1,(∃D,Closed P Al D fr1 own1 v1)/\(∀cs mn,∃es,stepG P mn (G fr (own++cs)) (v.re a d)= .go (G fr1 (own1++cs)) v1 es)/\Ends P Al S fr1 own1 v1):Ends P Al S fr own v:=by
 have c:∀p:(zT)×Nat,∃y:zC×zL×zW,(∃D,Closed P Al D y.1 y.2.1 y.2.2)/\(∀cs mn,∃es,stepG P mn (G fr (own++cs)) (v.re p.1 p.2)= .go (G y.1 (y.2.1++cs)) y.2.2 es)/\Ends P Al S y.1 y.2.1 y.2.2:=λp=>
  let⟨fr1,own1,v1,e⟩:=h p.1 p.2;⟨(fr1,own1,v1),e⟩
 exact .step b (λa d=>aCJ (c (a,d))) (λa d=>(zAr (c (a,d))).1) (λa d=>(zAr (c (a,d))).2.1) (λa d=>(zAr (c (a,d))).2.2)
def Lone.shift (E:∀K:Kp,(∀b,¬K b)->cJ P Al K)(C:∀fr own v f d,S fr own v->S fr own (v.re f d)):
  ∀{fr own u},Lone P cs S fr own u->∀(v:zW)(D:zP)(f:zT)(d:Nat)(a:zT)(j:Nat),u=v.re f d->Closed P Al D fr own v->(∀k,a (j+k)=f (d+k))->Lone P cs S fr own (v.re a j):=by
 intro fr own u h
 induction h with
 |stop h=>intro v D f d a j e z p;subst e;exact .stop (by have:=C _ _ _ a j h;exact this)
 | @step fr t own l u u1 es c y h A=>
  intro v D f d a j e z p;subst e;obtain⟨o,u,w,i⟩|⟨s,oW,v2,w,D2,i,r,B,m,_,n⟩:=kE (cs:=cs) E z c aE f d
  .rw[y]at i;cases i
  .rw[y]at i;have G:t=s:=by injection i with x;exact congrArg (λg:zH=>g.frame) x
   have a2:l=oW:=by injection i with x;exact zDt (congrArg (λg:zH=>g.callers) x)
   have a3:u1=v2:=by injection i
   subst G;subst a2;subst a3
   obtain⟨F,q⟩:=n a j cs aE (λk _=>p k)
   refine .step c q ?_
   refine A u1 D2 f u1.drawn a (j+(u1.drawn-d)) (by cases u1;simp only[World.re]at m⊢;rw[m]) r (λk=> ?_)
   have:=p (u1.drawn-d+k)
   rw[<-zCv,<-zCv]at this
   rw[this]
   congr 1
   omega
structure lp (P:zZ)(Al:zF)(cs:zL)(S:zS)(x:zC×zL×zW):Prop where
 closed:∃D,Closed P Al D x.1 x.2.1 x.2.2
 lone:∀τ d,Lone P cs S x.1 x.2.1 (x.2.2.re τ d)
 not:¬Ends P Al S x.1 x.2.1 x.2.2
structure Ng (P:zZ)(cs:zL)(x y:zC×zL×zW)(τ:zT)(d c:Nat):Prop where
 stay:x.1.mode= .run\/x.1.defers≠[]\/x.2.1≠[]
 step:∀(dj:zT)(d':Nat),(∀k,k<c->dj (d'+k)=τ (d+k))->∃es,stepG P aE (G x.1 (x.2.1++cs)) (x.2.2.re dj d')= .go (G y.1 (y.2.1++cs)) (y.2.2.re dj (d'+c)) es
def Mv (W:∀K:Kp,(∀b,¬K b)->cJ P Al K)(V:∀fr own v f d,S fr own v->S fr own (v.re f d)){x:zC×zL×zW}(hx:lp P Al cs S x):∃y f d c,lp P Al cs S y/\Ng P cs x y f d c:=by
 obtain⟨fr,own,v⟩:=x;obtain⟨⟨D,hc⟩,M,T⟩:=hx;dsimp only at*;have H:¬S fr own v:=λh=>T (.stop h);have l:∀f d,¬S fr own (v.re f d):=λf d h=>H (by have:=V _ _ _ v.tape v.drawn h;exact this);have a:fr.mode= .run\/fr.defers≠[]\/own≠[]:=by
  cases M v.tape v.drawn with
  |stop h=>exact absurd h (l _ _)
  |step a _ _=>exact a
 have:∃f d,∀n j A,(∃D,Closed P Al D n j A)->(∀cs Z,∃es,stepG P Z (G fr (own++cs)) (v.re f d)= .go (G n (j++cs)) A es)->¬Ends P Al S n j A:=by apply zCj;intro h;apply T;refine .of a λf d=> ?_;apply zCj;intro E;apply h;refine⟨f,d,λn j A N hg he=>E ⟨n,j,A,N,hg,he⟩⟩
 obtain⟨f,d,I⟩:=this
 obtain⟨o,u,Q,E⟩|⟨t,oW,v2,Q,D2,E,s,hd2,C,_,m⟩:=kE (cs:=cs) W hc a aE f d
 .cases M f d with
  |stop h=>exact absurd h (l _ _)
  |step _ r _=>rw[E]at r;cases r
 .have q:v2.re f v2.drawn=v2:=by cases v2;simp only[World.re]at C⊢;rw[C]
  have J:=I t oW v2 ⟨D2,s⟩ (λR F=>by obtain⟨p,h⟩:=m f d R F (λ_ _=>rfl);refine⟨p,?_⟩;rw[h,show d+(v2.drawn-d)=v2.drawn by omega,q])
  refine⟨(t,oW,v2),f,d,v2.drawn-d,⟨⟨D2,s⟩,λz X=> ?_,J⟩,⟨a,λe d' ht=> ?_⟩⟩
  .let e:zT:=λi=>if i<v2.drawn then f i else z (i-v2.drawn+X)
   obtain⟨p,h⟩:=m e d cs aE (λk U=>by simp only[e,zAk U]);have bU:=M e d;cases bU with
   |stop h=>exact absurd h (l _ _)
   | @step _ O _ B _ v3 es3 _ r L=>
    rw[h]at r;have a1:t=O:=by injection r with x;exact congrArg (λg:zH=>g.frame) x
    have a2:oW=B:=by injection r with x;exact zDt (congrArg (λg:zH=>g.callers) x)
    have a3:v2.re e (d+(v2.drawn-d))=v3:=by injection r
    subst a1;subst a2
    refine Lone.shift W V L v2 D2 e (d+(v2.drawn-d)) z X a3.symm s (λk=> ?_)
    have e1:d+(v2.drawn-d)+k=v2.drawn+k:=by omega
    rw[e1]
    simp only[e,zAh (show¬v2.drawn+k<v2.drawn by omega)]
    congr 1
    omega
  .obtain⟨p,h⟩:=m e d' cs aE (λk U=>ht k (by omega));exact⟨p,h⟩
def yX (V:∀K:Kp,(∀b,¬K b)->cJ P Al K)(N:∀fr own v q d,S fr own v->S fr own (v.re q d)){fr:zC}{own:zL}{v:zW}{D:zP}(M:Closed P Al D fr own v)
  (h:∀q d,Lone P cs S fr own (v.re q d)):Ends P Al S fr own v:=by
 apply zCj
 intro J
 let T:={x:zC×zL×zW//lp P Al cs S x}
 have Y:T:=⟨(fr,own,v),⟨⟨D,M⟩,h,J⟩⟩
 have t:∀x:T,∃(y:T)(q:zT)(d c:Nat),Ng P cs x.1 y.1 q d c:=λx=>by obtain⟨y,q,d,c,o,W⟩:=Mv V N x.2;exact⟨⟨y,o⟩,q,d,c,W⟩
 let f:T->T:=λx=>aCJ (t x)
 let A:T->zT:=λx=>aCJ (zAr (t x))
 let st:T->Nat:=λx=>aCJ (zAr (zAr (t x)))
 let z:T->Nat:=λx=>aCJ (zAr (zAr (zAr (t x))))
 have U:∀x:T,Ng P cs x.1 (f x).1 (A x) (st x) (z x):=λx=>zAr (zAr (zAr (zAr (t x))))
 let seq:Nat->T:=λn=>Nat.rec ⟨(fr,own,v),⟨⟨D,M⟩,h,J⟩⟩ (λ_ x=>f x) n
 let j:Nat->Nat:=λn=>Nat.rec 0 (λm k=>k+z (seq m)) n
 have I:∀n,seq (n+1)=f (seq n):=λn=>rfl
 have r:∀n,j (n+1)=j n+z (seq n):=λn=>rfl
 have l:∀m n,m<=n->j m<=j n:=by
  intro m n O;induction n with
  |zero=>
       have:m=0:=by omega
       subst this;exact zAa _
  |succ n B=>
   obtain o|o:=zDx m (n+1)
   .exact zBl (B (by omega)) (by rw[r];omega)
   .have:m=n+1:=by omega
    subst this;exact zAa _
 let rG:zT:=λi=>by
  classical
  exact if p:∃n,j n<=i/\i<j (n+1)then A (seq (aCJ p)) (st (seq (aCJ p))+(i-j (aCJ p)))elseλ_=>0
 have w:∀n k,k<z (seq n)->rG (j n+k)=A (seq n) (st (seq n)+k):=by
  intro n k L;have p:∃m,j m<=j n+k/\j n+k<j (m+1):=⟨n,by omega,by rw[r];omega⟩;have Q:=zAr p;have e:aCJ p=n:=by
   generalize aCJ p=m at Q;obtain o|o|o:=Nat.lt_trichotomy m n
   .have:=l (m+1) n o;omega
   .exact o
   .have:=l (n+1) m o;rw[r]at this;omega
  simp only[rG]
  rw[dif_pos p,e]
  congr 1
  omega
 have never:∀{a b u},Lone P cs S a b u->∀n,a=(seq n).1.1->b=(seq n).1.2.1->u=(seq n).1.2.2.re rG (j n)->False:=by
  intro a b u R;induction R with
  |stop s=>intro n G F E;subst G;subst F;subst E;exact(seq n).2.not (.stop (by have:=N _ _ _ (seq n).1.2.2.tape (seq n).1.2.2.drawn s;exact this))
  | @step a H b b1 u u1 es _ s _ B=>
   intro n G F E;subst G;subst F;subst E;obtain⟨X,C⟩:=(U (seq n)).step rG (j n) (λk L=>w n k L);rw[C]at s;have H:(f (seq n)).1.1=H:=by injection s with x;exact congrArg (λg:zH=>g.frame) x
   have a2:(f (seq n)).1.2.1=b1:=by injection s with x;exact zDt (congrArg (λg:zH=>g.callers) x)
   have a3:(f (seq n)).1.2.2.re rG (j n+z (seq n))=u1:=by injection s
   exact B (n+1) H.symm a2.symm a3.symm
 exact never (h rG 0) 0 rfl rfl rfl
end
section
variable {P:zZ}{Al:zF}
def kV (v:zW):v.re v.tape v.drawn=v:=rfl
def iK (P:zZ)(R:zR)(fr:zC)(own:zL)(v:zW):Prop:=
 own=[]/\∃x,(∀a d,fr.leaving P (v.re a d) (aL x))/\∀a d,R x (v.re a d)
def iK.re {R:zR}{fr:zC}{own:zL}{v:zW}(c:zT)(d:Nat)(h:iK P R fr own v):iK P R fr own (v.re c d):=
 ⟨h.1,let⟨x,f,e⟩:=h.2;⟨x,λa b=>f a b,λa b=>e a b⟩⟩
def XB (fn:Func){D:zP}{fr:zC}{own:zL}{v:zW}(q:Closed P Al D fr own v){x:zY}(h:(results fn fr.tmps).run P v= .ok x v)(i:zT)(d:Nat):
  (results fn fr.tmps).run P (v.re i d)= .ok x (v.re i d):=by
 have m:∀b,¬(Nh v.drawn) b:=λb h=>h
 have A:cB P Al (Nh v.drawn) (dE D) v (v.re i d):=by have:=jV q.world m v.tape i v.drawn d (λk B=>absurd (B v.drawn rfl) (by omega));exact this
 have H:=A.ok
 have g:((results fn fr.tmps).runT P v #[]).1= .ok x v:=by rw[Sem.runT_fst];exact h
 obtain(⟨V,T,z,e,_⟩|⟨⟨n,t,bU⟩,_⟩)|⟨C,v1,w1,z,X,J,l,W,I⟩:=(iO (P:=P) (Al:=Al) (F:=Nh v.drawn) fn q.frame.tmps).runT v (v.re i d) #[] #[] A
 .rw[e]at g;cases g
 .cases t;have:Ps ((results fn fr.tmps).runT P v #[])=v:=by
   generalize(results fn fr.tmps).runT P v #[]=r at g;obtain⟨r1,r2⟩:=r;dsimp only at g;subst g;rfl
  rw[this]at bU;exact absurd bU (zEt _)
 .obtain⟨a,b,r1,r2,w⟩|⟨y,M,r1,r2,U⟩:=I
  .rw[r1]at g;cases g;have u:∀b f,dE D b f->b=f:=λb f h=>h.1;obtain⟨s,j⟩:=l.same rfl u;have L:=NI q.nj j w;subst L;have G:(results fn fr.tmps).run P (v.re i d)= .ok x w1:=by rw[<-Sem.runT_fst P _ _ #[],r2]
   rw[G];obtain⟨k,k1,k2⟩:=l.drawn;have B:k=0:=by omega
   have c:w1.heap=v.heap:=by
    apply zCd;intro b;by_cases p:∃f,C b f
    .obtain⟨f,p⟩:=p;have:=j b f p;subst this;exact(Ju q.nj j m J p).symm
    .have t:∀f,¬dE D b f:=λf h=>p ⟨f,l.sub _ _ h⟩;obtain bU|o:=zDx b v.heap.size
     .rw[l.still b bU (λb0 K=>absurd K (by rintro⟨rfl,E⟩;exact t b0 ⟨rfl,E⟩))];rfl
     .rw[zBk (by rw[<-s];exact o),zBk o]
   congr 1
   have t1:w1.tape=i:=l.tape
   have t2:w1.os=v.os:=l.os
   have t3:w1.output=v.output:=l.out
   have t4:w1.drawn=d:=by have:w1.drawn=d+k:=k2;omega
   obtain⟨S,R,Q,O,N⟩:=w1
   dsimp only at t1 t2 t3 t4 c
   subst t1;subst t2;subst t3;subst t4;subst c
   rfl
  .rw[r1]at g;cases g
def aY:zC:={fn:=0,tmps:= #[],todo:=[.code (.refuse "")],defers:=[⟨.nil,#[]⟩],mode:= .run,kind:= .normal}
def xF (u:zW):∃o w,step P (lone aY [] u)= .ended o w:=⟨_,_,step_lone_ended rfl⟩
def wF (l:List PanicEntry)(u:zW):∃o w,step P (lone (aY.raise l) [] u)= .ended o w:=⟨_,_,step_lone_ended rfl⟩
def pF (T:∀K:Kp,(∀b,¬K b)->cJ P Al K){S:zS}{fr':zC}{w':zW}(R:∀D,Closed P Al D fr' [] w'->S fr' [] w'):
  ∀(n:Nat){a:zC}{own:zL}{u:zW}{D:zP},Closed P Al D a own u->runN P n (lone a (own++[aY]) u)= .next (lone fr' [aY] w')->Lone P [aY] S a own u:=by
 intro n
 induction n with
 |zero=>
  intro a own u D x h;have h:Stepped.next (lone a (own++[aY]) u)= .next (lone fr' [aY] w'):=h;have z:lone a (own++[aY]) u=lone fr' [aY] w':=by injection h
  have X:u=w':=congrArg Machine.world z
  have k:({frame:=a,callers:=own++[aY],status:= .running,dying:=aB}:zH)={frame:=fr',callers:=[aY],status:= .running,dying:=aB}:=by have:=congrArg Machine.gs z;simpa [lone]using this
  have W:a=fr':=congrArg Goroutine.frame k
  have V:own++[aY]=[aY]:=congrArg Goroutine.callers k
  have U:own=[]:=by have:=congrArg List.length V;simp at this;exact this
  subst X;subst W;subst U
  exact .stop (R D x)
 |succ n J=>
  intro a own u D x h;have i:∀m1,step P (lone a (own++[aY]) u)= .next m1->runN P n m1= .next (lone fr' [aY] w'):=λm1 e=>by simpa only[runN,e]using h
  have l:∀o w1,step P (lone a (own++[aY]) u)≠.ended o w1:=λo w1 e=>by simp only[runN,e]at h;cases h
  have dead:∀(f:zC)(w1:zW),(∃o w,step P (lone f [] w1)= .ended o w)->runN P n (lone f [] w1)≠.next (lone fr' [aY] w'):=by
   rintro f w1 ⟨o,w2,he⟩ t;cases n with
   |zero=>
    have t:Stepped.next (lone f [] w1)= .next (lone fr' [aY] w'):=t;have z:lone f [] w1=lone fr' [aY] w':=by injection t
    have:=congrArg Machine.gs z
    have k:({frame:=f,callers:=[],status:= .running,dying:=aB}:zH)={frame:=fr',callers:=[aY],status:= .running,dying:=aB}:=by simpa [lone]using this
    have:=congrArg Goroutine.callers k
    cases this
   |succ n=>simp only[runN,he]at t;cases t
  by_cases c:a.mode= .run\/a.defers≠[]\/own≠[]
  .obtain⟨o,w1,m,s⟩|⟨E,oW,v2,g,D2,s,C,Q,L,_,I⟩:=kE (cs:=[aY]) T x c aE u.tape u.drawn
   .rw[kV]at s;exact absurd (step_lone_ended (by rw[show({frame:=a,callers:=own++[aY],status:= .running,dying:=aB}:zH)=G a (own++[aY])from rfl,s];rfl)) (l o w1)
   .rw[kV]at s;have A:=step_lone_go (P:=P) (fr:=a) (cs:=own++[aY]) (w:=u) (fr':=E) (cs':=oW++[aY]) (w':=v2) (by rw[show({frame:=a,callers:=own++[aY],status:= .running,dying:=aB}:zH)=G a (own++[aY])from rfl,s];rfl);exact .step c s (J C (i _ A))
  .exfalso;have N:a.mode≠.run:=λe=>c (aG e);have q:a.defers=[]:=zCj λe=>c (aH (aG e));have M:own=[]:=zCj λe=>c (aH (aH e));subst M;have B:=x.frame.kinds;have v:=kH x.frame.items;have ret:∀(y:zY)(w1:zW),doReturn P aE a [aY] aB y w1= .go (G aY []) w1:=λy w1=>by
    unfold doReturn;obtain h|h:=B<;>rw[h]<;>rfl
   have goes:∀(f:zC)(w1:zW)(m:zE),stepG P aE (G a ([]++[aY])) u= .go (G f []) w1 m->(∃o w,step P (lone f [] w1)= .ended o w)->False:=λf w1 m k q=>by have A:=step_lone_go (P:=P) (fr:=a) (cs:=[]++[aY]) (w:=u) (fr':=f) (cs':=[]) (w':=w1) (by rw[show({frame:=a,callers:=[]++[aY],status:= .running,dying:=aB}:zH)=G a ([]++[aY])from rfl,k];rfl);exact dead f w1 q (i _ A)
   have ended:∀(o:Outcome)(w1:zW)(m:zE),stepG P aE (G a ([]++[aY])) u= .ended o w1 m->False:=λo w1 m k=>
    l o w1 (step_lone_ended (by rw[show({frame:=a,callers:=[]++[aY],status:= .running,dying:=aB}:zH)=G a ([]++[aY])from rfl,k];rfl))
   cases d:a.mode with
   |run=>exact N d
   |panicking chain=>
    have e:stepG P aE (G a ([]++[aY])) u= .go (G (aY.raise chain) []) u:=by simp only[stepG,G,d,unwind,q,v,zCl,zBf,zDp]
    exact goes _ _ _ e (wF chain u)
   |returning=>
    have F:stepG P aE (G a ([]++[aY])) u=unwind P aE a [aY] aB u:=by simp only[stepG,G,d,zCl]
    cases p:P.funcs[a.fn]? with
    |none=>
     have e:stepG P aE (G a ([]++[aY])) u= .go (G aY []) u:=by rw[F];simp only[unwind,q,d,p,ret]
     exact goes _ _ _ e (xF u)
    |some fn=>
     cases j:(results fn a.tmps).runT P u #[]with
     |mk r m=>
      cases r with
      |ok y w1=>
       have e:stepG P aE (G a ([]++[aY])) u= .go (G aY []) w1 (seen P a.fn m++ #[]):=by rw[F];unfold unwind;rw[q];dsimp only;rw[d];dsimp only;rw[p];dsimp only;rw[j];dsimp only;rw[ret];rfl
       exact goes _ _ _ e (xF w1)
      |halt O w1=>
       have e:∃o w2 g,stepG P aE (G a ([]++[aY])) u= .ended o w2 g:=by rw[F];unfold unwind;rw[q];dsimp only;rw[d];dsimp only;rw[p];dsimp only;rw[j];dsimp only;cases O<;>exact⟨_,_,_,rfl⟩
       obtain⟨o,w2,g,e⟩:=e
       exact ended o w2 g e
def iK.of {R:zR}(i:∀x u a d,R x u->R x (u.re a d)){fr:zC}{u:zW}{x:zY}(h:fr.leaving P u (aL x))(f:R x u){D:zP}(g:Closed P Al D fr [] u):iK P R fr [] u:=by refine⟨rfl,x,λa d=> ?_,λa d=>i x u a d f⟩;obtain⟨q1,e,c,fn,b,q⟩:=h;exact⟨q1,e,c,fn,b,XB fn g q a d⟩
def AtEnd (P:zZ)(R:zR)(E:List PanicEntry->zW->Prop)(fr:zC)(own:zL)(v:zW):Prop:=
 iK P R fr own v\/(own=[]/\fr.defers=[]/\∃chain,fr.mode= .panicking chain/\∀a d,E chain (v.re a d))
def AtEnd.re {R:zR}{E:List PanicEntry->zW->Prop}{fr:zC}{own:zL}{v:zW}(b:zT)(d:Nat)(h:AtEnd P R E fr own v):AtEnd P R E fr own (v.re b d):=
 h.imp (·.re b d) λ⟨i,g,c,f,e⟩=>⟨i,g,c,f,λa j=>e a j⟩
def IT (s:¬Al 1000000/\∀k,¬Al (1000002+k))(o:∀K:Kp,(∀b,¬K b)->cJ P Al K){f:zN}(t:Al f){args:zA}{w:zW}{D:zP}(y:aW Al (dE D) args args)(r:cB P Al K0 (dE D) w w)
  {R:zR} {E:List PanicEntry->zW->Prop} (z:∀x u a d,R x u->R x (u.re a d)) (A:∀x u a d,E x u->E x (u.re a d)) (h:∀a d,Calls P f args (w.re a d) λe w'=>(∃x,e=aL x/\R x w')\/∃c,e= .panicked c/\E c w'):
  Ends P Al (AtEnd P R E) (Frame.enter P f args .normal) [] w:=by
 have j:∀b,¬K0 b:=λb h=>h
 have m:Closed P Al D (Frame.enter P f args .normal) [] w:=⟨cW.enter (o K0 j) t y (aG rfl),.nil,r,s⟩
 refine yX (cs:=[aY]) o (λB own v a d h=>h.re a d) m λa d=> ?_
 have l:Closed P Al D (Frame.enter P f args .normal) [] (w.re a d):=⟨m.frame,.nil,jV r j a a d d (λ_ _=>rfl),s⟩
 obtain⟨e,w',B,i,g,_,q⟩:=h a d [aY]
 obtain⟨x,rfl,i⟩|⟨c,rfl,i⟩:=i
 .obtain⟨n,p⟩:Steps P _ _:=g;exact pF o (λD m=>aG (iK.of z q i m)) n l p
 .obtain⟨n,p⟩:Steps P _ _:=g;exact pF o (λD m=>aH ⟨rfl,q.2.1,c,q.1,λa d=>A c _ a d i⟩) n l p
def ends_of_calls (o:¬Al 1000000/\∀k,¬Al (1000002+k))(l:∀K:Kp,(∀b,¬K b)->cJ P Al K){f:zN}(s:Al f){args:zA}{w:zW}{D:zP}(t:aW Al (dE D) args args)(m:cB P Al K0 (dE D) w w)
  {R:zR} (y:∀x u a d,R x u->R x (u.re a d)) (h:∀a d,Calls P f args (w.re a d) λe w'=>∃x,e=aL x/\R x w'):
  Ends P Al (iK P R) (Frame.enter P f args .normal) [] w:=by
 have g:∀b,¬K0 b:=λb h=>h
 have i:Closed P Al D (Frame.enter P f args .normal) [] w:=⟨cW.enter (l K0 g) s t (aG rfl),.nil,m,o⟩
 refine yX (cs:=[aY]) l (λz own v a d h=>h.re a d) i λa d=> ?_
 obtain⟨e,w',z,⟨x,rfl,p⟩,c,_,r⟩:=h a d [aY]
 obtain⟨n,q⟩:Steps P _ _:=c
 have j:Closed P Al D (Frame.enter P f args .normal) [] (w.re a d):=⟨i.frame,.nil,jV m g a a d d (λ_ _=>rfl),o⟩
 exact pF l (λD i=>iK.of y r p i) n j q
end
def XN:Nat->zY->Bool
 |0,_=>aF
 |n+1,v=>match v with
  | .bool _| .int _ _| .string _| .pointer aB| .slice aB _ _| .nilFunc| .nilIface| .map aB| .chan aB=>aE
  | .iface _ v=>XN n v
  | .agg cs| .tuple cs=>cs.toList.all (XN n)
  |_=>aF
def yC:∀(n:Nat)(v:zY),XN n v=aE->Flat v
 |0,_,h=>by simp[XN]at h
 |n+1,v,h=>by
  intro Al g;have d:∀cs:zA,cs.toList.all (XN n)=aE->∀(i:Nat)(v j:zY),cs[i]? =aA v->cs[i]? =aA j->bG Al g v j:=λcs q i v j o p=>by rw[o]at p;cases p;exact yC n v (zCa.1 q v (by rw[<-zBo]at o;exact zCq o)) Al g
  cases v with
  |bool b=>exact .bool b
  |int k n=>exact .int k n
  |string s=>exact .string s
  |pointer a=>
   cases a with
   |none=>exact .pointer .none
   |some a=>simp[XN]at h
  |slice a l c=>
   cases a with
   |none=>exact .slice .none l c
   |some a=>simp[XN]at h
  |nilFunc=>exact .nilFunc
  |nilIface=>exact .nilIface
  |map r=>
   cases r with
   |none=>exact .jM
   |some r=>simp[XN]at h
  |chan r=>
   cases r with
   |none=>exact .gX
   |some r=>simp[XN]at h
  |iface t v=>exact .iface t (yC n v (by simpa [XN]using h) Al g)
  |agg cs=>exact .agg rfl (d cs (by simpa only[XN]using h))
  |tuple cs=>exact .tuple rfl (d cs (by simpa only[XN]using h))
  |_=>simp[XN]at h
def TU (P:zZ):Nat->zD->Bool
 |0,_=>aF
 |f+1,t=>match P.underlying t with
  |some (.func _ _ _)|some (.interface _)=>aF
  |some (.struct a)=>a.toList.all λx=>TU P f x.type
  |some (.array _ e)=>TU P f e
  |_=>aE
def Qa {P:zZ}:∀f t,TU P f t=aE->∀d,JN P d t:=by
 intro f;induction f with
 |zero=>intro t h;cases h
 |succ f i=>
  intro t g d;cases d with
  |zero=>trivial
  |succ d=>
   unfold JN;unfold TU at g;cases hu:P.underlying t with
   |none=>trivial
   |some u=>
    rw[hu]at g;cases u with
    |func a b c=>cases g
    |interface ms=>cases g
    |struct k=>exactλx j=>i x.type (zCa.1 g x j) d
    |array n e=>exact i e g d
    |_=>trivial
def Xx (op:BinOp):Bool:=match op with| .eql| .neq=>aF|_=>aE
structure Ck where
 al:zN->Bool
 uf:zD->Bool
 mt:String->Bool
 mark:Bool
section
variable(P:zZ)(C:Ck)
def XO:Operand->Bool
 | .tmp _=>aE
 | .const v=>XN 8 v
 | .global g=>decide (g<=P.globals.size)
 | .func f=>C.al f
def GV (t:zD):Bool:=match P.underlying t with|some (.pointer e)=>C.uf e|_=>aE
def XP (s d:zD):Bool:=
 GV P C s&&GV P C d&&(match P.underlying d with|some (.slice _)=>C.mark||(match P.underlying s with|some (.slice _)=>aF|_=>aE)|some (.float _)|some (.complex _)=>aF|_=>aE)&&
  (match P.underlying s with|some (.slice e)=>(match P.underlying e with|some (.int .i32)=>aF|_=>aE)|_=>aE)&&(match P.underlying d with|some (.slice e)=>(match P.underlying e with|some (.int .i32)=>aF|_=>aE)|_=>aE)&&
  (match P.underlying s with|some (.slice _)=>(match P.underlying d with|some (.slice _)=>aF|_=>aE)|_=>aE)
def Rw (op:BinOp)(t:zD):Bool:=
 match op with
 | .eql| .neq=>(match P.underlying t with
  |some .bool|some (.int _)|some .string=>aE
  |some (.pointer e)=>(match P.info? e with|some i=>decide (i.size≠0)|none=>aF)
  |_=>aF)
 |_=>aE
def uI (b:Builtin)(a:Array zD)(t:zD):Bool:=
 match b with
 | .append| .clear=>(match a[0]? with|some u=>decide (u<P.types.size)|none=>aE)
 | .cap| .copy| .len| .min| .unsafeString=>aE
 | .unsafeSliceData=>GV P C t
 |_=>aF
def Uj (o:Oper):Bool:=
 o.op.operands.toList.all (XO P C)&&
 match o.op with
 | .move _| .assign _| .pick .. | .box .. | .load .. | .store .. | .nilCheck _| .unOp .. | .makeInterface .. | .slice .. | .fieldAddr .. | .field .. | .indexAddr .. | .index .. | .extract .. | .panic _=>aE
 | .alloc t| .build t _| .buildSlice t _ _| .makeSlice t _ _=>decide (t<P.types.size)
 | .binOp op t _ _ _=>(Xx op||TU P 9 t)&&(C.mark||Rw P op t)
 | .convert s d _=>XP P C s d
 | .makeFunc fn a b=>decide (a.size+b.size<=10)&&match fn with| .func f=>C.al f|_=>aF
 | .call c=>decide (c.args.size<=10)&&match c.callee with| .value _=>aE| .builtin b=>uI P C b c.argTypes o.type| .invoke _ m=>C.mt m
 |_=>aF
def oI:Code->Bool
 | .region _ ops _=>ops.toList.all (Uj P C)
 | .seq a b=>oI a&&oI b
 | .cond c a b=>XO P C c&&oI a&&oI b
 | .block _ b| .loop b| .scope b=>oI b
 | .rangeFunc .. =>aF
 |_=>aE
end
section
variable {P:zZ}{C:Ck}{F:Kp}(Hi:∀e,C.uf e=aE->kC P e)(bm:∀m,C.mt m=aE->wX P (λf=>C.al f=aE) m)(Bf:C.mark=aE->∀b,¬F b)(Sc:C.mark=aF->¬F.cmp)
def LW {x:Operand}(h:XO P C x=aE):CF P (λf=>C.al f=aE) x:=by
 cases x with
 |tmp t=>trivial
 |const v=>exactλa _=>yC 8 v h _ a
 |global g=>exact(of_decide_eq_true (p:=g<=P.globals.size) h:g<=P.globals.size)
 |func f=>exact h
include Hi in
def BI {t:zD}(h:GV P C t=aE)(e:zD)(a:P.underlying t=aA (.pointer e)):kC P e:=by unfold GV at h;rw[a]at h;exact Hi e h
include Hi Bf Sc in
def Es {s d:zD}(h:XP P C s d=aE):Aa P F s d:=by
 unfold XP at h;simp only[zBd]at h;obtain⟨⟨⟨⟨⟨p,o⟩,c⟩,l⟩,j⟩,i⟩:=h;refine⟨λe a=>a.elim (BI Hi p e) (BI Hi o e),λ⟨e,a⟩=> ?_,λk a=> ?_,λk a=> ?_,λe q a g=> ?_,λe a n=> ?_⟩
 .rw[a]at c;dsimp only at c;cases hm:C.mark with
  |true=>exact aG (Bf hm)
  |false=>rw[hm,zGc]at c;refine aH ⟨Sc hm,λq g=> ?_⟩;rw[g]at c;cases c
 .rw[a]at c;cases c
 .rw[a]at c;cases c
 .rw[a]at i;dsimp only at i;rw[g]at i;cases i
 .obtain a|a:=a
  .rw[a]at l;dsimp only at l;rw[n]at l;cases l
  .rw[a]at j;dsimp only at j;rw[n]at j;cases j
include Hi in
def OP {b:Builtin}{a:Array zD}{t:zD}(h:uI P C b a t=aE):CI P b a t:=by
 cases b with
 |append|clear=>intro u c;simp only[uI,c]at h;exact of_decide_eq_true h
 |cap|copy|len|min|unsafeString=>trivial
 |unsafeSliceData=>exact BI Hi h
 |_=>simp[uI]at h
include Hi bm Bf Sc in
def Pw {o:Oper}(h:Uj P C o=aE):PU P (λf=>C.al f=aE) F o:=by
 unfold Uj at h;rw[zBd]at h;obtain⟨z,g⟩:=h;refine⟨λx s=>LW (zCa.1 z x (zDl.2 s)),?_⟩;cases n:o.op<;>rw[n]at g<;>dsimp only at g⊢<;>first|trivial|exact of_decide_eq_true g|exact Es Hi Bf Sc g|(cases g;done)|skip
 case binOp op t x y u=>
  rw[zBd]at g
  obtain⟨v,g⟩:=g
  refine⟨λw=>Qa 9 t ?_ _,?_⟩
  .obtain rfl|rfl:=w<;>simpa [Xx]using v
  rw[zDo]at g
  obtain g|g:=g
  .exact aG (aH (Bf g))
  .right;unfold Rw at g;by_cases l:op≠.eql/\op≠.neq
   .exact aG l
   .right;have j:(match P.underlying t with|some .bool|some (.int _)|some .string=>aE|some (.pointer e)=>(match P.info? e with|some i=>decide (i.size≠0)|none=>aF)|_=>aF)=aE:=by
     cases op<;>first|exact g|exact absurd ⟨by simp,by simp⟩ l
    cases hu:P.underlying t with
    |none=>rw[hu]at j;cases j
    |some d=>
     rw[hu]at j;cases d with
     |bool=>exact aG (aG hu)
     |int k=>exact aG (aH (aG ⟨k,hu⟩))
     |string=>exact aG (aH (aH hu))
     |pointer e=>
      dsimp only at j;cases p:P.info? e with
      |none=>rw[p]at j;cases j
      |some i=>rw[p]at j;exact aH ⟨e,i,rfl,p,of_decide_eq_true j⟩
     |_=>cases j
 case makeFunc fn a b=>
  rw[zBd]at g
  refine⟨of_decide_eq_true g.1,?_⟩
  have l:=g.2
  cases fn<;>first|exact l|cases l
 case call c=>
  rw[zBd]at g
  refine⟨of_decide_eq_true g.1,?_⟩
  replace g:=g.2
  cases q:c.callee with
  |value f=>trivial
  |builtin b=>rw[q]at g;exact OP Hi g
  |invoke r m=>rw[q]at g;exact bm m g
include Hi bm Bf Sc in
def Et:∀{c:Code},oI P C c=aE->lG P (λf=>C.al f=aE) F c:=by
 intro c;induction c with
 |region id ops d=>exactλh o i=>Pw Hi bm Bf Sc (zCa.1 h o (zDl.2 i))
 |seq a b g hb=>intro h;rw[oI,zBd]at h;exact⟨g h.1,hb h.2⟩
 |cond c a b g hb=>intro h;rw[oI,zBd,zBd]at h;exact⟨LW h.1.1,g h.1.2,hb h.2⟩
 |block id b hb=>exactλh=>hb h
 |loop b hb=>exactλh=>hb h
 |scope b hb=>exactλh=>hb h
 |rangeFunc=>intro h;simp[oI]at h
 |_=>intro _;trivial
end
end Go.Ren
