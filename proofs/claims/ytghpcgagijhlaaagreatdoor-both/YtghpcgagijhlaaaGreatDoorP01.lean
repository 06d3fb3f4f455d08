import Derived.Test.YtghpcgagijhlaaaGreatDoorP00
set_option linter.all false
set_option maxRecDepth 100000
set_option maxHeartbeats 16000000
open Option renaming some->aA,none->aB
open Bool renaming true->aE,false->aF
open Or renaming inl->aG,inr->aH
open Go.Obj renaming cells->aI
open Go.IntKind renaming u8->aP
namespace Go.Ren
section
variable {P:zZ}{Al:zF}{F:Kp}{α β:Type}{A:Rn->α->β->Prop}
def Ps {α:Type}:Result α×zE->zW
 |(.ok _ w,_)=>w
 |(.halt _ w,_)=>w
def Rq (F:Kp)(u:zW):Prop:=∃n,F.rG=aA n/\n<u.drawn
def Form {α β:Type}(A:Rn->α->β->Prop)(r:Result α×zE):Prop:=
 (∃(a:α)(b:β)(d:Rn)(c:zW)(e:zE),r=(.ok a c,e)/\A d a b)\/∃(x:zY)(c:zW)(e:zE),r=(.halt (.panic x) c,e)
def pW (P:zZ)(Al:zF)(F:Kp)(A:Rn->α->β->Prop)(π:Rn)(v w:zW)(g:zE)(r:Result α×zE)(r':Result β×zE):Prop:=
 ((∃j k c,r=(.halt j k,c)/\Fatal j)\/(Rq F (Ps r)/\Form A r))\/
 ∃(f:Rn)(h w1:zW)(c:zE)(d:zE),cB P Al F f h w1/\jL F π f v h w w1/\(∀e∈d,nC F f e)/\
  ((∃a b,r=(.ok a h,c)/\r'=(.ok b w1,g++d)/\A f a b)\/(∃x i,r=(.halt (.panic x) h,c)/\r'=(.halt (.panic i) w1,g++d)/\bG Al f x i))
def pW.step {π ρ:Rn}{v v1 w w1:zW}{a d:zE}{r:Result α×zE}{r':Result β×zE}
  (g:jL F π ρ v v1 w w1) (j:∀e∈d,nC F ρ e) (h:pW P Al F A ρ v1 w1 (a++d) r r'):pW P Al F A π v w a r r':=by
 obtain h|⟨f,v2,w2,b,d2,m,c,l,k⟩:=h
 .exact aG h
 .refine aH ⟨f,v2,w2,b,d++d2,m,g.trans c,λe i=> ?_,?_⟩
  .obtain x|x:=zEq.1 i
   .exact(j e x).mono c.sub
   .exact l e x
  .rw[<-zEx];exact k
def nN (es:zE)(e:Event):es++ #[e]=es.push e:=by simp
end
section
variable {P:zZ}{α β γ:Type}
def bD {s:Sem α}{f:α->Sem β}(v:zW)(es:zE):(s>>=f).runT P v es=match s.runT P v es with|(.ok a w,e)=>(f a).runT P w e|(.halt h w,e)=>(.halt h w,e):=by
 show(s.bind f).runT P v es=_
 induction s generalizing v es with
 |pure a=>rfl
 |load m a k i=>
  simp only[Sem.bind,Sem.runT];split
  .exact i _ _ _
  .split
   .exact i _ _ _
   .rfl
 |store m a x k i=>cases x<;>simp only[Sem.bind,Sem.runT]<;>(repeat' split)<;>first|rfl|exact i _ _|(simp_all;done)
 |new o k i=>simp only[Sem.bind,Sem.runT];exact i _ _ _
 |shape r k i=>simp only[Sem.bind,Sem.runT];exact i _ _ _
 |freeze a n k i=>simp only[Sem.bind,Sem.runT];exact i _ _
 |frozen a k i=>simp only[Sem.bind,Sem.runT];exact i _ _ _
 |getObj r k i=>simp only[Sem.bind,Sem.runT];split<;>first|rfl|exact i _ _ _
 |setObj r o k i=>simp only[Sem.bind,Sem.runT];split<;>first|rfl|exact i _ _
 |choose q k i=>simp only[Sem.bind,Sem.runT];split<;>exact i _ _ _
 |sys c k i=>simp only[Sem.bind,Sem.runT];exact i _ _ _
 |program k i=>simp only[Sem.bind,Sem.runT];exact i _ _ _
 |mark m k i=>simp only[Sem.bind,Sem.runT];exact i _ _
 |halt h=>rfl
def bind_assoc' {s:Sem α}{f:α->Sem β}{g:β->Sem γ}:(s>>=f)>>=g=s>>=λa=>f a>>=g:=by
 show(s.bind f).bind g=s.bind λa=>(f a).bind g
 induction s with
 |pure a=>rfl
 |load m a k i=>simp only[Sem.bind,i]
 |store m a x k i=>simp only[Sem.bind,i]
 |new o k i=>simp only[Sem.bind,i]
 |shape r k i=>simp only[Sem.bind,i]
 |freeze a n k i=>simp only[Sem.bind,i]
 |frozen a k i=>simp only[Sem.bind,i]
 |getObj r k i=>simp only[Sem.bind,i]
 |setObj r o k i=>simp only[Sem.bind,i]
 |choose q k i=>simp only[Sem.bind,i]
 |sys c k i=>simp only[Sem.bind,i]
 |program k i=>simp only[Sem.bind,i]
 |mark m k i=>simp only[Sem.bind,i]
 |halt h=>rfl
end
section
variable {P:zZ}{Al:zF}{F:Kp}{π:Rn}{v w:zW}
def yH (a:Addr)(acc:ByteArray)(n:Nat)(x:zY):Sem ByteArray:=
 match x with| .int aP b=>loadBytes (a.add 1) (acc.push b.toNat.toUInt8) n|_=>stuck "a byte variable that holds no byte"
def vS (O:cB P Al F π v w):∀(n:Nat){a C:Addr}(acc:ByteArray)(u j:zE),bV π a C->
  (∃z g,(loadBytes a acc n).runT P v u=(.halt z v,g)/\Fatal z)\/
  ∃s g d,(loadBytes a acc n).runT P v u=(.ok s v,g)/\(loadBytes C acc n).runT P w j=(.ok s w,j++d)/\(∀e∈d,nC F π e)/\
   (n≠0->(∀c t r,v.heap[a.block]? =aA (aI c t r)->a.off+n<=c.size)/\¬F a.block):=by
 intro n
 induction n with
 |zero=>intro a C acc u j h;exact aH ⟨acc,u,#[],rfl,by simp[loadBytes,pure,Sem.runT],by simp,λh=>absurd rfl h⟩
 |succ n ih=>
  intro a C acc u j h;have J:∀(x I:zY)(d:zE)(B:zE),bG Al π x I->(∀e∈d,nC F π e)->
    (loadBytes a acc (n+1)).runT P v u=(yH a acc n x).runT P v B->
    (loadBytes C acc (n+1)).runT P w j=(yH C acc n I).runT P w (j++d)->
    (∀m,x= .int aP m->(∀c t r,v.heap[a.block]? =aA (aI c t r)->a.off+1<=c.size/\a.spot=aB)/\¬F a.block)->
    (∃z g,(loadBytes a acc (n+1)).runT P v u=(.halt z v,g)/\Fatal z)\/
    ∃s g d,(loadBytes a acc (n+1)).runT P v u=(.ok s v,g)/\(loadBytes C acc (n+1)).runT P w j=(.ok s w,j++d)/\(∀e∈d,nC F π e)/\
     (n+1≠0->(∀c t r,v.heap[a.block]? =aA (aI c t r)->a.off+(n+1)<=c.size)/\¬F a.block):=by
   intro x I d B hx H p M hb
   rw[p,M]
   have no:yH a acc n x=stuck "a byte variable that holds no byte"->
     ∃z g,(yH a acc n x).runT P v B=(.halt z v,g)/\Fatal z:=λe=>by rw[e];exact⟨_,_,rfl,by simp⟩
   cases hx with
   |int k m=>
    cases k<;>first|exact aG (no rfl)|skip
    obtain⟨T,S⟩:=hb m rfl
    show(∃z g,(loadBytes (a.add 1) (acc.push m.toNat.toUInt8) n).runT P v B=(.halt z v,g)/\Fatal z)\/∃s g N,(loadBytes (a.add 1) (acc.push m.toNat.toUInt8) n).runT P v B=(.ok s v,g)/\(loadBytes (C.add 1) (acc.push m.toNat.toUInt8) n).runT P w (j++d)=(.ok s w,j++N)/\_
    obtain y|⟨s,g,d2,y1,Z,Y,X⟩:=ih (acc.push m.toNat.toUInt8) B (j++d) (h.add 1)
    .exact aG y
    .refine aH ⟨s,g,d++d2,y1,by rw[Z,zEx],λe G=> ?_,λ_=>⟨λc t r D=> ?_,S⟩⟩
     .obtain q|q:=zEq.1 G
      .exact H e q
      .exact Y e q
     .have q1:=T c t r D;by_cases hn:n=0
      .omega
      .have:=(X hn).1 c t r (by simpa [Addr.add]using D);simp[Addr.add]at this;omega
   |_=>exact aG (no rfl)
  obtain⟨x,I,p,M,E⟩|⟨p,M⟩:=O.cell h
  .refine J x I #[⟨.cell C,aF,aF⟩] (u.push ⟨.cell a,aF,aF⟩) E (λe G=> ?_) ?_ ?_ ?_
   .simp only[zAp,zAw]at G;subst G;exact aG ⟨a,C,aF,_,rfl,h,by simp⟩
   .show(Sem.load .plain a _).runT P v u=_
    simp only[Sem.runT,p];rfl
   .show(Sem.load .plain C _).runT P w j=_
    rw[nN];simp only[Sem.runT,M];rfl
   .intro m V;subst V;refine⟨λc t r D=> ?_,λhF=> ?_⟩
    .simp only[World.cell?,D]at p;split at p
     .cases p
     .rename_i R;have:=(zAb.1 p).1;exact⟨by omega,by simpa using R⟩
    .obtain⟨c,c',ty,r,fr',L,g2,Q,g4,g5⟩|⟨_,o,L,_,Q⟩|⟨y,y',L,_,Q⟩:=O.blk _ _ h.1
     .simp only[World.cell?,L]at p;split at p
      .cases p
      .exact(g4 hF).2.2.1 _ _ p
     .unfold World.cell? at p;rw[L]at p;cases o with
      |cells c t f=>exact absurd rfl (Q.1 c t f)
      |_=>cases p
     .unfold World.cell? at p;rw[L]at p;cases Q<;>cases p
  .obtain⟨z,E,U⟩|⟨x,b,W,l,E,U,e5,e6⟩:=O.kp h aF
   .left;refine⟨z,u,?_,U⟩;show(Sem.load .plain a _).runT P v u=_
    simp only[Sem.runT,p];rw[show((Mode.plain==Mode.atomic):Bool)=aF from rfl,E]
   .refine J x x ((l.map λi=>(⟨W,i,aB⟩:Addr)).toArray.map λa=>(⟨.cell a,aF,aF⟩:Event)) (u++(l.map λi=>(⟨b,i,aB⟩:Addr)).toArray.map λa=>(⟨.cell a,aF,aF⟩:Event)) e6 (λe G=> ?_) ?_ ?_ ?_
    .simp only[zFe,zFc,zAp,zDb]at G;obtain⟨i,_,rfl⟩:=G;exact aG ⟨⟨b,i,aB⟩,⟨W,i,aB⟩,aF,_,rfl,⟨e5,rfl,rfl⟩,by simp⟩
    .show(Sem.load .plain a _).runT P v u=_
     simp only[Sem.runT,p];rw[show((Mode.plain==Mode.atomic):Bool)=aF from rfl,E];rfl
    .show(Sem.load .plain C _).runT P w j=_
     simp only[Sem.runT,M];rw[show((Mode.plain==Mode.atomic):Bool)=aF from rfl,U];rfl
    .intro m V;have K:∀c t r,v.heap[a.block]?≠aA (aI c t r):=λc t r D=>by
      unfold World.farLoad at E;rw[D]at E;cases E
     exact⟨λc t r D=>absurd D (K c t r),λhF=>by
      obtain⟨o,D,⟨c,t,r,rfl⟩|H⟩:=O.rows _ hF
      .exact K c t r D
      .unfold World.farLoad at E;rw[D]at E;cases o<;>first|(cases E;done)|exact absurd rfl (H.2.1 _ _)|exact absurd rfl (H.2.2.1 _ _)|exact absurd rfl (H.2.2.2 _ _)|exact absurd rfl (H.1 _ _ _)⟩
def rD (C:cB P Al F π v w){a a':Addr}(h:bV π a a')(es j:zE):
  (∃s n,(noView a).runT P v es=(.halt s v,n)/\Fatal s)\/
  ∃n d,(noView a).runT P v es=(.ok () v,n)/\(noView a').runT P w j=(.ok () w,j++d)/\∀e∈d,nC F π e:=by
 have i:∀(u:zW)(b:Addr) c t r (es:zE),u.heap[b.block]? =aA (aI c t r)->(noView b).runT P u es=(.ok () u,es):=λu b c t r es p=>by
  have:u.shape? b.block=aA (t,c.size):=by simp only[World.shape?,p]
  show(Sem.shape b.block _).runT P u es=_
  simp only[Sem.runT,this];rfl
 have g:∀(u:zW)(b:Addr) o (es:zE),u.heap[b.block]? =aA o->(∀c t f,o≠aI c t f)->(∀x t,o≠.view x t)->(noView b).runT P u es=(.ok () u,es.push ⟨.obj b.block,aF,o.isChan⟩):=λu b o es p z D=>by
  have:u.shape? b.block=aB:=by
   simp only[World.shape?,p];cases o with
   |cells c t f=>exact absurd rfl (z c t f)
   |_=>rfl
  show(Sem.shape b.block _).runT P u es=_
  simp only[Sem.runT,this]
  show(Sem.getObj b.block _).runT P u es=_
  simp only[Sem.runT,p]
  cases o with
  |cells c t f=>exact absurd rfl (z c t f)
  |view x t=>exact absurd rfl (D x t)
  |_=>rfl
 obtain⟨c,c',ty,r,E,m,g2,k,I,H⟩|⟨_,o,m,g2,k⟩|⟨y,G,m,g2,k⟩:=C.blk _ _ h.1
 .exact aH ⟨es,#[],i v a _ _ _ es m,by rw[i w a' _ _ _ j g2,zDn],by simp⟩
 .refine aH ⟨_,#[⟨.obj a'.block,aF,o.isChan⟩],g v a o es m k.1 k.2.1,by rw[g w a' o j g2 k.1 k.2.1,nN],λe q=> ?_⟩;simp only[zAp,zAw]at q;subst q;exact aH (aH (aH ⟨a.block,a'.block,_,rfl,h.1⟩))
 .cases k with
  |view B u p=>
   left;refine⟨.unsupported (.unsafePointer "memory seen as another type"),es.push ⟨.obj a.block,aF,aF⟩,?_,by simp⟩;have:v.shape? a.block=aB:=by simp only[World.shape?,m]
   show(Sem.shape a.block _).runT P v es=_
   simp only[Sem.runT,this]
   show(Sem.getObj a.block _).runT P v es=_
   simp only[Sem.runT,m];rfl
  |number B l=>refine aH ⟨_,#[⟨.obj a'.block,aF,aF⟩],g v a _ es m (by simp) (by simp),by rw[g w a' _ j g2 (by simp) (by simp),nN];rfl,λe q=> ?_⟩;simp only[zAp,zAw]at q;subst q;exact aH (aH (aH ⟨a.block,a'.block,_,rfl,h.1⟩))
def DT (u:zW)(a:Addr):Prop:=∀c t f,u.heap[a.block]? =aA (aI c t f)->f.2<=c.size
def vM {u:zW}{a:Addr}(h:DT u a)(es:zE):(stringish a).runT P u es=(.ok (u.frozen? a) u,es):=by
 show(Sem.frozen a _).runT P u es=_
 simp only[Sem.runT]
 cases e:u.frozen? a with
 |true=>rfl
 |false=>
  show(Sem.shape a.block _).runT P u es=_
  simp only[Sem.runT]
  cases hu:u.heap[a.block]? with
  |none=>simp only[World.shape?,hu];rfl
  |some o=>
   cases o with
   |cells c t f=>
    simp only[World.shape?,hu];show(Sem.frozen {block:=a.block,off:=c.size} _).runT P u es=_
    have:u.frozen? {block:=a.block,off:=c.size}=aF:=by
     obtain⟨lo,b⟩:=f;have:=h c t (lo,b) hu;simp only[World.frozen?,hu];simp only at this;have d:¬c.size<b:=by omega
     simp[d]
    simp only[Sem.runT,this]
   |_=>simp only[World.shape?,hu];rfl
def yJ {u:zW}{a b:Addr}(f:DT u a)(e:DT u b)(es:zE):(mayBeOne a b).runT P u es=(.ok (u.frozen? a&&u.frozen? b) u,es):=by
 have pos:∀(x:Addr),DT u x->u.frozen? x=aE->(u.shape? x.block matches aA (_,0))=aF:=λx g h=>by
  unfold World.frozen? at h;unfold World.shape?;cases hu:u.heap[x.block]? with
  |none=>rfl
  |some o=>
   cases o with
   |cells c t k=>
    obtain⟨lo,i⟩:=k;rw[hu]at h;have:=g c t (lo,i) hu;simp only[zBd,zBs]at h;simp only at this;cases j:c.size with
    |zero=>omega
    |succ n=>simp[j]
   |_=>rfl
 unfold mayBeOne
 dsimp only
 rw[bD,vM f]
 dsimp only
 rw[bD,vM e]
 show(Sem.shape a.block _).runT P u es=_
 simp only[Sem.runT]
 show(Sem.shape b.block _).runT P u es=_
 simp only[Sem.runT]
 show(Result.ok ((u.frozen? a&&u.frozen? b)||(u.frozen? a&&(u.shape? a.block matches aA (_,0)))||(u.frozen? b&&(u.shape? b.block matches aA (_,0)))) u,es)=_
 have m:(u.frozen? a&&(u.shape? a.block matches aA (_,0)))=aF:=by
  cases d:u.frozen? a with
  |false=>rfl
  |true=>rw[Bool.true_and];exact pos a f d
 have l:(u.frozen? b&&(u.shape? b.block matches aA (_,0)))=aF:=by
  cases d:u.frozen? b with
  |false=>rfl
  |true=>rw[Bool.true_and];exact pos b e d
 rw[m,l,Bool.or_false,Bool.or_false]
def MN (l:cB P Al F π v w){a a':Addr}(h:bV π a a')(p:F.cmp/\∃x,F x):DT v a/\DT w a'/\(w.frozen? a'=aE->v.frozen? a=aE):=by
 obtain⟨c,c',ty,s,k,i,g2,g,r,q⟩|⟨_,o,i,g2,g⟩|⟨y,B,i,g2,g⟩:=l.blk _ _ h.1
 .have j:=q.2 p;refine⟨λc1 t1 e b=> ?_,λc1 t1 e b=> ?_,λd=> ?_⟩
  .rw[i]at b;cases b;exact j.1
  .rw[g2]at b;cases b;rw[g.size];exact j.2
  .by_cases hF:F a.block
   .obtain⟨z,u,_⟩:=r hF;obtain⟨lo,C⟩:=s;obtain⟨m,n⟩:=k;simp only[World.frozen?,g2,zBd,zBs]at d;simp only[World.frozen?,i,zBd,zBs];simp only at z u j;rw[h.2.1]at d;omega
   .rw[l.frozen h hF]at d;exact d
 .refine⟨λc1 t1 e b=> ?_,λc1 t1 e b=> ?_,λd=> ?_⟩
  .rw[i]at b;cases b;exact absurd rfl (g.1 _ _ _)
  .rw[g2]at b;cases b;exact absurd rfl (g.1 _ _ _)
  .unfold World.frozen? at d;rw[g2]at d;cases o with
   |cells c t f=>exact absurd rfl (g.1 c t f)
   |_=>cases d
 .refine⟨λc1 t1 e b=> ?_,λc1 t1 e b=> ?_,λd=> ?_⟩
  .rw[i]at b;cases b;cases g
  .rw[g2]at b;cases b;cases g
  .unfold World.frozen? at d;rw[g2]at d;cases g<;>cases d
def SD (z:cB P Al F π v w)(I:F.cmp/\∃x,F x){a a' b j:Addr}(h:bV π a a')(k:bV π b j)(es i:zE):
  (∃o f,(sameAddr a b).runT P v es=(.halt o v,f)/\Fatal o)\/
  ∃t f d,(sameAddr a b).runT P v es=(.ok t v,f)/\(sameAddr a' j).runT P w i=(.ok t w,i++d)/\∀e∈d,nC F π e:=by
 have l:=z.ok.inj h.1 k.1
 obtain⟨H,s,O⟩:=MN z h I
 obtain⟨G,p,N⟩:=MN z k I
 by_cases e:a.block=b.block
 .have E:=l.1 e;refine aH ⟨a==b,es,#[],?_,?_,by simp⟩
  .unfold sameAddr;simp only[e,BEq.rfl,zDf];rfl
  .unfold sameAddr;have:(a'==j)=(a==b):=by
    obtain⟨_,J,S⟩:=h;obtain⟨_,k2,R⟩:=k;by_cases m:a=b
    .subst m;have:a'=j:=by cases a';cases j;simp_all
     simp[this]
    .have:a'≠j:=λq=>m (by cases a;cases b;cases a';cases j;simp_all);rw[zEl m,zEl this]
   simp only[E,BEq.rfl,zDf,this,zDn];rfl
 .have E:a'.block≠j.block:=λq=>e (l.2 q);have run:∀(u:zW)(c d:Addr)(es:zE),c.block≠d.block->DT u c->DT u d->(sameAddr c d).runT P u es=
    if(u.frozen? c&&u.frozen? d)=aE then(.halt (.unsupported .addressObserved) u,es)else
     match(noView c).runT P u es with
     |(.ok _ u1,f)=>match(noView d).runT P u1 f with
      |(.ok _ u2,g)=>((mayBeOne c d)>>=λt=>if t=aE then(choose (.extern "sameAddr.stringBytes" 2)>>=λn=>pure (n==1))else pure aF).runT P u2 g
      |(.halt h u2,g)=>(.halt h u2,g)
     |(.halt h u1,f)=>(.halt h u1,f):=by
   intro u c d es D Q nd
   unfold sameAddr
   rw[zEl D]
   simp only[zBf,zDp]
   show(Sem.frozen c _).runT P u es=_
   simp only[Sem.runT]
   show(Sem.frozen d _).runT P u es=_
   simp only[Sem.runT]
   show Sem.runT P (if(u.frozen? c&&u.frozen? d)=aE then _ else _) u es=_
   cases(u.frozen? c&&u.frozen? d)with
   |true=>rfl
   |false=>
    simp only[zBf,zDp];rw[bD];cases(noView c).runT P u es with
    |mk r f=>
     cases r with
     |halt h u1=>rfl
     |ok _ u1=>
      dsimp only;rw[bD];cases(noView d).runT P u1 f with
      |mk r g=>cases r<;>rfl
  rw[run v a b es e H G,run w a' j i E s p];cases C:(v.frozen? a&&v.frozen? b)with
  |true=>exact aG ⟨_,_,rfl,by simp⟩
  |false=>
   have y:(w.frozen? a'&&w.frozen? j)=aF:=by
    cases M:w.frozen? a' with
    |false=>rfl
    |true=>
     cases J:w.frozen? j with
     |false=>rfl
     |true=>rw[O M,N J]at C;cases C
   rw[y]
   simp only[zBf,zDp]
   obtain⟨o,f,q1,B⟩|⟨f,d,q1,B,K⟩:=rD z h es i
   .rw[q1];exact aG ⟨o,f,rfl,B⟩
   rw[q1,B]
   dsimp only
   obtain⟨o,g,r1,r2⟩|⟨g,d2,r1,r2,r3⟩:=rD z k f (i++d)
   .rw[r1];exact aG ⟨o,g,rfl,r2⟩
   rw[r1,r2]
   dsimp only
   rw[bD,yJ H G,bD,yJ s p,C,y]
   refine aH ⟨aF,g,d++d2,rfl,by rw[<-zEx];rfl,λx L=> ?_⟩
   obtain q|q:=zEq.1 L
   .exact K x q
   .exact r3 x q
end
section
variable {P:zZ}{Al:zF}{F:Kp}{α β:Type}{A:Rn->α->β->Prop}
def Gx {γ:Type}:∀(a:Ask γ)(u:zW),u.drawn<=(u.ask a).2.drawn:=by
 intro a;induction a with
 |done x=>intro u;exact zAa _
 |ask b range k i=>
  intro u;unfold World.ask;dsimp only;split
  .exact i _ u
  .exact zBl (Nat.le_succ _) (i _ {u with drawn:=u.drawn+1})
def Df (u:zW)(c:Sys):u.drawn<=(u.sys c).2.drawn:=by
 have:=Gx (Kernel.perform c u.os) u;unfold World.sys;split
 .exact zAa _
 .rename_i h;rw[h]at this;exact this
def WZ {γ:Type}:∀(s:Sem γ)(u:zW)(b:zE),u.drawn<=(Ps (s.runT P u b)).drawn:=by
 intro s;induction s with
 |pure a=>intro u b;exact zAa _
 |load m a k i=>
  intro u b;simp only[Sem.runT];split
  .exact i _ _ _
  .split
   .exact i _ _ _
   .exact zAa _
 |store m a x k i=>
  intro u b;have D:(u.setCell a x).drawn=u.drawn:=rfl;have j:∀y p l,u.farStore P a y (m== .atomic)= .ok (p,l)->p.drawn=u.drawn:=by
   intro y p l h;unfold World.farStore at h;cases hb:u.heap[a.block]? with
   |none=>rw[hb]at h;cases h
   |some o=>
    rw[hb]at h;cases o with
    |view at_ t=>
     dsimp only at h;cases d:u.viewStore P at_ t a y (m== .atomic)with
     |error f=>rw[d]at h;cases h
     |ok r=>
      rw[d]at h;cases h;cases g:u.seen P at_ t a (m== .atomic)with
      |error f=>
       have:∃f,u.viewStore P at_ t a y (m== .atomic)= .error f:=by
        unfold World.viewStore;by_cases C:(!tight P P.depth t)=aE
        .rw[zAk C];exact⟨_,rfl⟩
        .rw[zAh C,g];exact⟨_,rfl⟩
       obtain⟨f,G⟩:=this
       rw[G]at d;cases d
      |ok z=>
       obtain⟨c,e,H,first,B,cells⟩:=z;rw[qT g]at d;split at d
       .cases d
       .split at d
        .cases d
        .split at d
         .cases d
         .split at d
          .cases d
          .cases d;rfl
    |_=>cases h
  cases x<;>simp only[Sem.runT]<;>first|exact zAa _|skip
  all_goals
   split
   .split
    .exact zAa _
    .refine zBl ?_ (i _ _);exact zAa _
   .split
    .rename_i h;rw[<-j _ _ _ h];exact i _ _
    .exact zAa _
 |new o k i=>intro u b;exact i _ {u with heap:=u.heap.push o} b
 |shape r k i=>intro u b;exact i _ u b
 |freeze a n k i=>
  intro u b;have:(u.freeze a n).drawn=u.drawn:=by unfold World.freeze;split<;>rfl
  have E:=i (u.freeze a n) b
  rw[this]at E
  exact E
 |frozen a k i=>intro u b;exact i _ u b
 |getObj r k i=>intro u b;simp only[Sem.runT];split<;>first|exact zAa _|exact i _ _ _
 |setObj r o k i=>intro u b;simp only[Sem.runT];split<;>first|exact zAa _|exact i {u with heap:=u.heap.setIfInBounds r o} _
 |choose q k i=>
  intro u b;simp only[Sem.runT];split
  .exact i _ _ _
  .exact zBl (Nat.le_succ _) (i _ {u with drawn:=u.drawn+1} b)
 |sys c k i=>intro u b;exact zBl (Df u c) (i _ _ _)
 |program k i=>intro u b;exact i _ u b
 |mark m k i=>intro u b;exact i u _
 |halt h=>intro u b;exact zAa _
def bR.runT {π:Rn}{s:Sem α}{s':Sem β}(h:bR P Al F A π s s'):∀(v w:zW)(p g:zE),cB P Al F π v w->pW P Al F A π v w g (s.runT P v p) (s'.runT P w g):=by
 induction h with
 |pure h=>intro v w p g j;exact aH ⟨_,v,w,p,#[],j,jL.refl v w,by simp,aG ⟨_,_,rfl,by simp[Sem.runT],h⟩⟩
 | @load π m a C k L h O B=>
  intro v w p g j;obtain⟨x,R,I,K,Q⟩|⟨I,K⟩:=j.cell h
  .simp only[Sem.runT,I,K];have:=B x R Q v w (p.push ⟨.cell a,aF,m== .atomic⟩) (g.push ⟨.cell C,aF,m== .atomic⟩) j;refine pW.step (jL.refl v w) (d:= #[⟨.cell C,aF,m== .atomic⟩]) (λe J=> ?_) (by rw[nN];exact this);simp only[zAp,zAw]at J;subst J;exact aG ⟨a,C,aF,_,rfl,h,by simp⟩
  .obtain⟨S,Q,T⟩|⟨x,b,E,l,Q,T,e5,e6⟩:=j.kp h (m== .atomic)
   .left;left;refine⟨S,v,p,?_,T⟩;simp only[Sem.runT,I,Q]
   .simp only[Sem.runT,I,K,Q,T];refine pW.step (jL.refl v w) (d:=(l.map λi=>(⟨E,i,aB⟩:Addr)).toArray.map λa=>(⟨.cell a,aF,m== .atomic⟩:Event)) (λe J=> ?_) (B x x e6 v w _ _ j);simp only[zFe,zFc,zAp,zDb]at J;obtain⟨i,_,rfl⟩:=J;exact aG ⟨⟨b,i,aB⟩,⟨E,i,aB⟩,aF,_,rfl,⟨e5,rfl,rfl⟩,by simp⟩
 | @store π m a C x R k L h hx O B=>
  intro v w p g j;have X:(∀(cs:zA),x≠.agg cs)->(∀(cs:zA),x≠.tuple cs)->(∀(cs:zA),R≠.agg cs)->(∀(cs:zA),R≠.tuple cs)->pW P Al F A π v w g ((Sem.store m a x k).runT P v p) ((Sem.store m C R L).runT P w g):=by
   intro n1 n2 n3 n4;rw[Sem.runT.eq_5 _ _ _ _ _ _ _ (λcs h=>n1 cs h) (λcs h=>n2 cs h),Sem.runT.eq_5 _ _ _ _ _ _ _ (λcs h=>n3 cs h) (λcs h=>n4 cs h)];obtain⟨y,y',I,K,Q⟩|⟨I,K⟩:=j.cell h
   .simp only[I,K];by_cases hF:F a.block
    .left;left;rw[j.Bi h hF I];exact⟨_,_,_,rfl,by simp⟩
    .rw[j.frozen h hF];cases hf:v.frozen? a with
     |true=>left;left;exact⟨_,_,_,rfl,by simp⟩
     |false=>
      have:=B (v.setCell a x) (w.setCell C R) (p.push ⟨.cell a,aE,m== .atomic⟩) (g.push ⟨.cell C,aE,m== .atomic⟩) (j.setCell h hF hx);refine pW.step (ρ:=π) (v1:=v.setCell a x) (w1:=w.setCell C R) ⟨λ_ _ z=>z,by simp[World.setCell],by simp[World.setCell],λE _ G=> ?_,λ_ _ z=>aG z,rfl,rfl,rfl,rfl,rfl,rfl,⟨0,rfl,rfl⟩,λx y=>⟨by simpa [World.setCell]using x,y⟩,λb _ G=> ?_,λb N M=>by simp[World.setCell]at M;omega⟩ (d:= #[⟨.cell C,aE,m== .atomic⟩]) (λe J=> ?_) (by rw[nN];exact this)
      .have:C.block≠E:=λq=>hF (G a.block (q▸h.1));simp only[World.setCell,bX _ this]
      .have:a.block≠b:=λq=>G C.block (q▸h.1);simp only[World.setCell,bX _ this]
      .simp only[zAp,zAw]at J;subst J;exact aG ⟨a,C,aE,_,rfl,h,λ_=>hF⟩
   .simp only[I,K];obtain⟨S,Q,T⟩|⟨v1,w1,b,E,l,Q,T,e5,e6,e7,e8⟩:=j.farStore h hx (m== .atomic)
    .left;left;exact⟨S,v,p,by simp only[Q],T⟩
    .simp only[Q,T];refine pW.step e7 (d:=(l.map λi=>(⟨E,i,aB⟩:Addr)).toArray.map λa=>(⟨.cell a,aE,m== .atomic⟩:Event)) (λe J=> ?_) (B v1 w1 _ _ e6);simp only[zFe,zFc,zAp,zDb]at J;obtain⟨i,hi,rfl⟩:=J;exact aG ⟨⟨b,i,aB⟩,⟨E,i,aB⟩,aE,_,rfl,⟨e5,rfl,rfl⟩,λ_ hF=>by rw[e8 hF]at hi;cases hi⟩
  cases hx with
  |agg _ _=>left;left;exact⟨_,_,_,rfl,by simp⟩
  |tuple _ _=>left;left;exact⟨_,_,_,rfl,by simp⟩
  |junk vb hj=>exact X (by simp) (by simp) (λcs e=>by rw[e]at hj;exact hj) (λcs e=>by rw[e]at hj;exact hj)
  |_=>exact X (by simp) (by simp) (by simp) (by simp)
 | @new π c c' ty k L h O B=>
  intro v w p g j;have:=B (more π v.heap.size w.heap.size) v.heap.size w.heap.size (j.push h ty).ok (λ_ _ x=>aG x) (aH ⟨rfl,rfl⟩) _ _ p g (j.push h ty);simp only[Sem.runT];refine pW.step (ρ:=more π v.heap.size w.heap.size) (v1:={v with heap:=v.heap.push (aI c ty)}) (w1:={w with heap:=w.heap.push (aI c' ty)}) (d:= #[]) ⟨λ_ _ x=>aG x,by simp only[zBb];omega,by simp only[zBb];omega,λE hb _=> ?_,λb E x=> ?_,rfl,rfl,rfl,rfl,rfl,rfl,⟨0,rfl,rfl⟩,λx y=>⟨by simp only[zBb];omega,λb E z=> ?_⟩,λb hb _=> ?_,λb N M=>⟨w.heap.size,aH ⟨by simp only[zBb]at M;omega,rfl⟩⟩⟩ (by simp) (by rw[zDn];exact this)
  .show(w.heap.push _)[E]? =_
   rw[zBh,zAh (by omega)]
  .obtain x|⟨rfl,rfl⟩:=x
   .exact aG x
   .exact aH ⟨zAa _,zAa _,by show _<(w.heap.push _).size;rw[zBb];omega⟩
  .obtain z|⟨rfl,rfl⟩:=z
   .exact y _ _ z
   .exact x
  .show(v.heap.push _)[b]? =_
   rw[zBh,zAh (by omega)]
 | @marked π c c' ty k L hC h O B=>
  intro v w p g j;have:=B (more π v.heap.size w.heap.size) v.heap.size w.heap.size (j.rA hC h ty).ok (λ_ _ x=>aG x) (aH ⟨rfl,rfl⟩) _ _ p g (j.rA hC h ty);rw[oK,oK];refine pW.step (ρ:=more π v.heap.size w.heap.size) (v1:={v with heap:=v.heap.push (aI c ty (c.size,c.size+1))}) (w1:={w with heap:=w.heap.push (aI c' ty (c'.size,c'.size+1))}) (d:= #[]) ⟨λ_ _ x=>aG x,by simp only[zBb];omega,by simp only[zBb];omega,λE hb _=> ?_,λb E x=> ?_,rfl,rfl,rfl,rfl,rfl,rfl,⟨0,rfl,rfl⟩,λx y=>⟨by simp only[zBb];omega,λb E z=> ?_⟩,λb hb _=> ?_,λb N M=>⟨w.heap.size,aH ⟨by simp only[zBb]at M;omega,rfl⟩⟩⟩ (by simp) (by rw[zDn];exact this)
  .show(w.heap.push _)[E]? =_
   rw[zBh,zAh (by omega)]
  .obtain x|⟨rfl,rfl⟩:=x
   .exact aG x
   .exact aH ⟨zAa _,zAa _,by show _<(w.heap.push _).size;rw[zBb];omega⟩
  .obtain z|⟨rfl,rfl⟩:=z
   .exact y _ _ z
   .exact x
  .show(v.heap.push _)[b]? =_
   rw[zBh,zAh (by omega)]
 | @view π x R k L h O B=>
  intro v w p g j;have:=B (more π v.heap.size w.heap.size) v.heap.size w.heap.size (j.yA h).ok (λ_ _ x=>aG x) (aH ⟨rfl,rfl⟩) _ _ p g (j.yA h);simp only[Sem.runT];refine pW.step (ρ:=more π v.heap.size w.heap.size) (v1:={v with heap:=v.heap.push x}) (w1:={w with heap:=w.heap.push R}) (d:= #[]) ⟨λ_ _ x=>aG x,by simp only[zBb];omega,by simp only[zBb];omega,λE hb _=> ?_,λb E x=> ?_,rfl,rfl,rfl,rfl,rfl,rfl,⟨0,rfl,rfl⟩,λx y=>⟨by simp only[zBb];omega,λb E z=> ?_⟩,λb hb _=> ?_,λb N M=>⟨w.heap.size,aH ⟨by simp only[zBb]at M;omega,rfl⟩⟩⟩ (by simp) (by rw[zDn];exact this)
  .show(w.heap.push _)[E]? =_
   rw[zBh,zAh (by omega)]
  .obtain x|⟨rfl,rfl⟩:=x
   .exact aG x
   .exact aH ⟨zAa _,zAa _,by show _<(w.heap.push _).size;rw[zBb];omega⟩
  .obtain z|⟨rfl,rfl⟩:=z
   .exact y _ _ z
   .exact x
  .show(v.heap.push _)[b]? =_
   rw[zBh,zAh (by omega)]
 | @getObj π r U k L h O B=>
  intro v w p g j;have Z:∀(t:Bool)(e:Event),e∈#[(⟨.obj U,aF,t⟩:Event)]->nC F π e:=λt e J=>by simp only[zAp,zAw]at J;subst J;exact aH (aH (aH ⟨r,U,t,rfl,h⟩))
  obtain⟨c,c',ty,fr,fr',N,M,_⟩|⟨_,o,N,M,V⟩|⟨x,R,N,M,V⟩:=j.blk _ _ h
  .left;left;exact⟨.stuck "getObj: a row of cells",v,p,by simp only[Sem.runT,N],by simp⟩
  .have I:(Sem.getObj r k).runT P v p=(k o).runT P v (p.push ⟨.obj r,aF,o.isChan⟩):=by
    simp only[Sem.runT,N];cases o with
    |cells c t f=>exact absurd rfl (V.1 c t f)
    |_=>rfl
   have K:(Sem.getObj U L).runT P w g=(L o).runT P w (g.push ⟨.obj U,aF,o.isChan⟩):=by
    simp only[Sem.runT,M];cases o with
    |cells c t f=>exact absurd rfl (V.1 c t f)
    |_=>rfl
   rw[I,K]
   exact pW.step (jL.refl v w) (d:= #[⟨.obj U,aF,o.isChan⟩]) (Z _) (by rw[nN];exact B o o (aG ⟨V,rfl⟩) v w _ _ j)
  .have I:(Sem.getObj r k).runT P v p=(k x).runT P v (p.push ⟨.obj r,aF,aF⟩):=by
    simp only[Sem.runT,N];cases V<;>rfl
   have K:(Sem.getObj U L).runT P w g=(L R).runT P w (g.push ⟨.obj U,aF,aF⟩):=by simp only[Sem.runT,M];cases V<;>rfl
   rw[I,K]
   exact pW.step (jL.refl v w) (d:= #[⟨.obj U,aF,aF⟩]) (Z _) (by rw[nN];exact B _ _ (aH ⟨x,R,rfl,rfl,V⟩) v w _ _ j)
 | @shape π r U k L h O B=>intro v w p g j;simp only[Sem.runT,j.shape h];exact B _ v w p g j
 | @freeze π a C n k L hF h O B=>
  intro v w p g j;have:=B (v.freeze a n) (w.freeze C n) p g (j.freeze hF h n);simp only[Sem.runT];have D:∀(u:zW)(x:Addr),(u.freeze x n).heap.size=u.heap.size/\(u.freeze x n).tape=u.tape/\(u.freeze x n).os=u.os/\(u.freeze x n).output=u.output/\(u.freeze x n).drawn=u.drawn:=λu x=>by unfold World.freeze;split<;>simp
  refine pW.step (d:= #[]) ⟨λ_ _ x=>x,by rw[(D v a).1];exact zAa _,by rw[(D w C).1];exact zAa _,λE _ G=> ?_,λb E x=>aG x,(D _ _).2.1,(D _ _).2.2.1,(D _ _).2.2.2.1,(D _ _).2.1,(D _ _).2.2.1,(D _ _).2.2.2.1,⟨0,(D v a).2.2.2.2,(D w C).2.2.2.2⟩,λx y=>⟨by rw[(D v a).1,(D w C).1];exact x,y⟩,λb _ G=> ?_,λb N M=>by rw[(D v a).1]at M;omega⟩ (by simp) (by rw[zDn];exact this)
  .have:C.block≠E:=λq=>hF _ (G a.block (q▸h.1));unfold World.freeze;split
   .rfl
   .simp only[bX _ this]
  .have:a.block≠b:=λq=>G C.block (q▸h.1);unfold World.freeze;split
   .rfl
   .simp only[bX _ this]
 | @frozen π a C k L hF h O B=>intro v w p g j;simp only[Sem.runT,j.frozen h (hF _)];exact B _ v w p g j
 | @share π a C n k L h O B=>
  intro v w p g j;rw[bD,bD];obtain⟨S,H,I,K⟩|⟨s,H,d,I,K,Q,T⟩:=vS j n .empty p g h
  .rw[I];exact aG (aG ⟨S,v,H,rfl,K⟩)
  .rw[I,K];dsimp only;show pW P Al F A π v w g ((Sem.freeze a n (k s)).runT P v H) ((Sem.freeze C n (L s)).runT P w (g++d))
   simp only[Sem.runT];have D:∀(u:zW)(x:Addr),(u.freeze x n).heap.size=u.heap.size/\(u.freeze x n).tape=u.tape/\(u.freeze x n).os=u.os/\(u.freeze x n).output=u.output/\(u.freeze x n).drawn=u.drawn:=λu x=>by unfold World.freeze;split<;>simp
   have hW:cB P Al F π (v.freeze a n) (w.freeze C n):=by
    by_cases Y:n=0
    .subst Y;exact j
    .exact j.UB h (T Y).1 λ_=>(T Y).2
   refine pW.step (v1:=v.freeze a n) (w1:=w.freeze C n) ⟨λ_ _ x=>x,by rw[(D v a).1];exact zAa _,by rw[(D w C).1];exact zAa _,λE _ G=> ?_,λb E x=>aG x,(D _ _).2.1,(D _ _).2.2.1,(D _ _).2.2.2.1,(D _ _).2.1,(D _ _).2.2.1,(D _ _).2.2.2.1,⟨0,(D v a).2.2.2.2,(D w C).2.2.2.2⟩,λx y=>⟨by rw[(D v a).1,(D w C).1];exact x,y⟩,λb _ G=> ?_,λb N M=>by rw[(D v a).1]at M;omega⟩ Q (B s _ _ _ _ hW)
   .unfold World.freeze;split
    .rfl
    .rename_i Y;have:C.block≠E:=λq=>(T Y).2 (G a.block (q▸h.1));simp only[bX _ this]
   .have:a.block≠b:=λq=>G C.block (q▸h.1);unfold World.freeze;split
    .rfl
    .simp only[bX _ this]
 | @same π a C b E k L hN h h' O B=>
  intro v w p g j;rw[bD,bD];obtain⟨S,H,I,K⟩|⟨t,H,d,I,K,Q⟩:=SD j hN h h' p g
  .rw[I];exact aG (aG ⟨S,v,H,rfl,K⟩)
  .rw[I,K];exact pW.step (jL.refl v w) Q (B t v w _ _ j)
 | @choose π q k L O B=>
  intro v w p g j;simp only[Sem.runT];split
  .exact B 0 v w p g j
  .by_cases S:F.upto v.drawn
   .have e0:w.tape w.drawn=v.tape v.drawn:=j.tape 0 S;have I:q.cut (w.tape w.drawn q)=q.cut (v.tape v.drawn q):=by rw[e0]
    rw[I];have:=B (q.cut (v.tape v.drawn q)) {v with drawn:=v.drawn+1} {w with drawn:=w.drawn+1} p g ⟨j.ok,j.blk,λk O=>by have:=j.tape (k+1) (by rw[zGf k 1,<-zCv];exact O);rw[zGf k 1,<-zCv,<-zCv]at this;exact this,j.fresh,j.low,j.os,j.rows⟩;exact pW.step (v1:={v with drawn:=v.drawn+1}) (w1:={w with drawn:=w.drawn+1}) (d:= #[]) ⟨λ_ _ x=>x,zAa _,zAa _,λ_ _ _=>rfl,λ_ _ x=>aG x,rfl,rfl,rfl,rfl,rfl,rfl,⟨1,rfl,rfl⟩,λx y=>⟨x,y⟩,λ_ _ _=>rfl,λb N M=>absurd M (zFz.2 N)⟩ (by simp) (by rw[zDn];exact this)
   .obtain⟨u,hu⟩:=zFn.1 S;obtain⟨Qn,Nu⟩:=Classical.not_imp.1 hu;have vq:Rq F (Ps ((k (q.cut (v.tape v.drawn q))).runT P {v with drawn:=v.drawn+1} p)):=
     ⟨u,Qn,zAc (show u<v.drawn+1 by omega) (WZ (k (q.cut (v.tape v.drawn q))) {v with drawn:=v.drawn+1} p)⟩
    have:=B (q.cut (v.tape v.drawn q)) {v with drawn:=v.drawn+1} {w with drawn:=v.drawn+1,tape:=v.tape} p g ⟨j.ok,j.blk,λ_ _=>rfl,j.fresh,j.low,j.os,j.rows⟩;obtain(N|N)|⟨W,v1,w1,H,d,g1,g2,g3,g4⟩:=this
    .exact aG (aG N)
    .exact aG (aH N)
    .refine aG (aH ⟨vq,?_⟩);obtain⟨a,b,r1,r2,Wr⟩|⟨x,R,r1,r2,hx⟩:=g4
     .exact aG ⟨a,b,W,v1,H,r1,Wr⟩
     .exact aH ⟨x,v1,H,r1⟩
 | @program π k L J O B=>intro v w p g j;simp only[Sem.runT];exact B v w p g j
 | @mark π m k L hm O B=>
  intro v w p g j;simp only[Sem.runT];have:=B v w (p.push ⟨.mark m,aF,aE⟩) (g.push ⟨.mark m,aF,aE⟩) j;refine pW.step (jL.refl v w) (d:= #[⟨.mark m,aF,aE⟩]) (λe J=> ?_) (by rw[nN];exact this);simp only[zAp,zAw]at J;subst J;obtain rfl|⟨f,rfl⟩:=hm
  .exact aH (aG (aG rfl))
  .exact aH (aH (aG ⟨f,rfl⟩))
 | @env π k L O B=>intro v w p g j;have D:∀(u:zW),u.sys .env=(.strings u.os.env,u):=λu=>rfl;simp only[Sem.runT,D,j.os];have:=B (.strings v.os.env) v w (p.push ⟨.output,aE,aF⟩) (g.push ⟨.output,aE,aF⟩) j;refine pW.step (jL.refl v w) (d:= #[⟨.output,aE,aF⟩]) (λe J=> ?_) (by rw[nN];exact this);simp only[zAp,zAw]at J;subst J;exact aH (aG (aH rfl))
 |panic h=>intro v w p g j;exact aH ⟨_,v,w,p,#[],j,jL.refl v w,by simp,aH ⟨_,_,rfl,by simp[Sem.runT],h⟩⟩
 |dead h=>intro v w p g j;obtain⟨S,w1,H,e,K⟩:=h v p;exact aG (aG ⟨S,w1,H,e,K⟩)
end
section
variable {P:zZ}{Al:zF}{F:Kp}{α β γ δ:Type}
def GJ {s:Sem α}{f:α->Sem β}(v:zW)(es:zE){d:Halt}{w:zW}{e:zE}(h:s.runT P v es=(.halt d w,e)):(s.bind f).runT P v es=(.halt d w,e):=by
 have b:∀(s:Sem α)(v:zW)(es:zE),(s.bind f).runT P v es=match s.runT P v es with|(.ok a w,e)=>(f a).runT P w e|(.halt h w,e)=>(.halt h w,e):=by
  intro s;induction s with
  |pure a=>intro v es;rfl
  |load m a k i=>
   intro v es;simp only[Sem.bind,Sem.runT];split
   .exact i _ _ _
   .split
    .exact i _ _ _
    .rfl
  |store m a x k i=>intro v es;cases x<;>simp only[Sem.bind,Sem.runT]<;>(repeat' split)<;>first|rfl|exact i _ _|(simp_all;done)
  |new o k i=>intro v es;simp only[Sem.bind,Sem.runT];exact i _ _ _
  |shape r k i=>intro v es;simp only[Sem.bind,Sem.runT];exact i _ _ _
  |freeze a n k i=>intro v es;simp only[Sem.bind,Sem.runT];exact i _ _
  |frozen a k i=>intro v es;simp only[Sem.bind,Sem.runT];exact i _ _ _
  |getObj r k i=>intro v es;simp only[Sem.bind,Sem.runT];split<;>first|rfl|exact i _ _ _
  |setObj r o k i=>intro v es;simp only[Sem.bind,Sem.runT];split<;>first|rfl|exact i _ _
  |choose q k i=>intro v es;simp only[Sem.bind,Sem.runT];split<;>exact i _ _ _
  |sys c k i=>intro v es;simp only[Sem.bind,Sem.runT];exact i _ _ _
  |program k i=>intro v es;simp only[Sem.bind,Sem.runT];exact i _ _ _
  |mark m k i=>intro v es;simp only[Sem.bind,Sem.runT];exact i _ _
  |halt h=>intro v es;rfl
 rw[b,h]
def bR.bind {A:Rn->α->β->Prop}{B:Rn->γ->δ->Prop}{π:Rn}{s:Sem α}{s':Sem β}{f:α->Sem γ}{f':β->Sem δ}(ok:Ok P π)(h:bR P Al F A π s s')
  (g:∀(ρ:Rn) a b,Ok P ρ->(∀x y,π x y->ρ x y)->A ρ a b->bR P Al F B ρ (f a) (f' b)):bR P Al F B π (s.bind f) (s'.bind f'):=by
 induction h with
 |pure h=>exact g _ _ _ ok (λ_ _ x=>x) h
 |load h j i=>exact .load h λv L O=>i v L O ok g
 |store h N j i=>exact .store h N (i ok g)
 |new h j i=>exact .new h λρ r E d q G=>i ρ r E d q G d λD a b l p=>g D a b l λx y m=>p _ _ (q _ _ m)
 | @marked π c c' ty k u hC h j i=>
  have H:(Sem.new (aI c ty) λr=>markStringish ⟨r,0,aB⟩>>=λ_=>k r).bind f= .new (aI c ty) λr=>markStringish ⟨r,0,aB⟩>>=λ_=>(k r).bind f:=by
   show Sem.new _ _=Sem.new _ _
   congr 1
   funext r
   exact bind_assoc'
  have z:(Sem.new (aI c' ty) λr=>markStringish ⟨r,0,aB⟩>>=λ_=>u r).bind f'= .new (aI c' ty) λr=>markStringish ⟨r,0,aB⟩>>=λ_=>(u r).bind f':=by
   show Sem.new _ _=Sem.new _ _
   congr 1
   funext r
   exact bind_assoc'
  rw[H,z]
  exact .marked hC h λρ r E d q G=>i ρ r E d q G d λD a b l p=>g D a b l λx y m=>p _ _ (q _ _ m)
 |view h j i=>exact .view h λρ r E d q G=>i ρ r E d q G d λD a b l p=>g D a b l λx y m=>p _ _ (q _ _ m)
 |getObj h j i=>exact .getObj h λo M Q=>i o M Q ok g
 |shape h j i=>exact .shape h λs=>i s ok g
 |freeze hF h j i=>exact .freeze hF h (i ok g)
 |frozen hF h j i=>exact .frozen hF h λt=>i t ok g
 | @share π a C n k u h j i=>have H:(loadBytes a .empty n>>=λs=>Go.freeze a n>>=λ_=>k s).bind f=loadBytes a .empty n>>=λs=>Go.freeze a n>>=λ_=>(k s).bind f:=bind_assoc';have z:(loadBytes C .empty n>>=λs=>Go.freeze C n>>=λ_=>u s).bind f'=loadBytes C .empty n>>=λs=>Go.freeze C n>>=λ_=>(u s).bind f':=bind_assoc';rw[H,z];exact .share h λs=>i s ok g
 | @same π a C b K k u S h T j i=>have H:(sameAddr a b>>=k).bind f=sameAddr a b>>=λt=>(k t).bind f:=bind_assoc';have z:(sameAddr C K>>=u).bind f'=sameAddr C K>>=λt=>(u t).bind f':=bind_assoc';rw[H,z];exact .same S h T λt=>i t ok g
 |choose j i=>exact .choose λn=>i n ok g
 | @program π k u he j i=>exact .program (λU q=>congrArg (λs:Sem β=>s.bind f') (he U q)) (i ok g)
 |mark hm j i=>exact .mark hm (i ok g)
 |env j i=>exact .env λr=>i r ok g
 |panic h=>exact .panic h
 |dead h=>exact .dead λv J=>let⟨R,w,I,e,z⟩:=h v J;⟨R,w,I,GJ v J e,z⟩
end
end Go.Ren
