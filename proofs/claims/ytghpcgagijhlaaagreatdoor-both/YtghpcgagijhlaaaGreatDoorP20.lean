import Derived.Test.YtghpcgagijhlaaaGreatDoorP19
set_option linter.all false
set_option maxRecDepth 100000
set_option maxHeartbeats 16000000
open Option renaming some->aA,none->aB
open Bool renaming true->aE,false->aF
open Or renaming inl->aG,inr->aH
open Go.Ending renaming returned->aL
open Go.Item renaming inRegion->aM
open Go.IntKind renaming i64->aD
open Array renaming replicate->aCy
open Nat renaming le_add_left->aCV,testBit->aCW
namespace Go.Ga
open Go.Conc Go.Ren Go.Tr
section
variable {Q:zZ}{fs:Array Func}{Al A2:zF}{R:zR}{E:List PanicEntry->zW->Prop}{Inv:zS}{InvE:zN->zA->zL->zW->Prop}
def hQ.len {α:Type}{T:α->α->Prop}{l a:List α}(h:hQ T l a):a.length=l.length:=by
 induction h with
 |nil=>rfl
 |cons _ _ i=>simp[i]
def ZZ (Q:zZ)(fs:Array Func)(Al A2:zF)(R:zR)(E:List PanicEntry->zW->Prop)(Inv:zS)(d:VM)(Sh:zP)(π:Rn)(e:zG)(w:zW)(sl:Option (Nat×Nat))(t:Trace):Prop:=
 ∃(N:Nat)(g:zG)(w1:zW)(s:Option (Nat×Nat))(t1:Trace)(q1:Nat->Nat)(S:zP)(c:Rn)(f:zC)(o:zL)(v:zW)(D1:zP)(b:zC)(a:zL),runNT ⟨Q.toTables,fs⟩ N (crowd e w sl) t=(.next (crowd g w1 s),t1)/\g[0]? =aA (G b a)/\
  Main Q fs A2 S g w1 t1 q1 c f o v b a/\Closed Q Al D1 f o v/\CE f o/\(∀x∈f::o,fs[x.fn]? =Q.funcs[x.fn]?)/\Go.Ren.Ends Q Al (Go.Ren.AtEnd Q R E) f o v/\(w1.tape=w.tape/\w1.os=w.os/\w1.output=w.output)/\((f,o,v)=d\/Sub Q (Go.Ren.AtEnd Q R E) (f,o,v) d)/\Inv f o v/\qS π Sh w c S w1
def Came (Q:zZ)(fs:Array Func)(Al A2:zF)(R:zR)(E:List PanicEntry->zW->Prop)(Inv:zS)(Sh:zP)(π:Rn)(c:zG)(w:zW)(sl:Option (Nat×Nat))(t:Trace):Prop:=
 ∃(N:Nat)(g:zG)(w1:zW)(s:Option (Nat×Nat))(t1:Trace)(q1:Nat->Nat)(S:zP)(b:Rn)(f:zC)(v:zW)(a:zC),runNT ⟨Q.toTables,fs⟩ N (crowd c w sl) t=(.next (crowd g w1 s),t1)/\g[0]? =aA (G a [])/\
  Main Q fs A2 S g w1 t1 q1 b f [] v a []/\Go.Ren.AtEnd Q R E f [] v/\fs[f.fn]? =Q.funcs[f.fn]?/\(w1.tape=w.tape/\w1.os=w.os/\w1.output=w.output)/\Inv f [] v/\qS π Sh w b S w1
def Came.behind {l g:zG}{w w1:zW}{sl s:Option (Nat×Nat)}{t t1:Trace}{N:Nat}{Sh S:zP}{π a:Rn}(e:qS π Sh w a S w1)(m:runNT ⟨Q.toTables,fs⟩ N (crowd l w sl) t=(.next (crowd g w1 s),t1))(d:w1.tape=w.tape/\w1.os=w.os/\w1.output=w.output)(h:Came Q fs Al A2 R E Inv S a g w1 s t1):Came Q fs Al A2 R E Inv Sh π l w sl t:=by obtain⟨r,i,w2,c,t2,q,k,b,j,v2,f,r2,g2,M2,a2,s2,⟨p,o,n⟩,i2,k2⟩:=h;exact⟨N+r,i,w2,c,t2,q,k,b,j,v2,f,by rw[runNT_add,m];exact r2,g2,M2,a2,s2,⟨p.trans d.1,o.trans d.2.1,n.trans d.2.2⟩,i2,e.trans k2⟩
def reach {S:zS}{x xs y:VM}(h:x=xs\/Sub Q S x xs)(k:Sub Q S y x):Sub Q S y xs:=by
 obtain rfl|h:=h
 .exact k
 .exact k.trans h
def Fc (Yx:Shape Q fs)(hB:∀K:Kp,(∀b,¬K b)->cJ Q Al K)(hB2:cJ Q A2 Go.Ren.K0)(yr:∀(f:zN)(a b:Func),Q.funcs[f]? =aA a->fs[f]? =aA b->fs[f]?≠Q.funcs[f]?->a.body≠b.body/\a.body≠aB/\b.body≠aB)
  (hI:∀(fr:zC)(own:zL)(v:zW)(D:zP)(fr1:zC)(own1:zL)(v1:zW)(τ:zT)(d:Nat)(es:zE),Inv fr own v->Closed Q Al D fr own v->(∀x∈fr::own,fs[x.fn]? =Q.funcs[x.fn]?)->(fr.mode= .run\/fr.defers≠[]\/own≠[])->stepG Q aE (G fr own) (v.re τ d)= .go (G fr1 own1) v1 es->
   (fs[fr1.fn]? =Q.funcs[fr1.fn]?->Inv fr1 own1 v1)/\∀f xs,fr1=Frame.enter Q f xs .normal->fs[f]?≠Q.funcs[f]?->InvE f xs own1 v1)
  (hJ:∀(f:zN)(xs o:zA)(own own':zL)(v:zW)(D:zP)(Sh:zP)(n:zG)(w:zW)(t:Trace)(q:Nat->Nat)(sl:Option (Nat×Nat))(π:Rn),Al f->fs[f]?≠Q.funcs[f]?->xs.size<=20->InvE f xs own v->Main Q fs A2 Sh n w t q π (Frame.enter Q f xs .normal) own v (Frame.enter Q f o .normal) own'->
   n[0]? =aA (G (Frame.enter ⟨Q.toTables,fs⟩ f o .normal) own')->own≠[]->Closed Q Al D (Frame.enter Q f xs .normal) own v->CE (Frame.enter Q f xs .normal) own->(∀x∈own,fs[x.fn]? =Q.funcs[x.fn]?)->Go.Ren.Ends Q Al (Go.Ren.AtEnd Q R E) (Frame.enter Q f xs .normal) own v->
   ZZ Q fs Al A2 R E Inv (Frame.enter Q f xs .normal,own,v) Sh π n w sl t)
  {xs:VM} (hH:∀(fr:zC)(own:zL)(v:zW),((fr,own,v)=xs\/Sub Q (Go.Ren.AtEnd Q R E) (fr,own,v) xs)->lF A2 fr)
  {fr:zC} {own:zL} {v:zW} (h:Go.Ren.Ends Q Al (Go.Ren.AtEnd Q R E) fr own v) (V:(fr,own,v)=xs\/Sub Q (Go.Ren.AtEnd Q R E) (fr,own,v) xs):
  ∀(Sh:zP)(n:zG)(w:zW)(t:Trace)(q:Nat->Nat)(sl:Option (Nat×Nat))(π:Rn)(D:zP)(j:zC)(own':zL),Main Q fs A2 Sh n w t q π fr own v j own'->n[0]? =aA (G j own')->Closed Q Al D fr own v->CE fr own->(∀x∈fr::own,fs[x.fn]? =Q.funcs[x.fn]?)->Inv fr own v->
   Came Q fs Al A2 R E Inv Sh π n w sl t:=by
 have Wn:∀b,¬Go.Ren.K0 b:=λb h=>h
 revert V
 refine Go.Ren.Ends.ind (M:=λfr own v=>((fr,own,v)=xs\/Sub Q (Go.Ren.AtEnd Q R E) (fr,own,v) xs)->∀(Sh:zP)(n:zG)(w:zW)(t:Trace)(q:Nat->Nat)(sl:Option (Nat×Nat))(π:Rn)(D:zP)(j:zC)(own':zL),Main Q fs A2 Sh n w t q π fr own v j own'->n[0]? =aA (G j own')->Closed Q Al D fr own v->CE fr own->(∀x∈fr::own,fs[x.fn]? =Q.funcs[x.fn]?)->Inv fr own v->
   Came Q fs Al A2 R E Inv Sh π n w sl t) ?_ h
 intro fr own v he ih V Sh n w t q sl π D j own' hM hg hc ht s hi
 cases he with
 |stop h=>
  have e:own=[]:=by
   obtain x|x:=h
   .exact x.1
   .exact x.1
  subst e
  have e':own'=[]:=by cases hM.Fh.own;rfl
  subst e'
  exact⟨0,n,w,sl,t,q,Sh,π,fr,v,j,rfl,hg,hM,h,s fr (by simp),⟨rfl,rfl,rfl⟩,hi,.refl⟩
 |step c B h1 h2 h3=>
  obtain⟨N,d,Uv,w1,T,t1,q1,ρ,fr1,own1,r1,z1,O,et,eo,eu,sub,gh,Z⟩:=hM.step (sl:=sl) Yx hB2 hg c (s fr (by simp)) (hH _ _ _ V) h2;obtain⟨Zp,z⟩:=h2 w.tape d [] aE;rw[zAy,zAy]at z;have i:One Q (Go.Ren.AtEnd Q R E) ((B w.tape d).1,(B w.tape d).2.1,(B w.tape d).2.2) (fr,own,v):=⟨by have:=oS (P:=Q) (R:=R) (E:=E) (v:=v) (cs:=[]) c;rwa [zAy]at this,c,_,_,_,_,z⟩;have X:=wG (hB _ Wn) (fr:=fr) (own:=own) (w:=v.re w.tape d) (D:=D) ⟨hc.frame,hc.own,jV hc.world Wn _ _ _ _ (λ_ _=>rfl),hc.nj⟩ ht c z;obtain⟨D1,H⟩:=h1 w.tape d;have C:=X.Tt ht;have L:=h3 w.tape d;refine Came.behind sub r1 ⟨et,eo,eu⟩ ?_;have l:=O.Fh.frame.fn;have Qs:=hI _ _ _ _ _ _ _ _ _ _ hi hc s c z;obtain F|⟨f,xs,ha,m,e1,e2,wj,hz⟩:=X.fns (p:=λf=>fs[f]? =Q.funcs[f]?) s
  .obtain g1|⟨f,o,k,pk,m,e3,g1⟩:=Z
   .exact ih _ _ _ (.one i) L (aH (reach V (.one i))) Sh Uv w1 t1 q1 T ρ D1 fr1 own1 O g1 H C F (Qs.1 (F _ (by simp)))
   .exfalso;have e4:fr1.fn=f:=by
     rw[e3];unfold Frame.enter;cases Q.funcs[f]? with
     |none=>rfl
     |some fn=>cases fn.body<;>rfl
    have:=F (B w.tape d).1 (by simp);rw[<-l,e4]at this;exact m this
  .have Nw:own1.length=own'.length+1:=by
    have a1:=hQ.len O.Fh.own;have a2:=hQ.len hM.Fh.own;rw[e2]at a1;simp only[zAe]at a1;omega
   have U:(B w.tape d).1.fn=f:=by rw[e1];exact(kF (P:=Q) f xs).2.2
   have gu:(B w.tape d).2.1≠[]:=by rw[e2];simp
   have Y:∀x∈(B w.tape d).2.1,fs[x.fn]? =Q.funcs[x.fn]? :=by rw[e2];exact s
   obtain g1|⟨f',o,k,pk,vw,e3,g1⟩:=Z
   .exfalso;obtain⟨g,ot,W⟩:=gh wj;rw[g1]at ot;cases ot;generalize hG:G fr1 own1=g at W;cases W with
    |same=>cases hG;omega
    |back ho=>cases hG;rw[ho]at Nw;simp only[zAe]at Nw;omega
    | @enter f2 ha2 S wu mi=>
     cases hG;have e5:f2=f:=by rw[U,(kF (P:=⟨Q.toTables,fs⟩) f2 S).2.2]at l;exact l
     subst e5
     have y:=O.Fh.frame.todo
     rw[e1]at y
     obtain x|⟨a,b,b1,b2,_⟩:=Yx f2
     .exact m x
     .obtain⟨c1,c2,c3⟩:=yr f2 a b b1 b2 m;cases J:a.body with
      |none=>exact c2 J
      |some ca=>
       cases I:b.body with
       |none=>exact c3 I
       |some cb=>have b2':(⟨Q.toTables,fs⟩:zZ).funcs[f2]? =aA b:=b2;rw[enter_at (P:=Q) xs b1 J,enter_at (P:=⟨Q.toTables,fs⟩) S b2' I]at y;simp only[Frame.at,List.cons.injEq,Item.code.injEq,and_true]at y;exact c1 (by rw[J,I,y])
   .have e4:fr1.fn=f'/\fr1.kind=k:=by
     rw[e3];unfold Frame.enter;cases Q.funcs[f']? with
     |none=>exact⟨rfl,rfl⟩
     |some fn=>cases fn.body<;>exact⟨rfl,rfl⟩
    have e5:f'=f:=by rw[<-U,<-l];exact e4.1.symm
    have e6:k= .normal:=by have:=O.Fh.frame.kind;rw[e4.2,e1,(kF (P:=Q) f xs).2.1]at this;exact this
    subst e5
    subst e6
    subst e3
    have xh:=Qs.2 _ _ e1 m
    rw[e1]at O H C L i
    obtain⟨N2,gs2,w2,tf,t2,q2,Sh2,sw,Va,oW,v2,D2,Zl,A,r2,g2,M2,c2,te,s2,E2,eq2,r,xi,jv⟩:=hJ f' xs o _ own1 _ D1 Sh Uv w1 t1 q1 T ρ ha m hz xh O g1 gu H C Y L
    have u:Sub Q (Go.Ren.AtEnd Q R E) (Va,oW,v2) (fr,own,v):=by
     obtain e|r:=r
     .rw[e];exact .one i
     .exact r.trans (.one i)
    refine Came.behind jv r2 eq2 (ih Va oW v2 u E2 (aH (reach V u)) Sh2 gs2 w2 t2 q2 tf sw D2 Zl A M2 g2 c2 te s2 xi)
end
end Go.Ga
namespace Go.Ren
open Go.Conc (G enter_at base)
def refused {P:zZ}{Al:zF}{R:zR}{E:List PanicEntry->zW->Prop}{f:zN}{fn:Func}{w:String}(b:P.funcs[f]? =aA fn)(d:fn.body=aA (.refuse w)){xs:zA}{own:zL}{v:zW}(h:Ends P Al (AtEnd P R E) (Frame.enter P f xs .normal) own v):False:=by
 have c:=enter_at (P:=P) xs b d;rw[c]at h;cases h with
 |stop h=>have:=oS (P:=P) (R:=R) (E:=E) (fr:=(base f).at {tmps:=xs++aCy (fn.ntmps-xs.size) undef,defers:=[]} [.code (.refuse w)]) (l:=own) (cs:=[]) (v:=v) (aG rfl);rw[zAy]at this;exact this h
 |step a n j g i=>obtain⟨m,e⟩:=g v.tape v.drawn [] aE;simp[stepG,stepG.exec,G,Frame.at,base]at e
open Go.Conc (G)
section
variable {P:zZ}{Al:zF}{K:Kp}{fs:Array Func}
def Kh (D:Shape P fs)(f:K.rG=aB){π:Rn}{fr fr':zC}{own':zL}{v w:zW}(h:VP P Al K π fr [] v fr' own' w){x:zY}(W:∀Q d,fr.leaving P (v.re Q d) (aL x))(i:fs[fr.fn]? =P.funcs[fr.fn]?)(C:P.inits.idxOf? fr.fn=aB):
  ∃J N,bG Al π x J/\own'=[]/\stepG ⟨P.toTables,fs⟩ aE (G fr' own') w= .ended (.done J) w N/\∀e∈N,nC K π e:=by
 have k:own'=[]:=by cases h.own;rfl
 subst k
 obtain⟨q1,V,U,fn,T,S⟩:=W w.tape w.drawn
 have Y:=h.world.ok
 have o:fr'.mode= .returning:=by have:=h.frame.mode;rw[q1]at this;generalize fr'.mode=m at this;cases this;rfl
 have H:fr'.defers=[]:=by have:=h.frame.defers;rw[V]at this;generalize fr'.defers=l at this;cases this;rfl
 have B:fr'.kind= .normal:=by rw[h.frame.kind];exact U
 have s:(⟨P.toTables,fs⟩:zZ).funcs[fr'.fn]? =aA fn:=by
  show fs[fr'.fn]? =aA fn
  rw[h.frame.fn,i];exact T
 have r:(⟨P.toTables,fs⟩:zZ).inits.idxOf? fr'.fn=aB:=by rw[h.frame.fn];exact C
 have g:((results fn fr.tmps).runT P (v.re w.tape w.drawn) #[]).1= .ok x (v.re w.tape w.drawn):=by rw[Sem.runT_fst];exact S
 have c:=iO (P:=P) (Al:=Al) (F:=K) fn h.frame.tmps
 obtain⟨Z,u,t,e,_⟩|eb:=c.blind D f _ w #[] #[] h.world
 .rw[e]at g;cases g
 obtain(⟨Z,v',t,e,_⟩|⟨⟨n,L,_⟩,_⟩)|⟨R,v1,w1,t,O,h1,h2,h3,h4⟩:=c.runT _ w #[] #[] h.world
 .rw[e]at g;cases g
 .rw[f]at L;cases L
 .obtain⟨a,b,r1,r2,I⟩|⟨y,y',r1,r2,hy⟩:=h4
  .rw[r1]at g;cases g;have A:w1=w:=tW fn fr'.tmps w #[] b w1 _ r2;subst A;have j:∀p z,R p z->π p z:=λp z X=>by
    obtain q|⟨_,q,q'⟩:=h2.sF p z X
    .exact q
    .omega
   refine⟨b,seen ⟨P.toTables,fs⟩ fr'.fn (#[]++O)++ #[],I.mono j,rfl,?_,λe M=> ?_⟩
   .have e0:stepG ⟨P.toTables,fs⟩ aE (G fr' []) w1=unwind ⟨P.toTables,fs⟩ aE fr' [] aB w1:=by simp only[stepG,G,o]
    rw[e0];unfold unwind;rw[H];dsimp only;rw[o];dsimp only;rw[s];dsimp only;rw[eb,r2];dsimp only;unfold doReturn;rw[B];simp only[r,Bool.not_true,zBf,zDp];rfl
   .rw[zDn]at M;have E:e∈O:=by
     have:=Go.Conc.mem_seen M;simpa using this
    exact(h3 e E).mono j
  .rw[r1]at g;cases g
end
end Go.Ren
namespace Go.Ga
open Go.Conc Go.Ren Go.Tr
section
variable {Q:zZ}{fs fm:Array Func}{Al Am:zF}
def Apart (Q:zZ)(fm:Array Func)(Am:zF)(fr:zC)(own:zL)(v:zW):Prop:=∃D,Closed ⟨Q.toTables,fm⟩ Am D fr own v
def QA (Q:zZ)(fm:Array Func)(Am:zF)(f:zN)(xs:zA)(own:zL)(v:zW):Prop:=
 ∃D,Am f/\aW Am (dE D) xs xs/\hQ (cW ⟨Q.toTables,fm⟩ Am Go.Ren.K0 (dE D)) own own/\cB ⟨Q.toTables,fm⟩ Am Go.Ren.K0 (dE D) v v
def LA {π:Rn}{xs ys zs:zA}(h:aW Am π zs zs)(e:zs=xs++ys):aW Am π xs xs:=by
 subst e;have k:∀(i:Nat)(v:zY),xs[i]? =aA v->(xs++ys)[i]? =aA v:=λi v b=>by rw[zDk (zAb.1 b).1];exact b
 exact⟨rfl,λi v a d c=>h.at' i v a (k i v d) (k i a c)⟩
def rL (P:zZ)(f:zN)(xs:zA)(k:CallKind):(Frame.enter P f xs k).tmps=xs++aCy (((P.funcs[f]?).map (·.ntmps)).getD 0-xs.size) undef/\(Frame.enter P f xs k).fn=f:=⟨rfl,rfl⟩
def ZU (t:Shape Q fm)(BQ:cJ Q Al Go.Ren.K0)(O:∀K:Kp,(∀b,¬K b)->cJ ⟨Q.toTables,fm⟩ Am K)(n:∀f:zN,fm[f]?≠Q.funcs[f]?->fs[f]?≠Q.funcs[f]?)(H:∀f a b,Am f->Q.funcs[f]? =aA a->fm[f]? =aA b->b.ntmps=a.ntmps)
  (fr:zC) (own:zL) (v:zW) (D:zP) (fr1:zC) (own1:zL) (v1:zW) (z:zT) (d:Nat) (es:zE) (V:Apart Q fm Am fr own v) (A:Closed Q Al D fr own v) (F:∀x∈fr::own,fs[x.fn]? =Q.funcs[x.fn]?)
  (l:fr.mode= .run\/fr.defers≠[]\/own≠[]) (q:stepG Q aE (G fr own) (v.re z d)= .go (G fr1 own1) v1 es):
  (fs[fr1.fn]? =Q.funcs[fr1.fn]?->Apart Q fm Am fr1 own1 v1)/\∀f g,fr1=Frame.enter Q f g .normal->fs[f]?≠Q.funcs[f]?->QA Q fm Am f g own1 v1:=by
 have J:∀b,¬Go.Ren.K0 b:=λb h=>h
 obtain⟨D',N⟩:=V
 have L:fm[fr.fn]? =Q.funcs[fr.fn]? :=zCj λh=>n _ h (F fr (by simp))
 have s:=kE (cs:=[]) O N l aE z d
 rw[zAy]at s
 have R:=wH (cs:=[]) (cs':=[]) BQ t rfl (jV A.world J z z d d (λ_ _=>rfl)) A.frame L A.own l aE aE (hs:=kB A.nj.2)
 rw[zAy]at R
 obtain⟨o,u,m,e⟩|e|⟨f,g,k,callers,w,X,W,q1,T,I⟩:=R
 .rw[q]at e;cases e
 .rw[e,q]at s;obtain⟨o,u,m,i⟩|⟨r,oW,v2,m,D2,i,c,_⟩:=s
  .cases i
  .rw[zAy]at i;have e1:fr1=r:=by injection i with e _ _;exact congrArg Goroutine.frame e
   have Z:own1=oW:=by injection i with e _ _;exact congrArg Goroutine.callers e
   have Y:v1=v2:=by injection i
   subst e1;subst Z;subst Y
   refine⟨λ_=>⟨D2,c⟩,λf g B _=> ?_⟩
   subst B
   exact⟨D2,c.frame.al,LA c.frame.tmps (rL Q f g .normal).1,c.own,c.world⟩
 .rw[q]at q1;rw[T]at s;obtain⟨o,u,m,i⟩|⟨r,oW,v2,m,D2,i,c,_⟩:=s
  .cases i
  .rw[zAy]at i;have S:fr1=Frame.enter Q f g k:=by injection q1 with e _ _;exact congrArg Goroutine.frame e
   have a2:own1=callers:=by injection q1 with e _ _;exact congrArg Goroutine.callers e
   have a3:v1=w:=by injection q1
   have b1:Frame.enter ⟨Q.toTables,fm⟩ f g k=r:=by injection i with e _ _;exact congrArg Goroutine.frame e
   have C:callers=oW:=by injection i with e _ _;exact congrArg Goroutine.callers e
   have b3:w=v2:=by injection i
   subst a2;subst a3;subst C;subst b3;subst b1
   have p:fr1.fn=f:=by rw[S];rfl
   refine⟨λh=>absurd (by rw[<-p];exact h) (n f I),λj E B _=> ?_⟩
   have M:j=f:=by rw[<-p,B];rfl
   subst M
   have y:Am j:=c.frame.al
   refine⟨D2,y,?_,c.own,c.world⟩
   have U:(Frame.enter ⟨Q.toTables,fm⟩ j g k).tmps=(Frame.enter Q j g k).tmps:=by
    rw[(rL _ j g k).1,(rL Q j g k).1];have:((fm[j]?).map (·.ntmps)).getD 0=((Q.funcs[j]?).map (·.ntmps)).getD 0:=by
     obtain x|⟨a,b,b1,C,_⟩:=t j
     .rw[x]
     .rw[b1,C];exact H j a b y b1 C
    show g++aCy (((fm[j]?).map (·.ntmps)).getD 0-g.size) undef=_
    rw[this]
   have P:=c.frame.tmps
   rw[U,<-S,B]at P
   exact LA P (rL Q j E .normal).1
end
end Go.Ga
namespace Go.Ren
open Go.Conc (G)
inductive Trail (P:zZ)(N:Nat)(T:zS):zS
 |stop {fr:zC} {own:zL} {v:zW} (hn:v.heap.size<=N) (h:T fr own v):Trail P N T fr own v
 |step {fr fr1:zC} {own own1:zL} {v v1:zW} {es:zE} (hn:v.heap.size<=N) (Sb:fr.mode= .run\/fr.defers≠[]\/own≠[]) (hs:stepG P aE (G fr own) v= .go (G fr1 own1) v1 es) (h:Trail P N T fr1 own1 v1):Trail P N T fr own v
section
variable {P:zZ}{Al:zF}{S:zS}{fr:zC}{own:zL}{v:zW}
def Trail.snoc {N N':Nat}(d:N<=N'){T f:zS}(k:∀fr own v,T fr own v->(fr.mode= .run\/fr.defers≠[]\/own≠[])/\∃fr1 own1 v1 es,stepG P aE (G fr own) v= .go (G fr1 own1) v1 es/\v1.heap.size<=N'/\f fr1 own1 v1)(h:Trail P N T fr own v):Trail P N' f fr own v:=by
 induction h with
 | @stop fr own v c h=>obtain⟨b,fr1,own1,v1,es,e,g,j⟩:=k _ _ _ h;exact .step (zBl c d) b e (.stop g j)
 |step c a b _ i=>exact .step (zBl c d) a b i
def Trail.mono {N N':Nat}(c:N<=N'){T:zS}(h:Trail P N T fr own v):Trail P N' T fr own v:=by
 induction h with
 |stop b h=>exact .stop (zBl b c) h
 |step b a d _ i=>exact .step (zBl b c) a d i
def di (y:VM)(a:zT)(e:Nat)(fr:zC)(own:zL)(u:zW):Prop:=fr=y.1/\own=y.2.1/\u=y.2.2.re u.tape u.drawn/\∀k,u.tape (u.drawn+k)=a (e+k)
def Sd (F:∀K:Kp,(∀b,¬K b)->cJ P Al K){x y z:VM}(h:One P S x y)(A:∃D,Closed P Al D y.1 y.2.1 y.2.2){N:Nat}(m:∀f e,∃c,Trail P N (di y f e) z.1 z.2.1 (z.2.2.re c 0)):
  (∃D,Closed P Al D x.1 x.2.1 x.2.2)/\∃N,∀f e,∃c,Trail P N (di x f e) z.1 z.2.1 (z.2.2.re c 0):=by
 obtain⟨D,E⟩:=A
 obtain⟨_,a,c,d,w,M,B⟩:=h
 have r:=kE (cs:=[]) F E a w c d
 rw[zAy,B]at r
 obtain⟨o,u,q,g⟩|⟨p,oW,v2,q,D2,g,n,L,_,_,j⟩:=r
 .cases g
 rw[zAy]at g
 have J:x.1=p:=by injection g with e _ _;exact congrArg Goroutine.frame e
 have I:x.2.1=oW:=by injection g with e _ _;exact congrArg Goroutine.callers e
 have H:x.2.2=v2:=by injection g
 subst J;subst I;subst H
 refine⟨⟨D2,n⟩,N+x.2.2.heap.size,λf e=> ?_⟩
 obtain⟨l,m⟩:=m (λi=>if i<x.2.2.drawn-d then c (d+i)else f (e+(i-(x.2.2.drawn-d)))) 0
 refine⟨l,m.snoc (Nat.le_add_right _ _) ?_⟩
 rintro fr own u ⟨rfl,rfl,hu,s⟩
 refine⟨a,?_⟩
 obtain⟨G,t⟩:=j u.tape u.drawn [] aE λk C=>by
  rw[s k];have:0+k<x.2.2.drawn-d:=by omega
  show(if 0+k<x.2.2.drawn-d then c (d+(0+k))else _)=_
  rw[zAk this,zAv]
 rw[zAy,zAy,<-hu]at t
 refine⟨_,_,_,_,t,aCV _ _,rfl,rfl,rfl,λk=> ?_⟩
 show u.tape (u.drawn+(x.2.2.drawn-d)+k)=_
 rw[zCv,s]
 have:¬0+(x.2.2.drawn-d+k)<x.2.2.drawn-d:=by omega
 show(if 0+(x.2.2.drawn-d+k)<x.2.2.drawn-d then _ else f (e+(0+(x.2.2.drawn-d+k)-(x.2.2.drawn-d))))=_
 rw[zAh this]
 congr 1
 omega
def glue (d:∀K:Kp,(∀b,¬K b)->cJ P Al K){x z:VM}(h:Sub P S x z)(c:∃D,Closed P Al D z.1 z.2.1 z.2.2):
  (∃D,Closed P Al D x.1 x.2.1 x.2.2)/\∃N,∀a e,∃f,Trail P N (di x a e) z.1 z.2.1 (z.2.2.re f 0):=by
 induction h with
 | @one x y h=>exact Sd d h c (N:=y.2.2.heap.size) λa e=>⟨λi=>a (e+i),.stop (zAa _) ⟨rfl,rfl,rfl,λk=>by show a (e+(0+k))=_;rw[zAv]⟩⟩
 |more h _ g=>obtain⟨j,N,l⟩:=g c;exact Sd d h j l
def Live (P:zZ)(fr:zC)(own:zL)(v:zW):Prop:=∃n f w,runN P n (lone fr (own++[aY]) v)= .next (lone f [aY] w)/\f.mode≠.run/\f.defers=[]
def Live.step (h:Live P fr own v)(c:fr.mode= .run\/fr.defers≠[]\/own≠[]):(∀o u d,stepG P aE (G fr (own++[aY])) v≠.ended o u d)/\∀b a i d,stepG P aE (G fr (own++[aY])) v= .go (G b (a++[aY])) i d->Live P b a i:=by
 obtain⟨n,f,g,h,j,l⟩:=h;cases n with
 |zero=>
  exfalso;have h:Stepped.next (lone fr (own++[aY]) v)= .next (lone f [aY] g):=h;have m:lone fr (own++[aY]) v=lone f [aY] g:=by injection h
  have k:({frame:=fr,callers:=own++[aY],status:= .running,dying:=aB}:zH)={frame:=f,callers:=[aY],status:= .running,dying:=aB}:=by have:=congrArg Machine.gs m;simpa [lone]using this
  have r:fr=f:=congrArg Goroutine.frame k
  have q:own++[aY]=[aY]:=congrArg Goroutine.callers k
  have p:own=[]:=by have:=congrArg List.length q;simp at this;exact this
  subst r;subst p
  obtain x|x|x:=c
  .exact j x
  .exact x l
  .exact x rfl
 |succ n=>
  refine⟨λo u d e=> ?_,λb a i d e=> ?_⟩
  .have:=step_lone_ended (P:=P) (fr:=fr) (cs:=own++[aY]) (w:=v) (by rw[show({frame:=fr,callers:=own++[aY],status:= .running,dying:=aB}:zH)=G fr (own++[aY])from rfl,e];rfl);simp only[runN,this]at h;cases h
  .have:=step_lone_go (P:=P) (fr:=fr) (cs:=own++[aY]) (w:=v) (fr':=b) (cs':=a++[aY]) (w':=i) (by rw[show({frame:=fr,callers:=own++[aY],status:= .running,dying:=aB}:zH)=G fr (own++[aY])from rfl,e];rfl);exact⟨n,f,g,by simpa only[runN,this]using h,j,l⟩
def Il {A:zF}{K:Kp}{π:Rn}{fr fr':zC}{own own':zL}(a:cW P A K π fr fr')(b:hQ (cW P A K π) own own')(h:fr'.mode= .run\/fr'.defers≠[]\/own'≠[]):fr.mode= .run\/fr.defers≠[]\/own≠[]:=by
 obtain h|h|h:=h
 .left;have:=a.mode;rw[h]at this;generalize fr.mode=m at this;cases this;rfl
 .right;left;intro e;have:=a.defers;rw[e]at this;generalize c:fr'.defers=l at this;cases this;exact h c
 .right;right;intro e;subst e;cases b;exact h rfl
def Pk {o:Oper}{e:Operand->zY}{c:Call}(m:o.op= .call c)(j:c.callee= .builtin .unsafeSliceData){b n:Nat}{s:Option Nat}(h:(c.args.map e)[0]? =aA (.slice (aA ⟨b,n,s⟩) 0 0))(p:v.heap.size<=b):∃d u i,(execOp e o).runT P v #[]=(.halt d u,i)/\Fatal d:=by
 obtain⟨callee,args,t⟩:=c;dsimp only at j h;subst j;unfold execOp;rw[m];have k:∀(cs:Array Bool)(f:zA),f[0]? =aA (.slice (aA ⟨b,n,s⟩) 0 0)->∃d u i,(builtin .unsafeSliceData t o.type cs f).runT P v #[]=(.halt d u,i)/\Fatal d:=λcs f h=>by
  obtain⟨l⟩:=f;match l,h with
  |[x],h=>
   simp at h;subst h;have a:v.heap[b]? =aB:=zBk p;have g:v.shape? b=aB:=by unfold World.shape?;rw[a]
   refine⟨.stuck "getObj: no such block",v,#[],?_,by simp⟩
   show((do pure (Next.value (<-Builtin.unsafeSliceData_ t o.type #[.slice (aA ⟨b,n,s⟩) 0 0])):Sem Next)).runT P v #[]=_
   rw[qX]
   simp only[ne_eq,not_true_eq_false,zDp,viewAt,shape,getObj,Bind.bind,Sem.bind,Sem.runT,g,Option.isSome_none,zBf,a]
  |x::y::l,h=>exact⟨_,_,_,rfl,aG ⟨_,rfl⟩⟩
 exact k #[] _ h
def LY {A:zF}{N:Nat}(D:∀k,A (1000002+k)->N<=k)(w:v.heap.size<=N)(a:fr.roundOf=aB)(h:∀o u es,stepG P aE (G fr own) v≠.ended o u es):lF A fr:=by
 intro m ops j rest k o l d g c t z x r b n s B f;subst f;obtain⟨F,u,es,e,y⟩:=Pk (P:=P) (v:=v) t z r (zBl w (D b B));obtain⟨q,p,i,E⟩:=mW (P:=P) (v:=v) (fr:=fr) (C:=own) e y;refine h q p i ?_;obtain⟨fn,tmps,todo,defers,mode,kind,round⟩:=fr;dsimp only at m l a;subst m;subst l;subst a;rw[<-E];show stepG.exec P aE aE ⟨fn,tmps,aM ops (j::rest)::k,defers,.run,kind,aB⟩ own aB v=_
 unfold stepG.exec
 simp only[d,zAx,zCc,g,zDf]
 unfold stepG.oper
 simp only[Frame.oper?,d]
def replay {A:zF}(B:cJ P A K0){N vb:Nat}(hA:∀k,A (1000002+k)->N<=k){T:zS}(h:Trail P N T fr own v):
  ∀{p:Rn}{f:zC}{a:zL}{w:zW},cW P A K0 p f fr->hQ (cW P A K0 p) a own->cB P A K0 p w v->w.heap.size=v.heap.size->(∀b j,p b j->b=j)->(∀b j,p b j->j≠vb)->vb<v.heap.size->Live P f a w->
   ∃m d y g i c l,T m d y/\y.heap.size<=N/\cW P A K0 g i m/\hQ (cW P A K0 g) c d/\cB P A K0 g l y/\l.heap.size=y.heap.size/\(∀b j,g b j->j≠vb)/\Live P i c l:=by
 have Z:∀b,¬K0 b:=λb h=>h
 induction h with
 |stop U h=>intro p f a w E G L J D r bU Q;exact⟨_,_,_,p,f,a,w,h,U,E,G,L,J,r,Q⟩
 | @step fr m own d v y es U s R _ Y=>
  intro p f a w E G L J D r bU Q;have z:=Il E G s;have t:=Q.step z;have M:lF A f:=LY hA (by omega) E.round t.1;obtain⟨o,u,Zn,e⟩|⟨_,_,_,_,_,n,O,_⟩|⟨g,g1,l,Zo,g1',w1,cq,e1,H,hg,K,hm,_⟩:=xG (cs:=[aY]) (cs':=[]) B L E G z aE aE (hs:=M)
  .exact absurd e (t.1 _ _ _)
  .cases O
  .obtain⟨i,F,c,q,q1,X,W,V⟩:=hg;subst q1;subst X;rw[zAy,zAy,R]at H;have a1:m=F:=by injection H with e _ _;exact congrArg Goroutine.frame e
   have a2:d=q:=by injection H with e _ _;exact congrArg Goroutine.callers e
   have a3:y=w1:=by injection H
   subst a1;subst a2;subst a3
   obtain⟨I,C⟩:=hm.same J D
   refine Y W V K I C (λb j hb=> ?_) (zAc bU hm.size) (t.2 _ _ _ _ e1)
   obtain x|⟨_,x,_⟩:=hm.sF b j hb
   .exact r b j x
   .omega
def ZL {f:zN}{args:zA}{w:zW}{R:Ending->zW->Prop}(h:Calls P f args w R)(i:∀w',¬R .outgrown w'):Live P (Frame.enter P f args .normal) [] w:=by
 obtain⟨e,w',fr,g,d,_,a⟩:=h [aY];cases e with
 |returned x=>obtain⟨n,b⟩:Steps P _ _:=d;exact⟨n,fr,w',b,by rw[a.1];simp,a.2.1⟩
 |panicked c=>obtain⟨n,b⟩:Steps P _ _:=d;exact⟨n,fr,w',b,by rw[a.1];simp,a.2.1⟩
 |outgrown=>exact absurd g (i w')
def Pz (hB:∀K:Kp,(∀b,¬K b)->cJ P Al K){f:zN}{args:zA}{V:zW}{D:zP}{vb:Nat}(Ku:Closed P Al D (Frame.enter P f args .normal) [] V){A2:zF}(hA2:∀k,A2 (1000002+k)->k=vb)(Z:vb<V.heap.size)
  (hV:∀N,V.heap.size<=N->∃(A:zF)(W:zW)(ρ:Rn)(R:Ending->zW->Prop),cJ P A K0/\A f/\¬A 1000000/\(∀k,A (1000002+k)->N<=k)/\aW A ρ args args/\(∀g d,cB P A K0 ρ (W.re g d) (V.re g d))/\W.heap.size=V.heap.size/\(∀b J,ρ b J->b=J)/\(∀b J,ρ b J->J≠vb)/\(∀w',¬R .outgrown w')/\∀g d,Calls P f args (W.re g d) R)
  (fr:zC) (own:zL) (v:zW) (h:(fr,own,v)=(Frame.enter P f args .normal,[],V)\/Sub P S (fr,own,v) (Frame.enter P f args .normal,[],V)):lF A2 fr:=by
 have l:∃N,∀L e,∃g,Trail P N (di (fr,own,v) L e) (Frame.enter P f args .normal) [] (V.re g 0):=by
  obtain h|h:=h
  .refine⟨V.heap.size,λL e=>⟨λi=>L (e+i),.stop (zAa _) ?_⟩⟩;rw[h];exact⟨rfl,rfl,rfl,λk=>by show L (e+(0+k))=_;rw[zAv]⟩
  .exact(glue hB h ⟨D,Ku⟩).2
 obtain⟨N,l⟩:=l
 obtain⟨g,ht⟩:=l V.tape 0
 obtain⟨A,W,ρ,R,BA,hAf,hAj,H,p,hw,hz,hid,yw,hR,hC⟩:=hV (N+V.heap.size) (aCV _ _)
 have Qo:=ht.mono (N':=N+V.heap.size) (by omega)
 obtain⟨I,own1,v1,ρ1,a,r,vB,⟨e1,e2,e3,_⟩,bk,q,ho,Y,hz1,G,hl⟩:=replay BA H Qo (cW.enter BA hAf p (aG rfl)) .nil (hw g 0) hz hid yw Z (ZL (hC g 0) hR)
 dsimp only at e1 e2
 subst e1;subst e2
 intro hm ops j rest k o um B X c z F x U b n s hb O
 subst O
 have bx:=hA2 b hb
 subst bx
 have E:a.mode= .run:=by have:=q.mode;rw[hm]at this;generalize a.mode=m at this;cases this;rfl
 have vu:lF A a:=LY (own:=r++[aY]) H (by omega) q.round (hl.step (aG E)).1
 have t:a.todo=aM ops (j::rest)::k:=by rw[<-q.todo];exact um
 have M:yielded ops I.tmps=yielded ops a.tmps:=funext (mG q.tmps ops)
 have w:=(q.items (aM ops (j::rest)) (by rw[t];exact zAz)) o (zBc B)
 have u:0<c.args.size:=by have:=(zAb.1 U).1;simpa using this
 have gp:=Y.ok
 have hv:=q.eval gp c.args[0] (w.1 _ (by rw[z];simp[Op.operands,Call.operands]))
 have T:I.eval c.args[0]= .slice (aA ⟨b,n,s⟩) 0 0:=by rw[zCt,zAs u]at U;simpa using U
 rw[T]at hv
 have Q:(c.args.map a.eval)[0]? =aA (a.eval c.args[0]):=by rw[zCt,zAs u];rfl
 have C:=vu E ops j rest k o t B (by rw[<-M];exact X) c z F _ Q
 generalize a.eval c.args[0]=y at hv C
 cases hv with
 |slice hp _ _=>
  cases hp with
  |some ha=>exact G _ _ ha.1 rfl
 |void zf _=>exact C _ _ _ zf rfl
 |junk hJ _=>exact hAj hJ
end
end Go.Ren
namespace Go.Proofs
open Go.Ren
noncomputable def ep:Oper:={dst:=aA 20,op:= .makeFunc (.func 42) #[.tmp 2,.tmp 3,.tmp 4,.tmp 5,.tmp 6,.tmp 7,.tmp 8,.tmp 9,.tmp 10] #[],type:=1,pos:= "q",after:= #[],guard:=aB}
noncomputable def ej:Oper:={dst:=aA 21,op:= .makeFunc (.func 42) #[.tmp 11,.tmp 12,.tmp 13,.tmp 14,.tmp 15,.tmp 16,.tmp 17,.tmp 18,.tmp 19] #[],type:=1,pos:= "q",after:= #[],guard:=aB}
noncomputable def eh:Oper:={dst:=aA 22,op:= .makeFunc (.func 42) #[.tmp 0,.tmp 1,.tmp 20,.tmp 21] #[],type:=224,pos:= "q",after:= #[],guard:=aB}
noncomputable def mh:Oper:={dst:=aA 23,op:= .alloc 4,type:=0,pos:= "q",after:= #[],guard:=aB}
noncomputable def Wc:Oper:={dst:=aB,op:= .store 4 (.tmp 23) (.const (.bool aE)),type:=0,pos:= "q",after:= #[],guard:=aB}
noncomputable def Wd:Oper:={dst:=aA 24,op:= .load 4 (.tmp 23),type:=4,pos:= "q",after:= #[],guard:=aB}
noncomputable def Xr:Oper:={dst:=aA 25,op:= .makeInterface 224 (.tmp 22),type:=0,pos:= "q",after:= #[],guard:=aB}
noncomputable def Xq:Oper:={dst:=aB,op:= .panic (.tmp 25),type:=0,pos:= "q",after:= #[],guard:=aB}
noncomputable def Xs:Oper:={dst:=aA 26,op:= .call {callee:= .value (.func 28),args:= #[.tmp 0,.tmp 1],argTypes:= #[210,224]},type:=82,pos:= "q",after:= #[],guard:=aB}
noncomputable def Xp:Oper:={dst:=aA 4,op:= .assign (.tmp 26),type:=82,pos:= "q",after:= #[],guard:=aB}
noncomputable def ef:zQ:= #[ep,ej,eh,mh]
noncomputable def DZ:zQ:= #[Wc,Wd]
noncomputable def ee:zQ:= #[Xr,Xq]
noncomputable def XF:zQ:= #[Xs]
noncomputable def az:zQ:= #[Xp]
noncomputable def XG:Code:= .seq (.region 4 az aF) .ret
noncomputable def ez:Code:= .seq (.region 3 XF aF) XG
noncomputable def Ud:Code:= .cond (.tmp 24) (.region 2 ee aF) .skip
noncomputable def fb:Code:= .seq Ud ez
noncomputable def ba:Code:= .seq (.region 1 DZ aE) fb
noncomputable def Qz.AE:Code:=
 .seq (.region 0 ef aF) ba
noncomputable def Qz.qo:Code:=
 (.seq (.region 0 #[{dst:=aA 4,op:= .assign (.const (.slice aB 0 0)),type:=82,pos:= "q",after:= #[],guard:=aB}] aF) (.seq (.region 1 #[{dst:=aA 26,op:= .call {callee:= .builtin .len,args:= #[.tmp 0],argTypes:= #[210]},type:=3,pos:= "q",after:= #[],guard:=aB}] aF) (.seq (.region 2 #[{dst:=aA 27,op:= .makeSlice 82 (.tmp 26) (.tmp 26),type:=82,pos:= "q",after:= #[],guard:=aB}] aF) (.seq (.region 3 #[{dst:=aA 28,op:= .move (.const (.int aD 0)),type:=3,pos:= "q",after:= #[],guard:=aB}] aF) (.seq (.block 0 (.loop (.seq (.region 4 #[{dst:=aA 29,op:= .binOp .lss 3 (.tmp 28) (.tmp 26) 3,type:=0,pos:= "q",after:= #[],guard:=aB}] aF) (.seq (.cond (.tmp 29) .skip (.exit 0)) (.seq (.region 5 #[{dst:=aA 30,op:= .indexAddr 210 (.tmp 0) (.tmp 28),type:=0,pos:= "q",after:= #[],guard:=aB},{dst:=aA 31,op:= .load 209 (.tmp 30),type:=209,pos:= "q",after:= #[],guard:=aB}] aF) (.seq (.region 6 #[{dst:=aA 32,op:= .call {callee:= .value (.tmp 1),args:= #[.tmp 31],argTypes:= #[209]},type:=9,pos:= "q",after:= #[],guard:=aB}] aF) (.seq (.region 7 #[{dst:=aA 33,op:= .indexAddr 82 (.tmp 27) (.tmp 28),type:=0,pos:= "q",after:= #[],guard:=aB},{dst:=aB,op:= .store 9 (.tmp 33) (.tmp 32),type:=0,pos:= "q",after:= #[],guard:=aB}] aF) (.region 8 #[{dst:=aA 34,op:= .binOp .add 3 (.tmp 28) (.const (.int aD 1)) 3,type:=3,pos:= "q",after:= #[],guard:=aB},{dst:=aA 28,op:= .move (.tmp 34),type:=3,pos:= "q",after:= #[],guard:=aB}] aF)))))))) (.seq (.region 9 #[{dst:=aA 4,op:= .assign (.tmp 27),type:=82,pos:= "q",after:= #[],guard:=aB}] aF) .ret))))))
noncomputable def Qz.f170:Func:={Tryz.f170 with body:=aA Qz.AE}
noncomputable def Qz.f28:Func:={Tryz.f170 with name:=Tryz.f28.name,norace:=Tryz.f28.norace,body:=aA Qz.qo}
noncomputable def Qz.no (f:Func):Func:={f with body:=aA (.refuse "not met")}
@[irreducible]noncomputable def seven (fs:Array Func):Array Func:=((((((((fs.setIfInBounds 28 Qz.f28).setIfInBounds 212 (Qz.no Tryz.f212)).setIfInBounds 213 (Qz.no Tryz.f213)).setIfInBounds 214 (Qz.no Tryz.f214)).setIfInBounds 215 (Qz.no Tryz.f215)).setIfInBounds 216 (Qz.no Tryz.f216)).setIfInBounds 217 (Qz.no Tryz.f217)).setIfInBounds 170 Qz.f170)
@[irreducible]noncomputable def BS (fs:Array Func):Array Func:=(fs.setIfInBounds 170 (Qz.no Tryz.f170)).setIfInBounds 28 (Qz.no Tryz.f28)
noncomputable def zq:zZ:={toTables:=Tryz.prog.toTables,funcs:=seven Tryz.prog.funcs}
noncomputable def Qm.prog:zZ:={toTables:=Tryz.prog.toTables,funcs:=BS (seven Tryz.prog.funcs)}
noncomputable def Qz.al:zN->Bool:=λf=>aCW 14613578242322897367808090850602223048635501993856478617132475364203001019120 f
noncomputable def Qm.al:zN->Bool:=λf=>aCW 14613578242322897367808090850602223048635501993856478617132475359804686072560 f
noncomputable def Qw.al:zN->Bool:=λf=>aCW 100381825226488151718141863191261180492203755257599098880 f
noncomputable def Qz.met (s:String):Bool:=s== "Next"||s== "Root"||s== "Prove"||s== "Forget"||s== "Entries"||s== "Cells"
def Qz.iM (f:zN):Prop:=f=28\/f=212\/f=213\/f=214\/f=215\/f=216\/f=217\/f=170
def It (fs:Array Func){f:zN}(h:¬Qz.iM f):(seven fs)[f]? =fs[f]? :=by simp only[Qz.iM,not_or]at h;obtain⟨j,g,e,d,c,b,a,i⟩:=h;unfold seven;rw[zAd (zFg i),zAd (zFg a),zAd (zFg b),zAd (zFg c),zAd (zFg d),zAd (zFg e),zAd (zFg g),zAd (zFg j)]
def Pj (fs:Array Func)(h f e d c b x g:Func)(hs:217<fs.size):(λa:Array Func=>a[28]? =aA h/\a[212]? =aA f/\a[213]? =aA e/\a[214]? =aA d/\a[215]? =aA c/\a[216]? =aA b/\a[217]? =aA x/\a[170]? =aA g) ((((((((fs.setIfInBounds 28 h).setIfInBounds 212 f).setIfInBounds 213 e).setIfInBounds 214 d).setIfInBounds 215 c).setIfInBounds 216 b).setIfInBounds 217 x).setIfInBounds 170 g):=by refine⟨?_,?_,?_,?_,?_,?_,?_,?_⟩<;>simp[zBt]<;>omega
def Iu (fs:Array Func)(hs:217<fs.size):(seven fs)[28]? =aA Qz.f28/\(seven fs)[212]? =aA (Qz.no Tryz.f212)/\(seven fs)[213]? =aA (Qz.no Tryz.f213)/\(seven fs)[214]? =aA (Qz.no Tryz.f214)/\(seven fs)[215]? =aA (Qz.no Tryz.f215)/\(seven fs)[216]? =aA (Qz.no Tryz.f216)/\(seven fs)[217]? =aA (Qz.no Tryz.f217)/\(seven fs)[170]? =aA Qz.f170:=by unfold seven;exact Pj fs _ _ _ _ _ _ _ _ hs
def Qz.lt {f:zN}{x:Func}(h:Tryz.prog.funcs[f]? =aA x):f<Tryz.prog.funcs.size:=(zAb.1 h).1
def Qz.uH:zq.funcs=seven Tryz.prog.funcs:=by unfold zq;rfl
def Qm.uH:Qm.prog.funcs=BS zq.funcs:=by unfold Qm.prog zq;rfl
def Qz.mZ:zq.toTables=Tryz.prog.toTables:=by unfold zq;rfl
def Qm.mZ:Qm.prog.toTables=Tryz.prog.toTables:=by unfold Qm.prog;rfl
def Qz.same {f:zN}(h:¬Qz.iM f):zq.funcs[f]? =Tryz.prog.funcs[f]? :=by rw[Qz.uH];exact It Tryz.prog.funcs h
def Qm.same {f:zN}(h:f≠170)(a:f≠28):Qm.prog.funcs[f]? =zq.funcs[f]? :=by rw[Qm.uH];unfold BS;rw[zAd (zFg a),zAd (zFg h)]
def Qz.all:zq.funcs[28]? =aA Qz.f28/\zq.funcs[212]? =aA (Qz.no Tryz.f212)/\zq.funcs[213]? =aA (Qz.no Tryz.f213)/\zq.funcs[214]? =aA (Qz.no Tryz.f214)/\zq.funcs[215]? =aA (Qz.no Tryz.f215)/\zq.funcs[216]? =aA (Qz.no Tryz.f216)/\zq.funcs[217]? =aA (Qz.no Tryz.f217)/\zq.funcs[170]? =aA Qz.f170:=by rw[Qz.uH];exact Iu Tryz.prog.funcs (Qz.lt Tryz.func217)
def Qz.func28:zq.funcs[28]? =aA Qz.f28:=Qz.all.1
def Qz.func212:zq.funcs[212]? =aA (Qz.no Tryz.f212):=Qz.all.2.1
def Qz.func213:zq.funcs[213]? =aA (Qz.no Tryz.f213):=Qz.all.2.2.1
def Qz.func214:zq.funcs[214]? =aA (Qz.no Tryz.f214):=Qz.all.2.2.2.1
def Qz.func215:zq.funcs[215]? =aA (Qz.no Tryz.f215):=Qz.all.2.2.2.2.1
def Qz.func216:zq.funcs[216]? =aA (Qz.no Tryz.f216):=Qz.all.2.2.2.2.2.1
def Qz.func217:zq.funcs[217]? =aA (Qz.no Tryz.f217):=Qz.all.2.2.2.2.2.2.1
def Qz.func170:zq.funcs[170]? =aA Qz.f170:=Qz.all.2.2.2.2.2.2.2
def MS (fs:Array Func)(a:170<fs.size)(h:28<fs.size):(BS fs)[170]? =aA (Qz.no Tryz.f170)/\(BS fs)[28]? =aA (Qz.no Tryz.f28):=by unfold BS;generalize Qz.no Tryz.f170=x;generalize Qz.no Tryz.f28=y;constructor<;>simp[zBt]<;>omega
def Qm.func170:Qm.prog.funcs[170]? =aA (Qz.no Tryz.f170):=by rw[Qm.uH];exact(MS _ (zAb.1 Qz.func170).1 (zAb.1 Qz.func28).1).1
def Qm.func28:Qm.prog.funcs[28]? =aA (Qz.no Tryz.f28):=by rw[Qm.uH];exact(MS _ (zAb.1 Qz.func170).1 (zAb.1 Qz.func28).1).2
def Qz.sN {f:zN}(h:Qz.iM f):∃a,Tryz.prog.funcs[f]? =aA a/\∃b,zq.funcs[f]? =aA b/\b.name=a.name/\b.norace=a.norace/\∃d c,a.body=aA d/\b.body=aA c/\d≠c:=by
 obtain rfl|rfl|rfl|rfl|rfl|rfl|rfl|rfl:=h
 .exact⟨_,Tryz.func28,_,Qz.func28,rfl,rfl,_,_,rfl,rfl,λh=>by cases h⟩
 .exact⟨_,Tryz.func212,_,Qz.func212,rfl,rfl,_,_,rfl,rfl,λh=>by cases h⟩
 .exact⟨_,Tryz.func213,_,Qz.func213,rfl,rfl,_,_,rfl,rfl,λh=>by cases h⟩
 .exact⟨_,Tryz.func214,_,Qz.func214,rfl,rfl,_,_,rfl,rfl,λh=>by cases h⟩
 .exact⟨_,Tryz.func215,_,Qz.func215,rfl,rfl,_,_,rfl,rfl,λh=>by cases h⟩
 .exact⟨_,Tryz.func216,_,Qz.func216,rfl,rfl,_,_,rfl,rfl,λh=>by cases h⟩
 .exact⟨_,Tryz.func217,_,Qz.func217,rfl,rfl,_,_,rfl,rfl,λh=>by cases h⟩
 .exact⟨_,Tryz.func170,_,Qz.func170,rfl,rfl,_,_,rfl,rfl,λh=>by cases h⟩
def Qz.back:(⟨zq.toTables,Tryz.prog.funcs⟩:zZ)=Tryz.prog:=by rw[Qz.mZ]
def Qz.Zz:(⟨zq.toTables,Qm.prog.funcs⟩:zZ)=Qm.prog:=by rw[Qz.mZ,<-Qm.mZ]
def Qz.shape:Shape zq Tryz.prog.funcs:=λf=>by
 by_cases h:Qz.iM f
 .obtain⟨a,g,b,e,j,i,l,k,d,c,_⟩:=Qz.sN h;exact aH ⟨b,a,e,g,j.symm,by rw[c];rfl,by rw[d];rfl,i.symm⟩
 .exact aG (Qz.same h).symm
def Qz.Ty:Shape zq Qm.prog.funcs:=λf=>by
 by_cases h:f=170
 .subst h;exact aH ⟨_,_,Qz.func170,Qm.func170,rfl,rfl,rfl,rfl⟩
 .by_cases a:f=28
  .subst a;exact aH ⟨_,_,Qz.func28,Qm.func28,rfl,rfl,rfl,rfl⟩
  .exact aG (Qm.same h a)
def Qz.differ (f:zN)(a b:Func)(m:zq.funcs[f]? =aA a)(l:Tryz.prog.funcs[f]? =aA b)(g:Tryz.prog.funcs[f]?≠zq.funcs[f]?):a.body≠b.body/\a.body≠aB/\b.body≠aB:=by
 by_cases h:Qz.iM f
 .obtain⟨q,d,p,c,_,_,o,n,k,j,i⟩:=Qz.sN h;rw[l]at d;rw[m]at c;cases d;cases c;rw[k,j];exact⟨λe=>i (zAm e).symm,by simp,by simp⟩
 .exact absurd (Qz.same h).symm g
def Qz.MD {f:zN}(h:Qz.iM f):Tryz.prog.funcs[f]?≠zq.funcs[f]? :=λe=>by obtain⟨l,g,k,d,_,_,j,i,c,a,b⟩:=Qz.sN h;rw[g,d]at e;cases e;rw[c]at a;exact b (zAm a)
end Go.Proofs
