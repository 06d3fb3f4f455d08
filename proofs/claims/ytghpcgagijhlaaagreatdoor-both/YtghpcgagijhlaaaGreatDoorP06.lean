import Derived.Test.YtghpcgagijhlaaaGreatDoorP05
set_option linter.all false
set_option maxRecDepth 100000
set_option maxHeartbeats 16000000
open Option renaming none->aB
open Bool renaming true->aE,false->aF
open Or renaming inl->aG,inr->aH
open Go.Item renaming inRegion->aM
open Bool renaming false_and->aCH,and_false->aCI
namespace Go.Ren
open Go.Conc (G)
section
variable {P:zZ}{Al:zF}{F:Kp}{π:Rn}{cs cs' own own':zL}{v w:zW}
def nU {fn:zN}{es:zE}{e:Event}(h:e∈seen P fn es):e∈es:=Go.Conc.mem_seen h
def cW.IE {fr fr':zC}(h:cW P Al F π fr fr'){m a:FrameMode}(b:PX Al π m a):cW P Al F π {fr with mode:=m} {fr' with mode:=a}:=
 ⟨h.fn,h.al,h.tmps,h.todo,h.items,h.defers,b,h.kind,h.kinds,h.round,h.oD⟩
def cW.raise {fr fr':zC}(h:cW P Al F π fr fr'){l c:List PanicEntry}(b:hQ (Cj Al π) l c):cW P Al F π (fr.raise l) (fr'.raise c):=by
 have a:=h.mode;unfold Frame.raise;revert a;cases fr.mode<;>cases fr'.mode<;>intro a<;>cases a
 .exact h.IE (.panicking b)
 .exact h.IE (.panicking b)
 .rename_i d;exact h.IE (.panicking (b.append d))
def cW.finish {fr fr':zC}(h:cW P Al F π fr fr'){x B:zY}(C:bG Al π x B):cW P Al F π (fr.finish x) (fr'.finish B):=by
 obtain⟨fn,tmps,todo,defers,mode,kind,round⟩:=fr;obtain⟨H,p,t,f,q,u,oD⟩:=fr';obtain⟨G,o,e,E,c,n,m,D,g,A,z⟩:=h;dsimp only at*;subst G;subst E;subst D;subst A;subst z;unfold Frame.finish;dsimp only;cases t with
 |nil=>exact⟨rfl,o,e,rfl,c,n,m,rfl,g,rfl,rfl⟩
 |cons i k=>
  cases i with
  |inRegion ops l=>
   cases l with
   |nil=>exact⟨rfl,o,e,rfl,c,n,m,rfl,g,rfl,rfl⟩
   |cons j rest=>
    refine⟨rfl,o,?_,rfl,λi y=> ?_,n,m,rfl,g,rfl,rfl⟩
    .dsimp only;cases(ops[j]?).bind (·.dst)with
     |none=>exact e
     |some d=>exact e.set C d
    .obtain rfl|y:=zAg.1 y
     .exact c (aM ops (j::rest)) (zAz)
     .exact c i (zBe _ y)
  |inRangeFunc l=>exact(c _ (zAz)).elim
  |beginRound=>exact(c _ (zAz)).elim
  |call d b r s=>exact(c _ (zAz)).elim
  |extern r a=>exact(c _ (zAz)).elim
  |_=>exact⟨rfl,o,e,rfl,c,n,m,rfl,g,rfl,rfl⟩
def cW.enter (B:cJ P Al F){f:zN}(d:Al f){as a:zA}(e:aW Al π as a){k:CallKind}(g:k= .normal\/k= .deferred):cW P Al F π (Frame.enter P f as k) (Frame.enter P f a k):=by
 unfold Frame.enter;dsimp only;refine⟨rfl,d,?_,rfl,λi b=> ?_,.nil,.run,rfl,g,rfl,rfl⟩
 .dsimp only;rw[e.size];exact e.append (aW.replicate eQ _)
 .simp only[zAw]at b;subst b;show lG P Al F _
  cases h:P.funcs[f]? with
  |none=>trivial
  |some fn=>
   cases hb:fn.body with
   |none=>simp only[zCw,hb,Option.getD_none];trivial
   |some c=>simp only[zCw,hb,zCc];exact B.body f fn c d h hb
def Gy (B:cJ P Al F)(O:cB P Al F π v w){fr fr':zC}(D:cW P Al F π fr fr')(R:hQ (cW P Al F π) own own'){s s':Sem Next}(hs:bR P Al F (KW Al) π s s'):
  Stepped P Al F π cs cs' v w (stepG.apply P aE fr (own++cs) aB s v) (stepG.apply P aE fr' (own'++cs') aB s' w):=by
 have m:(fr'.kind== .early)=aF:=by rw[D.kind];obtain h|h:=D.kinds<;>rw[h]<;>rfl
 have G:=D.items
 unfold stepG.apply
 rw[D.todo]
 simp only[zDf]
 obtain(⟨Y,X,z,e,A⟩|⟨f,H⟩)|⟨p,j,w1,z,d,E,t,T,S⟩:=hs.runT v w #[] #[] O
 .rw[e];obtain⟨M,rfl⟩|⟨u,rfl,hu⟩:=A
  .exact aG ⟨_,_,_,rfl⟩
  .cases u with
   |initOrder g=>exact absurd rfl (hu g)
   |_=>exact aG ⟨_,_,_,rfl⟩
 .obtain⟨a,b,p,j,z,r1,q⟩|⟨x,j,z,r1⟩:=H
  .rw[r1]at f⊢;cases q with
   |value J=>exact aH (aG ⟨_,own,j,_,rfl,f⟩)
   |skip=>exact aH (aG ⟨_,own,j,_,rfl,f⟩)
   |enter C L=>exact aH (aG ⟨_,fr::own,j,_,rfl,f⟩)
   |defer K=>exact aH (aG ⟨_,own,j,_,rfl,f⟩)
  .rw[r1]at f⊢;exact aH (aG ⟨_,own,j,_,rfl,f⟩)
 .have n:∀e∈seen P fr'.fn d,nC F p e:=λe o=>T e (nU o);have l:=R.imp λa b (h:cW P Al F π a b)=>h.mono t.sub;have c:=D.mono t.sub;obtain⟨a,b,r1,r2,q⟩|⟨x,W,r1,r2,N⟩:=S
  .rw[r1,r2];simp only[zCm];cases q with
   | @value y V J=>exact aH (aH ⟨p,_,j,_,_,w1,_,rfl,rfl,⟨_,_,own,own',rfl,rfl,c.finish J,l⟩,E,t,λe o=>n e (by simpa [m]using o)⟩)
   |skip=>exact aH (aH ⟨p,_,j,_,_,w1,_,rfl,rfl,⟨_,_,own,own',rfl,rfl,c.finish eQ,l⟩,E,t,λe o=>n e (by simpa [m]using o)⟩)
   |enter C L=>
    refine aH (aH ⟨p,_,j,_,_,w1,_,rfl,rfl,⟨_,_,fr::own,fr'::own',rfl,rfl,cW.enter B C L ?_,.cons c l⟩,E,t,λe o=>n e (by simpa [m]using o)⟩);left;cases Q:fr.todo with
    |nil=>rfl
    |cons i k=>
     cases i with
     |call d b r s=>exact False.elim (G (.call d b r s) (by rw[Q];exact zAz))
     |_=>rfl
   | @defer U I K=>refine aH (aH ⟨p,_,j,_,_,w1,_,rfl,rfl,⟨_,_,own,own',rfl,rfl,cW.finish (fr:={fr with defers:=U::fr.defers}) (fr':={fr' with todo:=fr.todo,defers:=I::fr'.defers}) ⟨c.fn,c.al,c.tmps,rfl,c.items,.cons K c.defers,c.mode,c.kind,c.kinds,c.round,c.oD⟩ eQ,l⟩,E,t,λe o=>n e (by simpa [m]using o)⟩)
  .rw[r1,r2];simp only[zCm];exact aH (aH ⟨p,_,j,_,_,w1,_,rfl,rfl,⟨_,_,own,own',rfl,rfl,c.raise (.cons ⟨N,rfl,rfl⟩ .nil),l⟩,E,t,λe o=>n e (by simpa [m]using o)⟩)
def mG {t b:zA}(h:aW Al π t b)(ops:zQ)(j:Nat):yielded ops b j=yielded ops t j:=by
 unfold yielded;cases(ops[j]?).bind (·.dst)with
 |none=>rfl
 |some d=>
  simp only[zCw];obtain⟨a,e⟩|⟨x,c,a,e,g⟩:=h.get d
  .rw[a,e]
  .rw[a,e];cases g<;>first|rfl|(rename_i f;cases c<;>first|exact f.elim|rfl)
def Lj (B:cJ P Al F)(E:cB P Al F π v w){fr fr':zC}(S:cW P Al F π fr fr')(R:fr.mode= .run)(J:hQ (cW P Al F π) own own')(mn mn':Bool)(hq:pX P F fr:=by first|assumption|exact uP (λ_ h=>h))(hs:lF Al fr:=by first|assumption|exact kB (by assumption)):
  Stepped P Al F π cs cs' v w (stepG P mn (G fr (own++cs)) v) (stepG P mn' (G fr' (own'++cs')) w):=by
 have Z:=E.ok
 have L:=λx hx=>S.eval Z x hx
 have yx:=λ{s s':Sem Next} (h:bR P Al F (KW Al) π s s')=>Gy (cs:=cs) (cs':=cs') B E S J h
 have K:=λ{x x':zY} (h:bG Al π x x')=>S.finish h
 obtain⟨fn,tmps,todo,defers,mode,kind,round⟩:=fr
 obtain⟨n,A,D,q,V,e,oD⟩:=fr'
 obtain⟨U,T,h3,h4,M,h6,h7,h8,h9,O,N⟩:=S
 dsimp only at U T h3 h4 M h6 h7 h8 h9 O N R
 subst U;subst h4;subst h8;subst O;subst N;subst R
 cases h7
 have mk:∀(k:zI),(∀i∈k,iZ P Al F i)->∀m W,PX Al π m W->cW P Al F π ⟨n,tmps,k,defers,m,e,aB⟩ ⟨n,A,k,q,W,e,aB⟩:=
  λk C m W R=>⟨rfl,T,h3,rfl,C,h6,R,rfl,h9,rfl,rfl⟩
 show Stepped P Al F π cs cs' v w (stepG.exec P mn aE ⟨n,tmps,D,defers,.run,e,aB⟩ (own++cs) aB v) (stepG.exec P mn' aE ⟨n,A,D,q,.run,e,aB⟩ (own'++cs') aB w)
 cases D with
 |nil=>exact Stepped.same E (mk [] M _ _ .returning) J
 |cons i k=>
  have C:∀j∈k,iZ P Al F j:=λj g=>M j (zBe _ g);have z:iZ P Al F i:=M i zAz;have to:∀(I:zI),(∀i∈I,iZ P Al F i)->Stepped P Al F π cs cs' v w (.go (G ⟨n,tmps,I,defers,.run,e,aB⟩ (own++cs)) v) (.go (G ⟨n,A,I,q,.run,e,aB⟩ (own'++cs')) w):=
   λI xc=>Stepped.same E (mk I xc _ _ .run) J
  cases i with
  |code c=>
   cases c with
   |ret=>exact Stepped.same E (mk _ M _ _ .returning) J
   |skip=>exact to k C
   |label l=>exact to k C
   |seq a b=>exact to _ (by intro j g;obtain rfl|g:=zAg.1 g;exact z.1;obtain rfl|g:=zAg.1 g;exact z.2;exact C j g)
   |cond c a b=>
    have hc:=L c z.1;unfold stepG.exec;dsimp only;generalize Frame.eval _ c=x at hc⊢;generalize Frame.eval _ c=x' at hc⊢;cases hc with
    |bool t=>
     refine to _ ?_;intro j g;obtain rfl|g:=zAg.1 g
     .cases t
      .exact z.2.2
      .exact z.2.1
     .exact C j g
    |_=>exact Stepped.ended
   |block id b=>exact to _ (by intro j g;obtain rfl|g:=zAg.1 g;exact z;obtain rfl|g:=zAg.1 g;trivial;exact C j g)
   |loop b=>exact to _ (by intro j g;obtain rfl|g:=zAg.1 g;exact z;obtain rfl|g:=zAg.1 g;exact z;exact C j g)
   |scope b=>exact to _ (by intro j g;obtain rfl|g:=zAg.1 g;exact z;obtain rfl|g:=zAg.1 g;exact z;exact C j g)
   |exit id=>
    unfold stepG.exec;dsimp only;cases he:exitTo id k with
    |none=>exact Stepped.ended
    |some I=>exact to I λj g=>C j (YR he j g)
   |goto l=>
    unfold stepG.exec;dsimp only;cases he:gotoIn l k with
    |none=>exact Stepped.ended
    |some I=>exact to I (Fo C he)
   |rangeFunc f p a b=>exact z.elim
   |refuse me=>exact Stepped.ended
   |region id ops draw=>
    cases draw with
    |false=>exact to _ (by intro j g;obtain rfl|g:=zAg.1 g;exact z;exact C j g)
    |true=>
     have Q:∀(u:zW)(c:zL)(t:zA)(d:List Deferred)(m:Bool),stepG.exec P m aE ⟨n,t,.code (.region id ops aE)::k,d,.run,e,aB⟩ c aB u=
       .go (G ⟨n,t,aM ops (Region.schedule (P.follows .mixedOrders) ops (Question.cut (.order n id) (u.tape u.drawn (.order n id))))::k,d,.run,e,aB⟩ c) {u with drawn:=u.drawn+1}:=λu c t d m=>rfl
     rw[Q,Q]
     by_cases hl:F.upto v.drawn
     .refine aH (aH ⟨π,_,_,_,_,_,_,rfl,rfl,⟨_,_,own,own',rfl,?_,mk _ ?_ _ _ .run,J⟩,⟨E.ok,E.blk,λk C=>by have:=E.tape (k+1) (by rw[zGf k 1,<-zCv];exact C);rw[zGf k 1,<-zCv,<-zCv]at this;exact this,E.fresh,E.low,E.os,E.rows⟩,⟨λ_ _ x=>x,zAa _,zAa _,λ_ _ _=>rfl,λ_ _ x=>aG x,rfl,rfl,rfl,rfl,rfl,rfl,⟨1,rfl,rfl⟩,λx y=>⟨x,y⟩,λ_ _ _=>rfl,λb U T=>absurd T (zFz.2 U)⟩,by simp⟩)
      .have e0:w.tape w.drawn=v.tape v.drawn:=E.tape 0 hl;rw[e0]
      .intro j g;obtain rfl|g:=zAg.1 g
       .exact z
       .exact C j g
     .obtain⟨u,hu⟩:=zFn.1 hl;obtain⟨Y,Nu⟩:=Classical.not_imp.1 hu;exact aH (aG ⟨_,own,_,_,rfl,u,Y,by show u<v.drawn+1;omega⟩)
  |inBlock id=>exact to k C
  |inScope b=>exact to k C
  |inLoop b=>exact to _ (by intro j g;obtain rfl|g:=zAg.1 g;exact z;obtain rfl|g:=zAg.1 g;exact z;exact C j g)
  |inRegion ops l=>
   cases l with
   |nil=>exact to k C
   |cons j rest=>
    have Q:∀(u:zW)(c:zL)(t:zA)(d:List Deferred)(m:Bool),stepG.exec P m aE ⟨n,t,aM ops (j::rest)::k,d,.run,e,aB⟩ c aB u=
      if(((ops[j]?).map (Region.wanted · (yielded ops t))).getD aF)=aE then stepG.oper P aE ⟨n,t,aM ops (j::rest)::k,d,.run,e,aB⟩ c aB u
      else .go (G (Frame.finish ⟨n,t,aM ops (j::rest)::k,d,.run,e,aB⟩ undef) c) u:=λu c t d m=>rfl
    rw[Q,Q]
    have ey:yielded ops A=yielded ops tmps:=funext (mG h3 ops)
    rw[ey]
    split
    .rename_i X;cases H:ops[j]? with
     |none=>refine aG ?_;simp[stepG.oper,Frame.oper?,H]
     |some o=>
      have e2:∀(u:zW)(c:zL)(t:zA)(d:List Deferred),stepG.oper P aE ⟨n,t,aM ops (j::rest)::k,d,.run,e,aB⟩ c aB u=
        stepG.apply P aE ⟨n,t,aM ops (j::rest)::k,d,.run,e,aB⟩ c aB (execOp (Frame.eval ⟨n,t,aM ops (j::rest)::k,d,.run,e,aB⟩) o) u:=λu c t d=>by
       unfold stepG.oper
       simp only[Frame.oper?,H]
      rw[e2,e2]
      exact yx (FX B.met (z o (zBc H)) (hq rfl _ _ _ _ _ rfl H) (hs rfl _ _ _ _ _ rfl H (by simpa [H]using X)) L)
    .exact Stepped.same E (K eQ) J
  |inRangeFunc l=>exact z.elim
  |endRangeFunc l=>exact z.elim
  |beginRound=>exact z.elim
  |call d b r s=>exact z.elim
  |extern r a=>exact z.elim
end
section
variable {P:zZ}{Al:zF}{F:Kp}{π:Rn}{cs cs' own own':zL}{v w:zW}
def IJ {t c:zA}(h:aW Al π t c)(i:Nat):bG Al π (t.getD i undef) (c.getD i undef):=by
 obtain⟨b,e⟩|⟨a,f,b,e,d⟩:=h.get i
 .simp only[zBi,b,e];exact eQ
 .simp only[zBi,b,e];exact d
def iO (fn:Func){π:Rn} [ok:Ok P π] {t d:zA}(h:aW Al π t d):bR P Al F (VR Al) π (results fn t) (results fn d):=by
 unfold results;refine aR (Wt Al) ?_ ?_
 .rw[zFp,zFp];have m:∀(l:List ResultVar){π:Rn} [Ok P π] {t d:zA},aW Al π t d->bR P Al F (λf (a b:zV)=>aW Al f a.toArray b.toArray) π
    (l.mapM λ| .tmp x=>pure (t.getD x undef)| .cell a ty=>do loadVar ty (<-asAddr (t.getD a undef)))
    (l.mapM λ| .tmp x=>pure (d.getD x undef)| .cell a ty=>do loadVar ty (<-asAddr (d.getD a undef))):=by
   intro l
   induction l with
   |nil=>intro π ok t d h;exact aS .nil
   |cons r l y=>
    intro π ok t d h;rw[List.mapM_cons,List.mapM_cons];refine aR (VR Al) ?_ ?_
    .cases r with
     |tmp x=>exact aS (IJ h x)
     |cell a ty=>refine aR _ (GA (IJ h a)) ?_;intro f x s ok j n;exact CR n ty
    .intro f x s ok j n;refine aR _ (y (h.mono j)) ?_;intro z l u ok o k;refine aS ⟨by have:=k.size;simp at this⊢;exact this,λi a b q p=> ?_⟩;cases i with
     |zero=>simp at q p;subst q;subst p;exact n.mono o
     |succ i=>exact k.at' i a b (by simpa using q) (by simpa using p)
  refine aR _ (m fn.results.toList h) ?_;intro f l u ok j k;exact aS k
 .intro f a b ok j c;refine aS ?_;show bG Al f _ _
  have e:=c.size;by_cases g:a.size=1
  .rw[dif_pos g,dif_pos (by rw[e,g])];exact c.at' 0 _ _ (by simp[g]) (by simp[e,g])
  .rw[dif_neg g,dif_neg (by rw[e];exact g)];exact .tuple c.size c.at'
def yY (J:cB P Al F π v w){fr fr' c c':zC}(t:cW P Al F π fr fr')(d:cW P Al F π c c')(K:hQ (cW P Al F π) own own')(mn mn':Bool){x p:zY}(A:bG Al π x p):
  ∃f u,doReturn P mn fr (c::(own++cs)) aB x v= .go (G f (own++cs)) v/\doReturn P mn' fr' (c'::(own'++cs')) aB p w= .go (G u (own'++cs')) w/\cW P Al F π f u:=by
 unfold doReturn
 dsimp only
 rw[t.kind]
 obtain h|h:=t.kinds
 .rw[h];exact⟨_,_,rfl,rfl,d.finish A⟩
 .rw[h];refine⟨_,_,rfl,rfl,?_⟩;have i:=d.mode;revert i;generalize k:c.mode=m;generalize e:c'.mode=y;intro i;cases i with
  |run=>exact d
  |returning=>exact d
  |panicking B=>
   cases B with
   |nil=>exact d
   | @cons a I l s D C=>
    obtain⟨N,O,Q⟩:=a;obtain⟨E,o,H⟩:=I;obtain⟨q1,r,q⟩:=D;dsimp only at q1 r q;subst r;subst q;cases o with
    |false=>exact d
    |true=>
     dsimp only;clear k e;have j:hQ (Cj Al π) (l.dropWhile (!·.goexit)) (s.dropWhile (!·.goexit)):=by
      induction C with
      |nil=>exact .nil
      | @cons b M m y g n z=>
       simp only[List.dropWhile_cons];rw[g.goexit];split
       .exact z
       .exact .cons g n
     generalize l.dropWhile (!·.goexit)=L at j
     generalize s.dropWhile (!·.goexit)=R at j
     cases j with
     |nil=>exact d.IE .returning
     |cons g n=>exact d.IE (.panicking (.cons g n))
def BX (B:cJ P Al F)(T:cB P Al F π v w){fr fr':zC}(M:cW P Al F π fr fr')(Q:hQ (cW P Al F π) own own'){d V:Deferred}(D:CH Al π d V):
  Stepped P Al F π cs cs' v w (callDeferred P fr (own++cs) aB d v) (callDeferred P fr' (own'++cs') aB V w):=by
 have O:=T.ok
 have A:=(FU (ok:=O) B.met D).runT v w #[] #[] T
 cases D
 case fn f r xs X W N Z C=>
  unfold callDeferred
  simp only[aCH,zBf,↓reduceIte]
  obtain(⟨U,S,q,e,s⟩|⟨c,z⟩)|⟨n,g,w1,q,L,t,p,K,J⟩:=A
  .rw[e];obtain⟨E,rfl⟩|⟨u,rfl,hu⟩:=s
   .exact aG ⟨_,_,_,rfl⟩
   .exact aG ⟨_,_,_,rfl⟩
  .obtain⟨a,b,n,g,q,r1,o⟩|⟨x,g,q,r1⟩:=z
   .rw[r1]at c⊢;cases o with
    |value H=>exact aH (aG ⟨_,own,g,_,rfl,c⟩)
    |skip=>exact aH (aG ⟨_,own,g,_,rfl,c⟩)
    |enter r C=>exact aH (aG ⟨_,fr::own,g,_,rfl,c⟩)
    |defer D=>exact aH (aG ⟨_,own,g,_,rfl,c⟩)
   .rw[r1]at c⊢;exact aH (aG ⟨_,own,g,_,rfl,c⟩)
  .have k:∀e∈seen P fr'.fn L,nC F n e:=λe l=>K e (nU l);have i:=Q.imp λa b (h:cW P Al F π a b)=>h.mono p.sub;have j:=M.mono p.sub;obtain⟨a,b,r1,r2,o⟩|⟨x,R,r1,r2,G⟩:=J
   .rw[r1,r2];simp only[zCm];cases o with
    |value H=>exact aH (aH ⟨n,_,g,_,_,w1,_,rfl,rfl,⟨_,_,own,own',rfl,rfl,j,i⟩,t,p,λe l=>k e (by simpa using l)⟩)
    |skip=>exact aH (aH ⟨n,_,g,_,_,w1,_,rfl,rfl,⟨_,_,own,own',rfl,rfl,j,i⟩,t,p,λe l=>k e (by simpa using l)⟩)
    |enter r C=>exact aH (aH ⟨n,_,g,_,_,w1,_,rfl,rfl,⟨_,_,fr::own,fr'::own',rfl,rfl,cW.enter B r C (aH rfl),.cons j i⟩,t,p,λe l=>k e (by simpa using l)⟩)
    |defer D=>exact aH (aH ⟨n,_,g,_,_,w1,_,rfl,rfl,⟨_,_,own,own',rfl,rfl,j,i⟩,t,p,λe l=>k e (by simpa using l)⟩)
   .rw[r1,r2];simp only[zCm];exact aH (aH ⟨n,_,g,_,_,w1,_,rfl,rfl,⟨_,_,own,own',rfl,rfl,j.raise (.cons ⟨G,rfl,rfl⟩ .nil),i⟩,t,p,λe l=>k e (by simpa using l)⟩)
 case nil W N C=>
  have y:=M.mode
  generalize z:fr.mode=m at y
  generalize I:fr'.mode=Y at y
  unfold callDeferred
  rw[z,I]
  cases y
  case run=>
   simp only[aCI,zBf,↓reduceIte]
   obtain(⟨U,S,q,e,s⟩|⟨c,z⟩)|⟨n,g,w1,q,L,t,p,K,J⟩:=A
   .rw[e];obtain⟨E,rfl⟩|⟨u,rfl,hu⟩:=s
    .exact aG ⟨_,_,_,rfl⟩
    .exact aG ⟨_,_,_,rfl⟩
   .obtain⟨a,b,n,g,q,r1,o⟩|⟨x,g,q,r1⟩:=z
    .rw[r1]at c⊢;cases o with
     |value H=>exact aH (aG ⟨_,own,g,_,rfl,c⟩)
     |skip=>exact aH (aG ⟨_,own,g,_,rfl,c⟩)
     |enter r C=>exact aH (aG ⟨_,fr::own,g,_,rfl,c⟩)
     |defer D=>exact aH (aG ⟨_,own,g,_,rfl,c⟩)
    .rw[r1]at c⊢;exact aH (aG ⟨_,own,g,_,rfl,c⟩)
   .have k:∀e∈seen P fr'.fn L,nC F n e:=λe l=>K e (nU l);have i:=Q.imp λa b (h:cW P Al F π a b)=>h.mono p.sub;have j:=M.mono p.sub;obtain⟨a,b,r1,r2,o⟩|⟨x,R,r1,r2,G⟩:=J
    .rw[r1,r2];simp only[zCm];cases o with
     |value H=>exact aH (aH ⟨n,_,g,_,_,w1,_,rfl,rfl,⟨_,_,own,own',rfl,rfl,j,i⟩,t,p,λe l=>k e (by simpa using l)⟩)
     |skip=>exact aH (aH ⟨n,_,g,_,_,w1,_,rfl,rfl,⟨_,_,own,own',rfl,rfl,j,i⟩,t,p,λe l=>k e (by simpa using l)⟩)
     |enter r C=>exact aH (aH ⟨n,_,g,_,_,w1,_,rfl,rfl,⟨_,_,fr::own,fr'::own',rfl,rfl,cW.enter B r C (aH rfl),.cons j i⟩,t,p,λe l=>k e (by simpa using l)⟩)
     |defer D=>exact aH (aH ⟨n,_,g,_,_,w1,_,rfl,rfl,⟨_,_,own,own',rfl,rfl,j,i⟩,t,p,λe l=>k e (by simpa using l)⟩)
    .rw[r1,r2];simp only[zCm];exact aH (aH ⟨n,_,g,_,_,w1,_,rfl,rfl,⟨_,_,own,own',rfl,rfl,j.raise (.cons ⟨G,rfl,rfl⟩ .nil),i⟩,t,p,λe l=>k e (by simpa using l)⟩)
  case returning=>
   simp only[aCI,zBf,↓reduceIte]
   obtain(⟨U,S,q,e,s⟩|⟨c,z⟩)|⟨n,g,w1,q,L,t,p,K,J⟩:=A
   .rw[e];obtain⟨E,rfl⟩|⟨u,rfl,hu⟩:=s
    .exact aG ⟨_,_,_,rfl⟩
    .exact aG ⟨_,_,_,rfl⟩
   .obtain⟨a,b,n,g,q,r1,o⟩|⟨x,g,q,r1⟩:=z
    .rw[r1]at c⊢;cases o with
     |value H=>exact aH (aG ⟨_,own,g,_,rfl,c⟩)
     |skip=>exact aH (aG ⟨_,own,g,_,rfl,c⟩)
     |enter r C=>exact aH (aG ⟨_,fr::own,g,_,rfl,c⟩)
     |defer D=>exact aH (aG ⟨_,own,g,_,rfl,c⟩)
    .rw[r1]at c⊢;exact aH (aG ⟨_,own,g,_,rfl,c⟩)
   .have k:∀e∈seen P fr'.fn L,nC F n e:=λe l=>K e (nU l);have i:=Q.imp λa b (h:cW P Al F π a b)=>h.mono p.sub;have j:=M.mono p.sub;obtain⟨a,b,r1,r2,o⟩|⟨x,R,r1,r2,G⟩:=J
    .rw[r1,r2];simp only[zCm];cases o with
     |value H=>exact aH (aH ⟨n,_,g,_,_,w1,_,rfl,rfl,⟨_,_,own,own',rfl,rfl,j,i⟩,t,p,λe l=>k e (by simpa using l)⟩)
     |skip=>exact aH (aH ⟨n,_,g,_,_,w1,_,rfl,rfl,⟨_,_,own,own',rfl,rfl,j,i⟩,t,p,λe l=>k e (by simpa using l)⟩)
     |enter r C=>exact aH (aH ⟨n,_,g,_,_,w1,_,rfl,rfl,⟨_,_,fr::own,fr'::own',rfl,rfl,cW.enter B r C (aH rfl),.cons j i⟩,t,p,λe l=>k e (by simpa using l)⟩)
     |defer D=>exact aH (aH ⟨n,_,g,_,_,w1,_,rfl,rfl,⟨_,_,own,own',rfl,rfl,j,i⟩,t,p,λe l=>k e (by simpa using l)⟩)
    .rw[r1,r2];simp only[zCm];exact aH (aH ⟨n,_,g,_,_,w1,_,rfl,rfl,⟨_,_,own,own',rfl,rfl,j.raise (.cons ⟨G,rfl,rfl⟩ .nil),i⟩,t,p,λe l=>k e (by simpa using l)⟩)
  case panicking=>exact Stepped.ended
end
section
variable {P:zZ}{Al:zF}{F:Kp}{π:Rn}{cs cs' own own':zL}{v w:zW}
def kH {fr:zC}(h:∀i∈fr.todo,iZ P Al F i):fr.catches P=aF:=by
 unfold Frame.catches;cases P.funcs[fr.fn]? with
 |some fn=>rfl
 |none=>
  cases a:fr.todo with
  |nil=>rfl
  |cons i k=>
   cases i with
   |call d b r s=>exact False.elim (h (.call d b r s) (by rw[a];exact zAz))
   |_=>rfl
def UL {fr:zC}(a:fr.kind= .normal\/fr.kind= .deferred)(c:zC)(rest:zL)(mn:Bool)(x:zY)(u:zW):∃f,doReturn P mn fr (c::rest) aB x u= .go (G f rest) u:=by unfold doReturn;obtain h|h:=a<;>rw[h]<;>exact⟨_,rfl⟩
def WA (B:cJ P Al F)(r:cB P Al F π v w){fr fr':zC}(g:cW P Al F π fr fr')(Q:fr.mode≠.run)(n:hQ (cW P Al F π) own own')(k:fr.defers≠[]\/own≠[])(mn mn':Bool):
  Stepped P Al F π cs cs' v w (unwind P mn fr (own++cs) aB v) (unwind P mn' fr' (own'++cs') aB w):=by
 have H:=r.ok
 have L:=g.defers
 unfold unwind
 generalize Y:fr.defers=l at L k
 generalize X:fr'.defers=l' at L
 cases L with
 | @cons d d' ds O C p=>
  have I:cW P Al F π {fr with defers:=ds} {fr' with defers:=O}:=⟨g.fn,g.al,g.tmps,g.todo,g.items,p,g.mode,g.kind,g.kinds,g.round,g.oD⟩;have:=BX (cs:=cs) (cs':=cs') B r I n C;cases C with
  |fn W E Z=>exact this
  |nil Z=>exact this
 |nil=>
  cases n with
  |nil=>obtain h|h:=k<;>exact absurd rfl h
  | @cons c c' o j E n=>
   have i:=g.mode;generalize y:fr.mode=m at i Q;generalize S:fr'.mode=m' at i;cases i with
   |run=>exact absurd rfl Q
   |panicking R=>dsimp only;rw[kH g.items,kH (fr:=fr') (by rw[g.todo];exact g.items)];exact Stepped.same r (E.raise R) n
   |returning=>
    dsimp only;rw[g.fn];cases V:P.funcs[fr.fn]? with
    |none=>obtain⟨f,T,D,N,M⟩:=yY (cs:=cs) (cs':=cs') r g E n mn mn' (IJ g.tmps 0);dsimp only;rw[zCs,zCs,D,N];exact Stepped.same r M n
    |some fn=>
     dsimp only;obtain(⟨R,v',q,e,z⟩|⟨t,y⟩)|⟨G,s,w1,q,d,C,p,h3,h4⟩:=(iO fn (ok:=H) g.tmps).runT v w #[] #[] r
     .rw[e];obtain⟨U,rfl⟩|⟨u,rfl,hu⟩:=z
      .exact aG ⟨_,_,_,rfl⟩
      .exact aG ⟨_,_,_,rfl⟩
     .obtain⟨a,b,G,s,q,r1,A⟩|⟨x,s,q,r1⟩:=y
      .rw[r1]at t⊢;obtain⟨f,D⟩:=UL (P:=P) g.kinds c (o++cs) mn a s;simp only[zCs,D];exact aH (aG ⟨f,o,s,_,rfl,t⟩)
      .rw[r1];exact aG ⟨_,_,_,rfl⟩
     .have J:∀e∈seen P fr.fn d,nC F G e:=λe K=>h3 e (nU K);obtain⟨a,b,r1,r2,A⟩|⟨x,x',r1,r2,hx⟩:=h4
      .rw[r1,r2];simp only[zCm,zCs];obtain⟨f,T,D,N,M⟩:=yY (cs:=cs) (cs':=cs') C (g.mono p.sub) (E.mono p.sub) (n.imp λa b (h:cW P Al F π a b)=>h.mono p.sub) mn mn' A;rw[D,N];exact aH (aH ⟨G,_,s,_,_,w1,_,rfl,rfl,⟨f,T,o,j,rfl,rfl,M,n.imp λa b (h:cW P Al F π a b)=>h.mono p.sub⟩,C,p,λe K=>J e (by simpa using K)⟩)
      .rw[r1];exact aG ⟨_,_,_,rfl⟩
def xG (B:cJ P Al F)(j:cB P Al F π v w){fr fr':zC}(f:cW P Al F π fr fr')(k:hQ (cW P Al F π) own own')(c:fr.mode= .run\/fr.defers≠[]\/own≠[])(mn mn':Bool)(l:pX P F fr:=by first|assumption|exact uP (λ_ h=>h))(hs:lF Al fr:=by first|assumption|exact kB (by assumption)):
  Stepped P Al F π cs cs' v w (stepG P mn (G fr (own++cs)) v) (stepG P mn' (G fr' (own'++cs')) w):=by
 by_cases d:fr.mode= .run
 .exact Lj B j f d k mn mn' l hs
 .have hs:=c.resolve_left d;have:=WA (cs:=cs) (cs':=cs') B j f d k hs mn mn';have a:=f.mode;generalize e:fr.mode=m at a d;generalize b:fr'.mode=n at a;cases a with
  |run=>exact absurd rfl d
  |returning=>
   have i:stepG P mn (G fr (own++cs)) v=unwind P mn fr (own++cs) aB v:=by simp only[stepG,G,e]
   have g:stepG P mn' (G fr' (own'++cs')) w=unwind P mn' fr' (own'++cs') aB w:=by simp only[stepG,G,b]
   rw[i,g];exact this
  |panicking o=>
   have i:stepG P mn (G fr (own++cs)) v=unwind P mn fr (own++cs) aB v:=by simp only[stepG,G,e]
   have g:stepG P mn' (G fr' (own'++cs')) w=unwind P mn' fr' (own'++cs') aB w:=by simp only[stepG,G,b]
   rw[i,g];exact this
end
section
variable {P:zZ}{Al:zF}{F:Kp}{π:Rn}{cs' own own':zL}{v w:zW}{fs:Array Func}
def eU (h:Shape P fs)(fn:zN)(es:zE):seen ⟨P.toTables,fs⟩ fn es=seen P fn es:=by
 have c:∀f:zN,((⟨P.toTables,fs⟩:zZ).funcs[f]?).any (·.norace)=(P.funcs[f]?).any (·.norace):=λf=>by
  obtain e|⟨a,b,i,g,_,_,_,d⟩:=h f
  .dsimp only;rw[e]
  .dsimp only;rw[i,g];simp[d]
 unfold seen
 simp only[c]
def yW {f:zN}(h:fs[f]? =P.funcs[f]?)(as:zA)(k:CallKind):Frame.enter ⟨P.toTables,fs⟩ f as k=Frame.enter P f as k:=by unfold Frame.enter;dsimp only;rw[h]
def Alike (P:zZ)(fs:Array Func)(Al:zF)(s s':GStep):Prop:=
 s'=s\/∃f as k callers w1 e,Al f/\s= .go {frame:=Frame.enter P f as k,callers,status:= .running,dying:=aB} w1 e/\s'= .go {frame:=Frame.enter ⟨P.toTables,fs⟩ f as k,callers,status:= .running,dying:=aB} w1 e/\fs[f]?≠P.funcs[f]?
def tF (h:F.rG=aB)(u:zW):¬Rq F u:=by rintro⟨x,a,_⟩;rw[h]at a;cases a
def VJ (c:Shape P fs)(i:F.rG=aB)(o:cB P Al F π v w){fr':zC}{C:zL}{s s':Sem Next}(hs:bR P Al F (KW Al) π s s'):
  (∃k u g,s.runT P v #[]=(.halt k u,g)/\Fatal k)\/Alike P fs Al (stepG.apply P aE fr' C aB s' w) (stepG.apply ⟨P.toTables,fs⟩ aE fr' C aB s' w):=by
 obtain h|hb:=hs.blind c i v w #[] #[] o
 .exact aG h
 obtain(⟨k,p,g,e,j⟩|⟨l,_⟩)|⟨t,v1,w1,g,d,H,G,E,q⟩:=hs.runT v w #[] #[] o
 .exact aG ⟨k,p,g,e,j⟩
 .exact absurd l (tF i _)
 .right;obtain⟨a,b,r1,r2,n⟩|⟨x,y,r1,r2,z⟩:=q
  .unfold stepG.apply;simp only[zDf];rw[hb,r2];cases n with
   |value A=>simp only[eU c];exact aG rfl
   |skip=>simp only[eU c];exact aG rfl
   | @enter f m as r D=>
    simp only[eU c];by_cases e:fs[f]? =P.funcs[f]?
    .rw[yW e];exact aG rfl
    .exact aH ⟨f,_,_,_,_,_,m,rfl,rfl,e⟩
   |defer B=>simp only[eU c];exact aG rfl
  .unfold stepG.apply;simp only[zDf];rw[hb,r2];simp only[eU c];exact aG rfl
def mW {fr:zC}{C:zL}{s:Sem Next}{a:Halt}{u:zW}{e:zE}(h:s.runT P v #[]=(.halt a u,e))(c:Fatal a):∃o u d,stepG.apply P aE fr C aB s v= .ended o u d:=by
 unfold stepG.apply;simp only[zDf];rw[h];obtain⟨b,rfl⟩|⟨x,rfl,hu⟩:=c
 .exact⟨_,_,_,rfl⟩
 .cases x with
  |initOrder g=>exact absurd rfl (hu g)
  |_=>exact⟨_,_,_,rfl⟩
def YS {cs:zL}(B:cJ P Al F)(N:Shape P fs)(D:F.rG=aB)(T:cB P Al F π v w){fr fr':zC}(V:cW P Al F π fr fr')(U:fr.mode= .run)(mn mn':Bool)(hq:pX P F fr:=by first|assumption|exact uP (λ_ h=>h))(hs:lF Al fr:=by first|assumption|exact kB (by assumption)):
  (∃o u Q,stepG P mn (G fr cs) v= .ended o u Q)\/Alike P fs Al (stepG P mn' (G fr' cs') w) (stepG ⟨P.toTables,fs⟩ mn' (G fr' cs') w):=by
 have M:=T.ok
 have H:=λx hx=>V.eval M x hx
 obtain⟨fn,tmps,todo,defers,mode,kind,round⟩:=fr
 obtain⟨q,z,n,y,K,g,oD⟩:=fr'
 obtain⟨h1,h2,h3,Z,Y,h6,X,W,h9,J,I⟩:=V
 dsimp only at h1 h2 h3 Z Y h6 X W h9 J I U
 subst h1;subst Z;subst W;subst J;subst I;subst U
 cases X
 show(∃o u Q,stepG.exec P mn aE ⟨q,tmps,n,defers,.run,g,aB⟩ cs aB v= .ended o u Q)\/Alike P fs Al (stepG.exec P mn' aE ⟨q,z,n,y,.run,g,aB⟩ cs' aB w) (stepG.exec ⟨P.toTables,fs⟩ mn' aE ⟨q,z,n,y,.run,g,aB⟩ cs' aB w)
 cases n with
 |nil=>exact aH (aG rfl)
 |cons i k=>
  have C:iZ P Al F i:=Y i zAz;cases i with
  |code c=>
   cases c with
   |cond c a b=>
    have O:=H c C.1;unfold stepG.exec;dsimp only;generalize Frame.eval _ c=x at O⊢;generalize Frame.eval _ c=x' at O⊢;cases O with
    |bool t=>exact aH (aG rfl)
    |_=>exact aG ⟨_,_,_,rfl⟩
   |exit id=>
    unfold stepG.exec;dsimp only;cases he:exitTo id k with
    |none=>exact aG ⟨_,_,_,rfl⟩
    |some k'=>exact aH (aG rfl)
   |goto l=>
    unfold stepG.exec;dsimp only;cases he:gotoIn l k with
    |none=>exact aG ⟨_,_,_,rfl⟩
    |some k'=>exact aH (aG rfl)
   |rangeFunc f p a b=>exact C.elim
   |refuse me=>exact aG ⟨_,_,_,rfl⟩
   |region id ops draw=>
    cases draw with
    |false=>exact aH (aG rfl)
    |true=>exact aH (aG rfl)
   |_=>exact aH (aG rfl)
  |inBlock id=>exact aH (aG rfl)
  |inScope b=>exact aH (aG rfl)
  |inLoop b=>exact aH (aG rfl)
  |inRegion ops l=>
   cases l with
   |nil=>exact aH (aG rfl)
   |cons j rest=>
    have S:∀(p:zZ)(u:zW)(c:zL)(t:zA)(d:List Deferred)(m:Bool),stepG.exec p m aE ⟨q,t,aM ops (j::rest)::k,d,.run,g,aB⟩ c aB u=
      if(((ops[j]?).map (Region.wanted · (yielded ops t))).getD aF)=aE then stepG.oper p aE ⟨q,t,aM ops (j::rest)::k,d,.run,g,aB⟩ c aB u
      else .go (G (Frame.finish ⟨q,t,aM ops (j::rest)::k,d,.run,g,aB⟩ undef) c) u:=λp u c t d m=>rfl
    rw[S,S,S]
    have ey:yielded ops z=yielded ops tmps:=funext (mG h3 ops)
    rw[ey]
    split
    .rename_i L;cases A:ops[j]? with
     |none=>left;simp[stepG.oper,Frame.oper?,A]
     |some o=>
      have R:∀(p:zZ)(u:zW)(c:zL)(t:zA)(d:List Deferred),stepG.oper p aE ⟨q,t,aM ops (j::rest)::k,d,.run,g,aB⟩ c aB u=
        stepG.apply p aE ⟨q,t,aM ops (j::rest)::k,d,.run,g,aB⟩ c aB (execOp (Frame.eval ⟨q,t,aM ops (j::rest)::k,d,.run,g,aB⟩) o) u:=λp u c t d=>by
       unfold stepG.oper
       simp only[Frame.oper?,A]
      rw[R,R,R]
      obtain⟨hl,u,Zo,e,E⟩|h:=VJ (fs:=fs) N D T (FX B.met (C o (zBc A)) (hq rfl _ _ _ _ _ rfl A) (hs rfl _ _ _ _ _ rfl A (by simpa [A]using L)) H)
      .exact aG (mW e E)
      .exact aH h
    .exact aH (aG rfl)
  |inRangeFunc l=>exact C.elim
  |endRangeFunc l=>exact C.elim
  |beginRound=>exact C.elim
  |call d b r s=>exact C.elim
  |extern r a=>exact C.elim
def wU {cs:zL}(B:cJ P Al F)(h:Shape P fs)(i:F.rG=aB)(r:cB P Al F π v w){fr fr':zC}(T:cW P Al F π fr fr'){d H:Deferred}(y:CH Al π d H):
  (∃o u U,callDeferred P fr cs aB d v= .ended o u U)\/Alike P fs Al (callDeferred P fr' cs' aB H w) (callDeferred ⟨P.toTables,fs⟩ fr' cs' aB H w):=by
 have E:=r.ok
 have g:=FU (ok:=E) B.met y
 cases y
 case fn f l xs S R D W C=>
  unfold callDeferred
  simp only[aCH,zBf,↓reduceIte]
  obtain⟨s,u,j,e,c⟩|hb:=g.blind h i v w #[] #[] r
  .left;rw[e];obtain⟨n,rfl⟩|⟨u,rfl,hu⟩:=c
   .exact⟨_,_,_,rfl⟩
   .exact⟨_,_,_,rfl⟩
  .obtain(⟨s,u,j,e,c⟩|⟨p,_⟩)|⟨I,v1,w1,j,Q,O,N,M,z⟩:=g.runT v w #[] #[] r
   .left;rw[e];obtain⟨n,rfl⟩|⟨u,rfl,hu⟩:=c
    .exact⟨_,_,_,rfl⟩
    .exact⟨_,_,_,rfl⟩
   .exact absurd p (tF i _)
   .right;obtain⟨a,b,r1,r2,q⟩|⟨x,J,r1,r2,K⟩:=z
    .rw[hb,r2];cases q with
     |value L=>simp only[eU h];exact aG rfl
     |skip=>simp only[eU h];exact aG rfl
     | @enter f l as A C=>
      simp only[eU h];by_cases e:fs[f]? =P.funcs[f]?
      .rw[yW e];exact aG rfl
      .exact aH ⟨f,_,_,_,_,_,l,rfl,rfl,e⟩
     |defer y=>simp only[eU h];exact aG rfl
    .rw[hb,r2];simp only[eU h];exact aG rfl
 case nil R D C=>
  have k:=T.mode
  generalize G:fr.mode=m at k
  generalize t:fr'.mode=V at k
  unfold callDeferred
  rw[G,t]
  cases k
  case run=>
   simp only[aCI,zBf,↓reduceIte]
   obtain⟨s,u,j,e,c⟩|hb:=g.blind h i v w #[] #[] r
   .left;rw[e];obtain⟨n,rfl⟩|⟨u,rfl,hu⟩:=c
    .exact⟨_,_,_,rfl⟩
    .exact⟨_,_,_,rfl⟩
   .obtain(⟨s,u,j,e,c⟩|⟨p,_⟩)|⟨I,v1,w1,j,Q,O,N,M,z⟩:=g.runT v w #[] #[] r
    .left;rw[e];obtain⟨n,rfl⟩|⟨u,rfl,hu⟩:=c
     .exact⟨_,_,_,rfl⟩
     .exact⟨_,_,_,rfl⟩
    .exact absurd p (tF i _)
    .right;obtain⟨a,b,r1,r2,q⟩|⟨x,J,r1,r2,K⟩:=z
     .rw[hb,r2];cases q with
      |value L=>simp only[eU h];exact aG rfl
      |skip=>simp only[eU h];exact aG rfl
      | @enter f l as A C=>
       simp only[eU h];by_cases e:fs[f]? =P.funcs[f]?
       .rw[yW e];exact aG rfl
       .exact aH ⟨f,_,_,_,_,_,l,rfl,rfl,e⟩
      |defer y=>simp only[eU h];exact aG rfl
     .rw[hb,r2];simp only[eU h];exact aG rfl
  case returning=>
   simp only[aCI,zBf,↓reduceIte]
   obtain⟨s,u,j,e,c⟩|hb:=g.blind h i v w #[] #[] r
   .left;rw[e];obtain⟨n,rfl⟩|⟨u,rfl,hu⟩:=c
    .exact⟨_,_,_,rfl⟩
    .exact⟨_,_,_,rfl⟩
   .obtain(⟨s,u,j,e,c⟩|⟨p,_⟩)|⟨I,v1,w1,j,Q,O,N,M,z⟩:=g.runT v w #[] #[] r
    .left;rw[e];obtain⟨n,rfl⟩|⟨u,rfl,hu⟩:=c
     .exact⟨_,_,_,rfl⟩
     .exact⟨_,_,_,rfl⟩
    .exact absurd p (tF i _)
    .right;obtain⟨a,b,r1,r2,q⟩|⟨x,J,r1,r2,K⟩:=z
     .rw[hb,r2];cases q with
      |value L=>simp only[eU h];exact aG rfl
      |skip=>simp only[eU h];exact aG rfl
      | @enter f l as A C=>
       simp only[eU h];by_cases e:fs[f]? =P.funcs[f]?
       .rw[yW e];exact aG rfl
       .exact aH ⟨f,_,_,_,_,_,l,rfl,rfl,e⟩
      |defer y=>simp only[eU h];exact aG rfl
     .rw[hb,r2];simp only[eU h];exact aG rfl
  case panicking=>exact aG ⟨_,_,_,rfl⟩
def wH {cs:zL}(B:cJ P Al F)(n:Shape P fs)(j:F.rG=aB)(y:cB P Al F π v w){fr fr':zC}(g:cW P Al F π fr fr')(A:fs[fr.fn]? =P.funcs[fr.fn]?)(N:hQ (cW P Al F π) own own')
  (r:fr.mode= .run\/fr.defers≠[]\/own≠[]) (mn mn':Bool) (V:pX P F fr:=by first|assumption|exact uP (λ_ h=>h)) (hs:lF Al fr:=by first|assumption|exact kB (by assumption)):
  (∃o u es,stepG P mn (G fr (own++cs)) v= .ended o u es)\/Alike P fs Al (stepG P mn' (G fr' (own'++cs')) w) (stepG ⟨P.toTables,fs⟩ mn' (G fr' (own'++cs')) w):=by
 by_cases s:fr.mode= .run
 .exact YS B n j y g s mn mn' V hs
 .have hs:=r.resolve_left s;have I:=y.ok;have f:=g.mode;have O:fr'.mode≠.run:=λe=>by rw[e]at f;generalize fr.mode=m at f s;cases f;exact s rfl
  have e1:stepG P mn (G fr (own++cs)) v=unwind P mn fr (own++cs) aB v:=by simp only[stepG,G]
  have U:∀p:zZ,stepG p mn' (G fr' (own'++cs')) w=unwind p mn' fr' (own'++cs') aB w:=λp=>by simp only[stepG,G]
  rw[e1,U,U]
  have K:=g.defers
  unfold unwind
  generalize Z:fr.defers=l at K hs
  generalize Y:fr'.defers=l' at K
  cases K with
  | @cons d d' ds M L T=>
   have J:cW P Al F π {fr with defers:=ds} {fr' with defers:=M}:=⟨g.fn,g.al,g.tmps,g.todo,g.items,T,g.mode,g.kind,g.kinds,g.round,g.oD⟩;have:=wU (cs:=own++cs) (cs':=own'++cs') B n j y J L;cases L with
   |fn X hc ha=>exact this
   |nil ha=>exact this
  |nil=>
   cases N with
   |nil=>obtain h|h:=hs<;>exact absurd rfl h
   | @cons c c' D t hc N=>
    generalize W:fr.mode=m at f s;generalize S:fr'.mode=m' at f;cases f with
    |run=>exact absurd rfl s
    |panicking Q=>
     right;dsimp only;have z:∀i∈fr'.todo,iZ P Al F i:=by rw[g.todo];exact g.items
     rw[kH z]
     have:fr'.catches ⟨P.toTables,fs⟩=aF:=by unfold Frame.catches;dsimp only;rw[g.fn,A];have:=kH z;unfold Frame.catches at this;rw[g.fn]at this;exact this
     rw[this]
     exact aG rfl
    |returning=>
     dsimp only;rw[g.fn,A];cases R:P.funcs[fr.fn]? with
     |none=>exact aH (aG rfl)
     |some fn=>
      dsimp only;have q:=iO (F:=F) fn (ok:=I) g.tmps;obtain⟨Q,u,C,e,k⟩|hb:=q.blind n j v w #[] #[] y
      .left;rw[e];obtain⟨E,rfl⟩|⟨u,rfl,hu⟩:=k
       .exact⟨_,_,_,rfl⟩
       .exact⟨_,_,_,rfl⟩
      .obtain(⟨Q,u,C,e,k⟩|⟨H,_⟩)|⟨ρ,v1,w1,C,dd,L,T,h3,h4⟩:=q.runT v w #[] #[] y
       .left;rw[e];obtain⟨E,rfl⟩|⟨u,rfl,hu⟩:=k
        .exact⟨_,_,_,rfl⟩
        .exact⟨_,_,_,rfl⟩
       .exact absurd H (tF j _)
       .obtain⟨a,b,r1,r2,Wr⟩|⟨x,x',r1,r2,hx⟩:=h4
        .right;rw[hb,r2];simp only[eU n];exact aG rfl
        .left;rw[r1];exact⟨_,_,_,rfl⟩
end
end Go.Ren
