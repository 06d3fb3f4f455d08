import Derived.Conc.WrSpec
import Derived.Conc.Script
import Derived.Test.YtghpcgagijhlaaaGreatDoorP08
set_option linter.all false
set_option maxRecDepth 100000
set_option maxHeartbeats 16000000
open Option renaming some->aA,none->aB
open Bool renaming true->aE,false->aF
open Or renaming inl->aG,inr->aH
open Go.Ending renaming returned->aL
open Go.Item renaming inRegion->aM
open Go.Obj renaming cells->aI
namespace Go.Ren
open Go.Conc (G)
inductive Tree where
 |leaf
 |node (ch:zW->Tree)
def Tree.Lt (a b:Tree):Prop:=∃ch w,b= .node ch/\a=ch w
def Tree.wf:WellFounded Tree.Lt:=by
 constructor;intro a;induction a with
 |leaf=>exact⟨_,λb ⟨_,_,h,_⟩=>by cases h⟩
 |node ch i=>exact⟨_,λb ⟨_,w,h,e⟩=>by cases h;exact e▸i w⟩
def Tree.nat:Nat->Tree
 |0=> .leaf
 |n+1=> .node λ_=>Tree.nat n
def Tree.fR (n:Nat):Tree.Lt (Tree.nat n) (Tree.nat (n+1)):=⟨_,default,rfl,rfl⟩
structure cQ (rd rw:zP)(w w₁:zW):Prop where
 dF:∀b,rd b\/rw b->w₁.heap[b]? =w.heap[b]?
 size:w.heap.size<=w₁.heap.size
 tape:w₁.tape=w.tape
 os:w₁.os=w.os
 output:w₁.output=w.output
structure Does (rw:zP)(w w':zW):Prop where
 keep:∀b,b<w.heap.size->¬rw b->w'.heap[b]? =w.heap[b]?
 size:w.heap.size<=w'.heap.size
 tape:w'.tape=w.tape
 os:w'.os=w.os
 output:w'.output=w.output
def grown (rw:zP)(w w':zW):zP:=λb=>rw b\/(w.heap.size<=b/\b<w'.heap.size)
def VU (rd rw:zP)(e:Event):Prop:=
 (∃a wr s,e=⟨.cell a,wr,s⟩/\(rw a.block\/(wr=aF/\rd a.block)))\/(∃r s,e=⟨.obj r,aF,s⟩/\(rw r\/rd r))\/e.loc= .mark .noRoom\/e.loc= .output\/∃f,e.loc= .mark (.extern f)
def cQ.refl (rd rw:zP)(w:zW):cQ rd rw w w:=⟨λ_ _=>rfl,zAa _,rfl,rfl,rfl⟩
def cQ.trans {rd rw:zP}{a b c:zW}(h:cQ rd rw a b)(k:cQ rd rw b c):cQ rd rw a c:=
 ⟨λx d=>(k.dF x d).trans (h.dF x d),zBl h.size k.size,k.tape.trans h.tape,k.os.trans h.os,k.output.trans h.output⟩
def cX (P:zZ)(main:Bool)(J:zW->Prop)(S:(zP)->(zP)->zU):Tree->(zP)->(zP)->zU
 | .leaf,rd,rw,g,w=>∀a,cQ rd rw w a->J a->S rd rw g a
 | .node ch,rd,rw,g,w=>g.status= .running/\∀a,cQ rd rw w a->J a->∃c b d,stepG P main g a= .go c b d/\Does rw a b/\(∀e∈d,VU rd (grown rw a b) e)/\cX P main J S (ch a) rd (grown rw a b) c b
section
variable {P:zZ}{main:Bool}{J:zW->Prop}{S:(zP)->(zP)->zU}
def cX.rely:∀{t:Tree}{rd rw:zP}{g:zH}{w c:zW},cX P main J S t rd rw g w->cQ rd rw w c->cX P main J S t rd rw g c
 | .leaf,_,_,_,_,_,h,r=>λa b j=>h a (r.trans b) j
 | .node _,_,_,_,_,_,h,r=>⟨h.1,λa b j=>h.2 a (r.trans b) j⟩
def cX.mono {c:(zP)->(zP)->zU}(b:∀rd rw g w,S rd rw g w->c rd rw g w):∀{t:Tree}{rd rw:zP}{g:zH}{w:zW},cX P main J S t rd rw g w->cX P main J c t rd rw g w
 | .leaf,_,_,_,_,h=>λa r j=>b _ _ _ _ (h a r j)
 | .node ch,_,_,_,_,h=>⟨h.1,λa r j=>let⟨l,d,es,k,i,f,e⟩:=h.2 a r j;⟨l,d,es,k,i,f,e.mono b⟩⟩
def cX.step {rd rw:zP}{g:zH}{w:zW}(d:g.status= .running)
  (h:∀w₁,cQ rd rw w w₁->J w₁->∃a w' es,stepG P main g w₁= .go a w' es/\Does rw w₁ w'/\(∀e∈es,VU rd (grown rw w₁ w') e)/\∃t,cX P main J S t rd (grown rw w₁ w') a w'):∃t,cX P main J S t rd rw g w:=by
 have c:∀w₁:zW,∃t:Tree,cQ rd rw w w₁->J w₁->∃a w' es,stepG P main g w₁= .go a w' es/\Does rw w₁ w'/\(∀e∈es,VU rd (grown rw w₁ w') e)/\cX P main J S t rd (grown rw w₁ w') a w':=λw₁=>by
  by_cases b:cQ rd rw w w₁/\J w₁
  .obtain⟨a,w',es,l,k,j,t,i⟩:=h w₁ b.1 b.2;exact⟨t,λ_ _=>⟨a,w',es,l,k,j,i⟩⟩
  .exact⟨.leaf,λx y=>absurd ⟨x,y⟩ b⟩
 exact⟨.node λw₁=>Classical.choose (c w₁),d,λw₁ b f=>zAr (c w₁) b f⟩
def cX.bind {b:(zP)->(zP)->zU}(a:∀rd rw g w,(∀w₁,cQ rd rw w w₁->J w₁->S rd rw g w₁)->∃t,cX P main J b t rd rw g w):
  ∀{t:Tree}{rd rw:zP}{g:zH}{w:zW},cX P main J S t rd rw g w->∃t,cX P main J b t rd rw g w
 | .leaf,_,_,_,_,h=>a _ _ _ _ h
 | .node ch,_,_,_,_,h=>cX.step h.1 λw₁ r j=>let⟨k,c,es,i,f,e,d⟩:=h.2 w₁ r j;⟨k,c,es,i,f,e,d.bind a⟩
end
def dZ (rw:zP)(w:zW):grown rw w w=rw:=by
 funext b;apply propext;constructor
 .rintro(h|⟨c,a⟩)
  .exact h
  .omega
 .exact aG
def Does.refl (rw:zP)(w:zW):Does rw w w:=⟨λ_ _ _=>rfl,zAa _,rfl,rfl,rfl⟩
def AF {P:zZ}{main:Bool}{J:zW->Prop}{R:zW->zW->Prop}{rd rw:zP}{Stop:zU}(a:∀w w₁,cQ rd rw w w₁->J w₁->R w w₁):
  ∀{n:Nat}{g:zH}{w:zW},Go.Conc.Goes P main R Go.ConcR.DC0 Stop n g w->∃t,cX P main J (λc b g w=>c=rd/\b=rw/\Stop g w) t rd rw g w
 |0,g,w,h=>⟨.leaf,λw₁ r j=>⟨rfl,rfl,h w₁ (a w w₁ r j)⟩⟩
 |n+1,g,w,h=>by
  obtain h|⟨e,h⟩:=h
  .exact⟨.leaf,λw₁ r j=>⟨rfl,rfl,h w₁ (a w w₁ r j)⟩⟩
  .refine cX.step e λw₁ r j=> ?_;obtain⟨m,d,o,l,⟨k,i⟩,f⟩:=Go.Conc.goes_elim (h w₁ (a w w₁ r j));subst k;subst i;refine⟨m,d,#[],l,Does.refl rw d,by simp,?_⟩;rw[dZ];exact AF a f
section
variable {P:zZ}{Al:zF}{K:Kp}
def YT {ρ:Rn}{rd rw:zP}(d:∀b c,ρ b c->(K b/\rd c)\/(¬K b/\rw c)){e:Event}(h:nC K ρ e):VU rd rw e:=by
 obtain⟨a,l,wr,s,rfl,j,g⟩|(h|h)|h|⟨r,f,s,rfl,i⟩:=h
 .refine aG ⟨l,wr,s,rfl,?_⟩;obtain⟨k,x⟩|⟨_,x⟩:=d _ _ j.1
  .right;refine⟨?_,x⟩;cases wr with
   |false=>rfl
   |true=>exact absurd k (g rfl)
  .exact aG x
 .exact aH (aH (aG h))
 .exact aH (aH (aH (aG h)))
 .exact aH (aH (aH (aH h)))
 .refine aH (aG ⟨f,s,rfl,?_⟩);obtain⟨_,x⟩|⟨_,x⟩:=d _ _ i
  .exact aH x
  .exact aG x
end
section
variable {P:zZ}{Al:zF}{F:Kp}{π:Rn}{v w:zW}
def qV (u:zW)(a:Addr):Bool:=u.frozen? a||(match u.shape? a.block with|some (_,n)=>u.frozen? {block:=a.block,off:=n}|none=>aF)
def bare (u:zW)(a:Addr):Bool:=u.shape? a.block matches aA (_,0)
def oH (u:zW)(a b:Addr):Bool:=(qV u a&&qV u b)||(qV u a&&bare u a)||(qV u b&&bare u b)
def sS (u:zW)(a:Addr)(es:zE):(stringish a).runT P u es=(.ok (qV u a) u,es):=by
 show(Sem.frozen a _).runT P u es=_
 simp only[Sem.runT]
 unfold qV
 cases h:u.frozen? a with
 |true=>rfl
 |false=>
  show(Sem.shape a.block _).runT P u es=_
  simp only[Sem.runT]
  cases hu:u.shape? a.block with
  |none=>rfl
  |some x=>
   obtain⟨t,n⟩:=x;show(Sem.frozen {block:=a.block,off:=n} _).runT P u es=_
   simp only[Sem.runT,zGc]
def KI (u:zW)(a b:Addr)(es:zE):(mayBeOne a b).runT P u es=(.ok (oH u a b) u,es):=by
 unfold mayBeOne;dsimp only;rw[bD,sS];dsimp only;rw[bD,sS];show(Sem.shape a.block _).runT P u es=_
 simp only[Sem.runT]
 show(Sem.shape b.block _).runT P u es=_
 simp only[Sem.runT]
 rfl
def BU (u:zW):Bool:=(Question.extern "sameAddr.stringBytes" 2).cut (u.tape u.drawn (.extern "sameAddr.stringBytes" 2))==1
def pP (u:zW){a b:Addr}(h:a.block≠b.block)(es:zE):(sameAddr a b).runT P u es=
  if(u.frozen? a&&u.frozen? b)=aE then(.halt (.unsupported .addressObserved) u,es)else
   match(noView a).runT P u es with
   |(.ok _ u1,c)=>match(noView b).runT P u1 c with
    |(.ok _ u2,e)=>if oH u2 a b=aE then(.ok (BU u2) {u2 with drawn:=u2.drawn+1},e)else(.ok aF u2,e)
    |(.halt h u2,e)=>(.halt h u2,e)
   |(.halt h u1,c)=>(.halt h u1,c):=by
 unfold sameAddr
 rw[zEl h]
 simp only[zBf,zDp]
 show(Sem.frozen a _).runT P u es=_
 simp only[Sem.runT]
 show(Sem.frozen b _).runT P u es=_
 simp only[Sem.runT]
 show Sem.runT P (if(u.frozen? a&&u.frozen? b)=aE then _ else _) u es=_
 cases(u.frozen? a&&u.frozen? b)with
 |true=>rfl
 |false=>
  simp only[zBf,zDp];rw[bD];cases(noView a).runT P u es with
  |mk r c=>
   cases r with
   |halt h u1=>rfl
   |ok _ u1=>
    dsimp only;rw[bD];cases(noView b).runT P u1 c with
    |mk r e=>
     cases r with
     |halt h u2=>rfl
     |ok _ u2=>
      dsimp only;rw[bD,KI];dsimp only;cases oH u2 a b with
      |true=>rfl
      |false=>rfl
def Bs (Q:zZ){o:Oper}{e:Operand->zY}{op:BinOp}{t:zD}{x y:Operand}{j:zD}(n:o.op= .binOp op t x y j)(f:op= .eql\/op= .neq){el:zD}{i:TypeInfo}(m:Q.underlying t=aA (.pointer el))(p:Q.info? el=aA i)(hs:i.size≠0)
  {a b:Addr} (l:e x= .pointer (aA a)) (k:e y= .pointer (aA b)) (u:zW) (es:zE):
  (execOp e o).runT Q u es=match(sameAddr a b).runT Q u es with
   |(.ok r u1,c)=>(.ok (.value (.bool (if op= .eql then r else !r))) u1,c)
   |(.halt h u1,c)=>(.halt h u1,c):=by
 have g:∀(u:zW)(es:zE),(Op.equal t (.pointer (aA a)) (.pointer (aA b))).runT Q u es=(sameAddr a b).runT Q u es:=λu es=>by
  unfold Op.equal;show(Op.equalIn (_+1) t (.pointer (aA a)) (.pointer (aA b))).runT Q u es=_
  unfold Op.equalIn
  rw[bD]
  have z:(underlying t).runT Q u es=(.ok (.pointer el) u,es):=by
   unfold underlying;show(match Q.underlying t with|some d=>pure d|none=>stuck "no such type":Sem TypeDesc).runT Q u es=_
   rw[m]
   rfl
  rw[z]
  dsimp only
  rw[bD]
  have s:(Go.sizeOf el).runT Q u es=(.ok i.size u,es):=by
   unfold Go.sizeOf;rw[bD];have q:(typeInfo el).runT Q u es=(.ok i u,es):=by
    unfold typeInfo;show(match Q.info? el with|some i=>pure i|none=>stuck _:Sem TypeInfo).runT Q u es=_
    rw[p]
    rfl
   rw[q]
   rfl
  rw[s]
  dsimp only
  rw[zAk hs]
 unfold execOp
 rw[n]
 dsimp only
 rw[l,k]
 obtain rfl|rfl:=f
 .show((do let v<-(do pure (.bool (<-Op.equal t (.pointer (aA a)) (.pointer (aA b)))):Sem zY);pure (.value v)):Sem Next).runT Q u es=_
  rw[bD,bD,g];cases(sameAddr a b).runT Q u es with
  |mk r c=>cases r<;>rfl
 .show((do let v<-(do pure (.bool (!(<-Op.equal t (.pointer (aA a)) (.pointer (aA b))))):Sem zY);pure (.value v)):Sem Next).runT Q u es=_
  rw[bD,bD,g];cases(sameAddr a b).runT Q u es with
  |mk r c=>cases r<;>rfl
end
section
variable {P:zZ}{Al:zF}{F:Kp}{π:Rn}{v w:zW}
def LZ {u:zW}{a:Addr}{es e:zE}(h:(noView a).runT P u es=(.ok () u,e))(i:zT)(d:Nat):(noView a).runT P (u.re i d) es=(.ok () (u.re i d),e):=by
 have k:∀u:zW,(noView a).runT P u es=match u.shape? a.block with
   |some _=>(.ok () u,es)
   |none=>match u.heap[a.block]? with
    |some (aI ..)=>(.halt (.stuck "getObj: a row of cells") u,es)
    |some (.view x t)=>(.halt (.unsupported (.unsafePointer "memory seen as another type")) u,es.push ⟨.obj a.block,aF,aF⟩)
    |some o=>(.ok () u,es.push ⟨.obj a.block,aF,o.isChan⟩)
    |none=>(.halt (.stuck "getObj: no such block") u,es):=λu=>by
  unfold noView viewAt
  rw[bD,bD]
  have p:(shape a.block).runT P u es=(.ok (u.shape? a.block) u,es):=rfl
  rw[p]
  dsimp only
  cases j:u.shape? a.block with
  |some x=>rfl
  |none=>
   have l:∀o,u.heap[a.block]? =aA o->(∀c t f,o≠aI c t f)->(getObj a.block).runT P u es=(.ok o u,es.push ⟨.obj a.block,aF,o.isChan⟩):=λo m n=>by unfold getObj;cases o<;>first|exact absurd rfl (n _ _ _)|(simp only[Sem.runT,m])
   simp only[Option.isSome_none,zBf,zDp]
   rw[bD]
   cases b:u.heap[a.block]? with
   |none=>
    have g:(getObj a.block).runT P u es=(.halt (.stuck "getObj: no such block") u,es):=by unfold getObj;simp only[Sem.runT,b]
    rw[g]
   |some o=>
    cases o with
    |cells c t f=>
     have g:(getObj a.block).runT P u es=(.halt (.stuck "getObj: a row of cells") u,es):=by unfold getObj;simp only[Sem.runT,b]
     rw[g]
    |_=>rw[l _ b (by simp)];rfl
 rw[k]at h⊢
 have l:(u.re i d).shape? a.block=u.shape? a.block:=rfl
 have g:(u.re i d).heap=u.heap:=rfl
 rw[l,g]
 cases j:u.shape? a.block with
 |some x=>rw[j]at h;dsimp only at h⊢;cases h;rfl
 |none=>
  rw[j]at h;dsimp only at h⊢;cases b:u.heap[a.block]? with
  |none=>rw[b]at h;cases h
  |some o=>cases o<;>rw[b]at h<;>dsimp only at h⊢<;>cases h<;>rfl
def oY (j:cB P Al F π v w){a a':Addr}(h:bV π a a')(hs:qV w a'=aE):qV v a=aE:=by
 unfold qV at hs⊢;obtain⟨c,c',ty,p,f,b,g2,g,n,m⟩|⟨_,o,b,g2,g⟩|⟨y,r,b,g2,g⟩:=j.blk _ _ h.1
 .by_cases hF:F a.block
  .obtain⟨e,i,_,q⟩:=n hF;obtain⟨lo,s⟩:=p;obtain⟨l,k⟩:=f;simp only[World.frozen?,World.shape?,g2,zDo,zBd,zBs]at hs;simp only[World.frozen?,World.shape?,b,zDo,zBd,zBs];simp only at e i q;have:=g.size;rw[h.2.1]at hs;left;omega
  .have:=m.1 hF;subst this;simp only[World.frozen?,World.shape?,g2,h.2.1,g.size]at hs;simp only[World.frozen?,World.shape?,b];exact hs
 .have e:w.frozen? a'=v.frozen? a:=by
   unfold World.frozen?;rw[b,g2];cases o<;>first|rfl|exact absurd rfl (g.1 _ _ _)
  have i:w.shape? a'.block=v.shape? a.block:=j.shape h.1;have d:v.shape? a.block=aB:=by unfold World.shape?;rw[b];cases o<;>first|rfl|exact absurd rfl (g.1 _ _ _)
  rw[e,i,d]at hs
  rw[d]
  exact hs
 .have e:w.frozen? a'=aF:=by
   unfold World.frozen?;rw[g2];cases g<;>rfl
  have d:w.shape? a'.block=aB:=by unfold World.shape?;rw[g2];cases g<;>rfl
  rw[e,d]at hs
  cases hs
def MZ (b:cB P Al F π v w){a a':Addr}(h:bV π a a'):bare w a'=bare v a:=by unfold bare;rw[b.shape h.1]
def SY (c:cB P Al F π v w){a a' b d:Addr}(h:bV π a a')(k:bV π b d)(hs:oH w a' d=aE):oH v a b=aE:=by
 unfold oH at hs⊢;simp only[zDo,zBd,MZ c h,MZ c k]at hs⊢;obtain(⟨x,y⟩|⟨x,y⟩)|⟨x,y⟩:=hs
 .exact aG (aG ⟨oY c h x,oY c k y⟩)
 .exact aG (aH ⟨oY c h x,y⟩)
 .exact aH ⟨oY c k x,y⟩
def DN (e:cB P Al F π v w){a a':Addr}(h:bV π a a')(hs:w.frozen? a'=aE):v.frozen? a=aE:=by
 obtain⟨c,c',ty,k,d,b,g2,g,j,s⟩|⟨_,o,b,g2,g⟩|⟨y,q,b,g2,g⟩:=e.blk _ _ h.1
 .by_cases hF:F a.block
  .obtain⟨p,n,_,m⟩:=j hF;obtain⟨lo,r⟩:=k;obtain⟨l,i⟩:=d;simp only[World.frozen?,g2,zBd,zBs]at hs;simp only[World.frozen?,b,zBd,zBs];simp only at p n m;rw[h.2.1]at hs;omega
  .rw[e.frozen h hF]at hs;exact hs
 .unfold World.frozen? at hs;rw[g2]at hs;cases o with
  |cells c t f=>exact absurd rfl (g.1 c t f)
  |_=>cases hs
 .unfold World.frozen? at hs;rw[g2]at hs;cases g<;>cases hs
def Ix (n:cB P Al F π v w){a a' b j:Addr}(h:bV π a a')(k:bV π b j)(l:a.block≠b.block)(es i:zE):
  (∃o f,(sameAddr a b).runT P v es=(.halt o v,f)/\Fatal o)\/
  ∃g d1 p r f z,(sameAddr a b).runT P (v.re g v.drawn) es=(.ok r (v.re g d1),f)/\(sameAddr a' j).runT P w i=(.ok r {w with drawn:=p},i++z)/\∀e∈z,nC F π e:=by
 have s:a'.block≠j.block:=λq=>l ((n.ok.inj h.1 k.1).2 q)
 rw[pP v l,pP w s]
 cases y:(v.frozen? a&&v.frozen? b)with
 |true=>exact aG ⟨_,_,rfl,by simp⟩
 |false=>
  have x:(w.frozen? a'&&w.frozen? j)=aF:=by
   cases E:w.frozen? a' with
   |false=>rfl
   |true=>
    cases D:w.frozen? j with
    |false=>rfl
    |true=>rw[DN n h E,DN n k D]at y;cases y
  rw[x]
  simp only[zBf,zDp]
  obtain⟨o,f,q1,u⟩|⟨f,d,q1,u,A⟩:=rD n h es i
  .rw[q1];exact aG ⟨o,f,rfl,u⟩
  obtain⟨o,c,r1,r2⟩|⟨c,p,r1,r2,r3⟩:=rD n k f (i++d)
  .rw[q1];dsimp only;rw[r1];exact aG ⟨o,c,rfl,r2⟩
  right
  rw[u]
  dsimp only
  rw[r2]
  dsimp only
  have m:∀e∈d++p,nC F π e:=λe C=>(zEq.1 C).elim (A e) (r3 e)
  have run:∀g,(sameAddr a b).runT P (v.re g v.drawn) es=if oH v a b=aE then(.ok (BU (v.re g v.drawn)) (v.re g (v.drawn+1)),c)else(.ok aF (v.re g v.drawn),c):=λg=>by rw[pP (v.re g v.drawn) l];have G:((v.re g v.drawn).frozen? a&&(v.re g v.drawn).frozen? b)=aF:=y;rw[G];simp only[zBf,zDp];rw[LZ q1 g v.drawn];dsimp only;rw[LZ r1 g v.drawn];rfl
  cases hm:oH v a b with
  |false=>
   have t:oH w a' j=aF:=by
    cases B:oH w a' j with
    |false=>rfl
    |true=>rw[SY n h k B]at hm;cases hm
   refine⟨v.tape,v.drawn,w.drawn,aF,c,d++p,?_,?_,m⟩
   .rw[run,hm];rfl
   .rw[t,<-zEx];rfl
  |true=>
   cases t:oH w a' j with
   |false=>
    refine⟨λ_ _=>0,v.drawn+1,w.drawn,aF,c,d++p,?_,?_,m⟩
    .rw[run,hm];rfl
    .rw[<-zEx];rfl
   |true=>
    refine⟨λ_=>w.tape w.drawn,v.drawn+1,w.drawn+1,BU w,c,d++p,?_,?_,m⟩
    .rw[run,hm];rfl
    .rw[<-zEx];rfl
def tY {Q:zZ}{fr:zC}{cs:zL}{s:Sem Next}{u u1:zW}{a:zE}{y:zY}(h:s.runT Q u #[]=(.ok (.value y) u1,a)):
  ∃c,stepG.apply Q aE fr cs aB s u= .go (G (fr.finish y) cs) u1 c/\∀e∈c,e∈a:=by
 unfold stepG.apply
 simp only[zDf]
 rw[h]
 refine⟨_,rfl,λe b=> ?_⟩
 simp only[zDn,zCm]at b
 have:=Go.Conc.mem_seen b
 split at this
 .simp at this
 .exact this
def Mc {fs:Array Func}{fr fr':zC}{own own':zL}(O:VP P Al F π fr own v fr' own' w)(hq:¬pX P F fr)(Qo:∀J d,∃g1 w1 es,stepG P aE (G fr (own++[])) (v.re J d)= .go g1 w1 es):
  ∃J d d1 d2 x,Flat x/\(∀g cs,∃es,stepG P g (G fr (own++cs)) (v.re J d)= .go (G (fr.finish x) (own++cs)) (v.re J d1) es)/\
   ∀g cs,∃es,stepG ⟨P.toTables,fs⟩ g (G fr' (own'++cs)) w= .go (G (fr'.finish x) (own'++cs)) {w with drawn:=d2} es/\∀e∈es,nC F π e:=by
 unfold pX at hq
 simp only[zFn]at hq
 obtain⟨hm,ops,j,rest,k,o,Y,M,N⟩:=hq
 unfold PV at N
 simp only[zFn,not_or]at N
 obtain⟨op,t,x,y,yt,A,s,Z,jq,q⟩:=N
 have gp:=O.world.ok
 have Hj:=λx hx=>O.frame.eval gp x hx
 have R:iZ P Al F (aM ops (j::rest)):=O.frame.items _ (by rw[Y];exact zAz)
 obtain⟨p,I⟩:=R o (zBc M)
 rw[A]at I p
 obtain h|h|h|⟨el,i,hu,hi,hs⟩:=I.2
 .exfalso;obtain h|h:=h
  .exact s.1 h
  .obtain⟨z,hz⟩:=s.2;exact hz (h z)
 .exact absurd h Z
 .exact absurd h jq
 have H:op= .eql\/op= .neq:=by
  by_cases h1:op= .eql
  .exact aG h1
  .by_cases h2:op= .neq
   .exact aH h2
   .exact absurd ⟨h1,h2⟩ Z
 unfold uC at q
 simp only[not_and,zFn]at q
 obtain⟨a,b,W,U,Wr⟩:=q ⟨el,hu⟩
 have L:=Hj x (p x (by simp[Op.operands]))
 have K:=Hj y (p y (by simp[Op.operands]))
 rw[W]at L
 rw[U]at K
 obtain⟨a',V,ha⟩:∃a',fr'.eval x= .pointer (aA a')/\bV π a a':=by
  generalize fr'.eval x=z at L;cases L with
  |pointer hp=>cases hp with
   |some h=>exact⟨_,rfl,h⟩
 obtain⟨b',T,hb⟩:∃b',fr'.eval y= .pointer (aA b')/\bV π b b':=by
  generalize fr'.eval y=z at K;cases K with
  |pointer hp=>cases hp with
   |some h=>exact⟨_,rfl,h⟩
 have nu:fr'.mode= .run:=by have:=O.frame.mode;rw[hm]at this;generalize fr'.mode=m at this;cases this;rfl
 have X:fr'.todo=aM ops (j::rest)::k:=by rw[O.frame.todo];exact Y
 have S:∀(Q:zZ)(f:zC)(g:Bool)(c:zL)(u:zW),f.mode= .run->f.todo=aM ops (j::rest)::k->stepG Q g (G f c) u=if(Region.wanted o (yielded ops f.tmps))=aE then stepG.apply Q aE f c aB (execOp f.eval o) u else .go (G (f.finish undef) c) u:=λQ f g c u h1 h2=>by
  obtain⟨fn,tmps,todo,defers,mode,kind,round⟩:=f;dsimp only at h1 h2;subst h1;subst h2;show stepG.exec Q g aE ⟨fn,tmps,aM ops (j::rest)::k,defers,.run,kind,round⟩ c aB u=_
  have S:stepG.exec Q g aE ⟨fn,tmps,aM ops (j::rest)::k,defers,.run,kind,round⟩ c aB u=
    if(((ops[j]?).map (Region.wanted · (yielded ops tmps))).getD aF)=aE then stepG.oper Q aE ⟨fn,tmps,aM ops (j::rest)::k,defers,.run,kind,round⟩ c aB u
    else .go (G (Frame.finish ⟨fn,tmps,aM ops (j::rest)::k,defers,.run,kind,round⟩ undef) c) u:=rfl
  rw[S,M]
  simp only[zAx,zCc]
  have e2:stepG.oper Q aE ⟨fn,tmps,aM ops (j::rest)::k,defers,.run,kind,round⟩ c aB u=stepG.apply Q aE ⟨fn,tmps,aM ops (j::rest)::k,defers,.run,kind,round⟩ c aB (execOp (Frame.eval ⟨fn,tmps,aM ops (j::rest)::k,defers,.run,kind,round⟩) o) u:=by unfold stepG.oper;simp only[Frame.oper?,M,A]
  rw[e2]
 have ey:yielded ops fr'.tmps=yielded ops fr.tmps:=funext (mG O.frame.tmps ops)
 cases l:Region.wanted o (yielded ops fr.tmps)with
 |false=>
  refine⟨v.tape,v.drawn,v.drawn,w.drawn,undef,λAl π=>eQ,λg cs=>⟨#[],?_⟩,λg cs=>⟨#[],?_,by simp⟩⟩
  .rw[S P fr g _ _ hm Y,l];rfl
  .rw[S _ fr' g _ _ nu X,ey,l];rfl
 |true=>
  have hw:=O.world;have hr:∀(u:zW)(es:zE),(execOp fr.eval o).runT P u es=_:=λu es=>Bs P A H hu hi hs W U u es;have vi:∀(u:zW)(es:zE),(execOp fr'.eval o).runT ⟨P.toTables,fs⟩ u es=_:=λu es=>Bs ⟨P.toTables,fs⟩ A H hu hi hs V T u es;obtain⟨hl,Zo,q1,q2⟩|⟨J,d1,d2,r,Zo,dd,q1,q2,q3⟩:=Ix hw ha hb Wr #[] #[]
  .exfalso;obtain⟨g1,w1,B,D⟩:=Qo w.tape w.drawn;rw[S P fr aE _ _ hm Y,l]at D;simp only[zDf]at D;have n:=hr (v.re w.tape w.drawn) #[];rw[q1]at n;obtain⟨o2,u2,es3,q5⟩:=mW (P:=P) (fr:=fr) (C:=own++[]) n q2;rw[q5]at D;cases D
  .have n:=hr ((v.re w.tape w.drawn).re J (v.re w.tape w.drawn).drawn) #[];rw[q1]at n;have E:=vi w #[];rw[DI (P:=P) (fs:=fs) a' b',q2]at E;refine⟨J,w.drawn,d1,d2,.bool (if op= .eql then r else !r),λAl π=> .bool _,λg cs=> ?_,λg cs=> ?_⟩
   .obtain⟨B,D,_⟩:=tY (fr:=fr) (cs:=own++cs) n;refine⟨B,?_⟩;rw[S P fr g _ _ hm Y,l];exact D
   .obtain⟨B,D,q5⟩:=tY (fr:=fr') (cs:=own'++cs) E;refine⟨B,?_,λe he=>q3 e (by simpa using q5 e he)⟩;rw[S _ fr' g _ _ nu X,ey,l];exact D
end
section
variable {P:zZ}{Al:zF}{K:Kp}{fs:Array Func}{R:zR}
def TL (t:Shape P fs)(g:K.rG=aB){π:Rn}{fr fr':zC}{own':zL}{v w:zW}(h:VP P Al K π fr [] v fr' own' w){x:zY}(S:∀L d,fr.leaving P (v.re L d) (aL x))(i:fs[fr.fn]? =P.funcs[fr.fn]?)(mn:Bool)(c:zC)(cs:zL):
  stepG ⟨P.toTables,fs⟩ mn (G fr' (own'++c::cs)) w=stepG P mn (G fr' (own'++c::cs)) w:=by
 obtain⟨q1,Q,O,fn,H,N⟩:=S w.tape w.drawn
 have U:=h.world.ok
 have s:fr'.mode= .returning:=by have:=h.frame.mode;rw[q1]at this;generalize fr'.mode=m at this;cases this;rfl
 have E:fr'.defers=[]:=by have:=h.frame.defers;rw[Q]at this;generalize fr'.defers=l at this;cases this;rfl
 have D:fr'.kind= .normal:=by rw[h.frame.kind];exact O
 have A:P.funcs[fr'.fn]? =aA fn:=by rw[h.frame.fn];exact H
 have z:(⟨P.toTables,fs⟩:zZ).funcs[fr'.fn]? =aA fn:=by
  show fs[fr'.fn]? =aA fn
  rw[h.frame.fn,i];exact H
 have q:own'=[]:=by cases h.own;rfl
 subst q
 have k:((results fn fr.tmps).runT P (v.re w.tape w.drawn) #[]).1= .ok x (v.re w.tape w.drawn):=by rw[Sem.runT_fst];exact N
 obtain⟨f,u,B,e,_⟩|e:=(iO (P:=P) (Al:=Al) (F:=K) fn h.frame.tmps).blind t g _ w #[] #[] h.world
 .rw[e]at k;cases k
 .have o:∀p:zZ,p.funcs[fr'.fn]? =aA fn->stepG p mn (G fr' ([]++c::cs)) w=GStep.after (seen p fr'.fn ((results fn fr'.tmps).runT p w #[]).2) (match((results fn fr'.tmps).runT p w #[]).1 with
    | .ok y w1=> .go (G (c.finish y) cs) w1
    | .halt _ w1=> .ended (.stuck "results" (fr'.pos p)) w1)\/∃f w1,((results fn fr'.tmps).runT p w #[]).1= .halt f w1:=λp T=>by
   cases C:(results fn fr'.tmps).runT p w #[]with
   |mk r es=>
    cases r with
    |halt f w1=>exact aH ⟨f,w1,rfl⟩
    |ok y w1=>
     left;have Y:stepG p mn (G fr' ([]++c::cs)) w=unwind p mn fr' (c::cs) aB w:=by simp only[stepG,G,s,zCl]
     rw[Y]
     unfold unwind
     rw[E]
     dsimp only
     rw[s]
     dsimp only
     rw[T]
     dsimp only
     rw[C]
     dsimp only
     unfold doReturn
     rw[D]
     rfl
  have j:∀f w1,((results fn fr'.tmps).runT P w #[]).1≠.halt f w1:=λf w1 J=>by
   obtain(⟨f,v',B,X,_⟩|⟨⟨n,I,_⟩,_⟩)|⟨Z,v1,M,B,dd,h1,h2,h3,W⟩:=(iO (P:=P) (Al:=Al) (F:=K) fn h.frame.tmps).runT _ w #[] #[] h.world
   .rw[X]at k;cases k
   .rw[g]at I;cases I
   .obtain⟨a,b,r1,r2,V⟩|⟨y,y',r1,r2,hy⟩:=W
    .rw[r2]at J;cases J
    .rw[r1]at k;cases k
  obtain k1|⟨f,w1,k1⟩:=o P A
  .obtain k2|⟨f,w1,k2⟩:=o _ z
   .rw[k1,k2,e,eU t];cases C:((results fn fr'.tmps).runT P w #[]).1 with
    |ok y w1=>rfl
    |halt f w1=>exact absurd C (j f w1)
   .rw[e]at k2;exact absurd k2 (j f w1)
  .exact absurd k1 (j f w1)
def Rr (P:zZ)(fs:Array Func)(Al:zF)(R:zR)(main:Bool)(c:zC)(cs:zL)(rd rw:zP)(g:zH)(w:zW):Prop:=
 g.status= .running/\∃x a v d b,R x v/\bG Al d x a/\stepG ⟨P.toTables,fs⟩ main g w= .go (G (c.finish a) cs) w b/\(∀e∈b,VU rd rw e)
def ZM (j:K.rG=aB)(B:cJ P Al K)(B0:cJ P Al K0)(Yx:Shape P fs)
  (vv:∀f xs own v D,Al f->fs[f]?≠P.funcs[f]?->Closed P Al D (Frame.enter P f xs .normal) own v->CE (Frame.enter P f xs .normal) own->Ends P Al (iK P R) (Frame.enter P f xs .normal) own v->False)
  {J:zW->Prop} {main:Bool} {c:zC} {cs:zL} {fr:zC} {own:zL} {v:zW} (h:Ends P Al (iK P R) fr own v):
  ∀{T:Rn}{E:zC}{i:zL}{w:zW}{rd rw:zP}{D:zP},VP P Al K T fr own v E i w->Closed P Al D fr own v->CE fr own->(∀x∈fr::own,fs[x.fn]? =P.funcs[x.fn]?)->(∀b l,T b l->(K b/\rd l)\/(¬K b/\rw l))->
   ∃tr,cX ⟨P.toTables,fs⟩ main J (Rr P fs Al R main c cs) tr rd rw (G E (i++c::cs)) w:=by
 induction h with
 | @stop fr own v h=>intro T E i w rd rw D hk Ku ht A O;obtain⟨e,x,hx,hr⟩:=h;subst e;refine⟨.leaf,λa r _=> ?_⟩;have g:=hk.rely j (w₁:=a) ⟨λb l H=>r.dF l ((O b l H).elim (λy=>aG y.2) λy=>aH y.2),r.size,r.os⟩;obtain⟨x',es,g1,g2,Q,g4⟩:=g.leave j hx main c cs;exact⟨rfl,x,x',v,T,es,by have:=hr v.tape v.drawn;rwa [kV]at this,g1,(TL Yx j g hx (A fr (by simp)) main c cs).trans Q,λe he=>YT O (g4 e he)⟩
 | @step fr own v m F Ku W yj ih=>
  intro T E i w rd rw D hk M ht A O;refine cX.step rfl λa r _=> ?_;have g:=hk.rely j (w₁:=a) ⟨λb l H=>r.dF l ((O b l H).elim (λy=>aG y.2) λy=>aH y.2),r.size,r.os⟩;by_cases hq:pX P K fr;rotate_left
  .obtain⟨s,d,d1,d2,x,hx,q1,q2⟩:=Mc (fs:=fs) g hq λs d=>let⟨es,e⟩:=W s d [] aE;⟨_,_,es,e⟩;obtain⟨Zp,C⟩:=W s d [] aE;obtain⟨Zo,S⟩:=q1 aE [];rw[C]at S;have a1:(F s d).1=fr.finish x:=by injection S with e _ _;exact congrArg Goroutine.frame e
   have a2:(F s d).2.1=own:=by injection S with e _ _;exact zDt (congrArg Goroutine.callers e)
   have a3:(F s d).2.2=v.re s d1:=by injection S
   obtain⟨Zn,e2,Hj⟩:=q2 main (c::cs)
   refine⟨_,_,Zn,e2,⟨λb H hn=>rfl,zAa _,rfl,rfl,rfl⟩,λe he=>YT (λb l H=>(O b l H).imp id λy=>⟨y.1,aG y.2⟩) (Hj e he),?_⟩
   have Z:∀b,¬K0 b:=λb h=>h
   have n:=C
   rw[zAy,zAy]at n
   have N:=wG B0 (fr:=fr) (own:=own) (w:=v.re s d) (D:=D) ⟨M.frame,M.own,jV M.world Z _ _ _ _ (λ_ _=>rfl),M.nj⟩ ht m n
   obtain⟨D1,I⟩:=Ku s d
   have Uq:=iV fr x
   have t:∀z∈(F s d).1::(F s d).2.1,fs[z.fn]? =P.funcs[z.fn]? :=by
    intro z hz;rw[a1,a2]at hz;obtain rfl|hz:=zAg.1 hz
    .rw[Uq.1];exact A fr (by simp)
    .exact A z (zBe _ hz)
   have il:VP P Al K T (F s d).1 (F s d).2.1 (F s d).2.2 (E.finish x) i {a with drawn:=d2}:=by rw[a1,a2,a3];exact⟨g.frame.finish (hx Al T),g.own,⟨g.world.ok,g.world.blk,λk _=>rfl,g.world.fresh,g.world.low,g.world.os,g.world.rows⟩⟩
   exact ih s d il I (N.Tt ht) t λb l H=>(O b l H).imp id λy=>⟨y.1,aG y.2⟩
  obtain⟨Zp,C⟩:=W a.tape a.drawn [] aE;obtain⟨ρ,L,U,w1,es,g1,g2,Q,g4⟩:=g.step j B m (y:=F a.tape a.drawn) ⟨Zp,C⟩ main (c::cs) hq (kB M.nj.2);have h2:∀b l,ρ b l->(K b/\rd l)\/(¬K b/\grown rw a w1 l):=λb l H=>by
   obtain x|⟨x1,x2,x3⟩:=Q.sF b l H
   .exact(O b l x).imp id λy=>⟨y.1,aG y.2⟩
   .right;refine⟨λhK=> ?_,aH ⟨x2,x3⟩⟩;have:=g.world.fresh b hK;simp only[World.re]at x1 this;omega
  have Z:∀b,¬K0 b:=λb h=>h
  have n:=C
  rw[zAy,zAy]at n
  have N:=wG B0 (fr:=fr) (own:=own) (w:=v.re a.tape a.drawn) (D:=D) ⟨M.frame,M.own,jV M.world Z _ _ _ _ (λ_ _=>rfl),M.nj⟩ ht m n
  obtain⟨D1,I⟩:=Ku a.tape a.drawn
  have V:=N.Tt ht
  have t:∀x∈(F a.tape a.drawn).1::(F a.tape a.drawn).2.1,fs[x.fn]? =P.funcs[x.fn]? :=by
   obtain x|⟨f,xs,ha,Y,S,e2⟩:=N.fns (p:=λf=>fs[f]? =P.funcs[f]?) A
   .exact x
   .exfalso;have hE:=yj a.tape a.drawn;rw[S]at hE I V;exact vv f xs _ _ D1 ha Y I V hE
  have X:stepG ⟨P.toTables,fs⟩ main (G E (i++c::cs)) a= .go (G L (U++c::cs)) w1 es:=by
   obtain⟨o,u,Zn,e⟩|e|⟨f,xs,k,callers,ta,cq,pk,q1,q2,Y⟩:=wH (cs:=[]) (cs':=c::cs) B Yx j g.world g.frame (A fr (by simp)) g.own m aE main hq (kB M.nj.2)
   .rw[C]at e;cases e
   .rw[e,g1]
   .exfalso;rw[g1]at q1;have S:L=Frame.enter P f xs k:=by
     injection q1 with q _ _;exact congrArg Goroutine.frame q
    have e2:L.fn=f:=by
     rw[S];unfold Frame.enter;cases P.funcs[f]? with
     |none=>rfl
     |some fn=>cases fn.body<;>rfl
    have e3:=t (F a.tape a.drawn).1 (by simp)
    rw[<-g2.frame.fn,e2]at e3
    exact Y e3
  refine⟨_,w1,es,X,⟨λb H hn=> ?_,Q.size,Q.tape,Q.os,Q.out⟩,λe he=>YT h2 (g4 e he),ih a.tape a.drawn g2 I V t h2⟩
  refine Q.still b H λb0 pg=> ?_
  obtain⟨x,_⟩|⟨_,x⟩:=O b0 b pg
  .exact x
  .exact absurd x hn
end
abbrev VM:Type:=zC×zL×zW
section
variable {P:zZ}{Al:zF}{S:zS}
def One (P:zZ)(S:zS)(x y:VM):Prop:=
 ¬S y.1 y.2.1 y.2.2/\(y.1.mode= .run\/y.1.defers≠[]\/y.2.1≠[])/\∃a d m e,stepG P m (G y.1 y.2.1) (y.2.2.re a d)= .go (G x.1 x.2.1) x.2.2 e
inductive Sub (P:zZ)(S:zS):VM->VM->Prop
 |one {x y:VM} (h:One P S x y):Sub P S x y
 |more {x y z:VM} (h:One P S x y) (k:Sub P S y z):Sub P S x z
def Sub.trans {x y z:VM}(h:Sub P S x y)(k:Sub P S y z):Sub P S x z:=by
 induction h with
 |one h=>exact .more h k
 |more h _ i=>exact .more h (i k)
def Ends.acc {fr:zC}{own:zL}{v:zW}(h:Ends P Al S fr own v):Acc (One P S) (fr,own,v):=by
 induction h with
 |stop h=>exact⟨_,λy f=>absurd h f.1⟩
 | @step fr own v b n q g p i=>
  refine⟨_,λy ⟨_,_,a,d,m,es,c⟩=> ?_⟩;obtain⟨j,e⟩:=g a d [] m;dsimp only at c;rw[zAy,zAy,c]at e;have o:y.1=(n a d).1:=by injection e with e _ _;exact congrArg Goroutine.frame e
  have l:y.2.1=(n a d).2.1:=by injection e with e _ _;exact congrArg Goroutine.callers e
  have k:y.2.2=(n a d).2.2:=by injection e
  have:=i a d
  rw[<-o,<-l,<-k]at this
  exact this
def Rl {x:VM}(h:Acc (One P S) x):Acc (Sub P S) x:=by
 induction h with
 |intro x _ f=>
  refine⟨_,λy e=> ?_⟩;have d:∀{y z:VM},Sub P S y z->(∀y,One P S y z->Acc (Sub P S) y)->Acc (Sub P S) y:=by
   intro y z e;induction e with
   |one h=>exactλk=>k _ h
   | @more a b c h hb i=>exactλk=>(i k).inv (.one h)
  exact d e λy h=>f y h
def Ends.ind {M:zS}(e:∀fr own v,Ends P Al S fr own v->(∀fr1 own1 v1,Sub P S (fr1,own1,v1) (fr,own,v)->Ends P Al S fr1 own1 v1->M fr1 own1 v1)->M fr own v){fr:zC}{own:zL}{v:zW}(h:Ends P Al S fr own v):M fr own v:=by
 have k:∀x:VM,Acc (Sub P S) x->Ends P Al S x.1 x.2.1 x.2.2->M x.1 x.2.1 x.2.2:=λx b=>by
  induction b with
  |intro x _ i=>exactλd=>e _ _ _ d λfr1 own1 v1 c a=>i (fr1,own1,v1) c a
 exact k (fr,own,v) (Rl h.acc) h
def Lone.Ij (L:∀K:Kp,(∀b,¬K b)->cJ P Al K){T:zS}{cs:zL}(B:∀fr l v,(fr.mode= .run\/fr.defers≠[]\/l≠[])->¬T fr (l++cs) v){fr:zC}{l:zL}{u:zW}(h:Lone P [aY] S fr l u):
  ∀{D:zP},Closed P Al D fr l u->Ends P Al T fr (l++cs) u->∃f d u2 D2,S f d u2/\Closed P Al D2 f d u2/\(∀b,D b->D2 b)/\Ends P Al T f (d++cs) u2/\((f,d++cs,u2)=(fr,l++cs,u)\/Sub P T (f,d++cs,u2) (fr,l++cs,u)):=by
 induction h with
 | @stop fr l u h=>exactλr n=>⟨fr,l,u,_,h,r,λ_ x=>x,n,aG rfl⟩
 | @step fr k l w u u1 O a A h H=>
  intro D r n;obtain⟨o,w1,O,g⟩|⟨f,d,v2,M,D2,g,p,I,m,i,j⟩:=kE (cs:=[aY]) L r a aE u.tape u.drawn
  .rw[kV,A]at g;cases g
  .rw[kV,A]at g;have W:k=f:=by injection g with e _ _;exact congrArg Goroutine.frame e
   have V:w=d:=by injection g with e _ _;exact zDt (congrArg Goroutine.callers e)
   have U:u1=v2:=by injection g
   subst W;subst V;subst U
   obtain⟨N,s⟩:=j u.tape u.drawn cs aE (λ_ _=>rfl)
   have R:u1.re u.tape (u.drawn+(u1.drawn-u.drawn))=u1:=by
    have Q:u.drawn+(u1.drawn-u.drawn)=u1.drawn:=by omega
    rw[Q,<-m]
    rfl
   rw[R]at s
   have c:One P T (k,w++cs,u1) (fr,l++cs,u):=⟨B _ _ _ a,a.imp id λx=>x.imp id λy z=>y (List.append_eq_nil_iff.1 z).1,_,_,_,_,s⟩
   obtain⟨t,G,u3,D3,q1,F,E,C,q⟩:=H p (n.next (B _ _ _ a) s)
   refine⟨t,G,u3,D3,q1,F,λb J=>E b (i b J),C,aH ?_⟩
   obtain e|q:=q
   .rw[e];exact .one c
   .exact q.trans (.one c)
end
end Go.Ren
