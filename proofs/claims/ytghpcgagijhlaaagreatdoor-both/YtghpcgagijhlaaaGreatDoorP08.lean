import Derived.Conc.Beside
import Derived.Conc.CrowdTrace
import Derived.Test.YtghpcgagijhlaaaGreatDoorP07
set_option linter.all false
set_option maxRecDepth 100000
set_option maxHeartbeats 16000000
open Option renaming some->aA,none->aB
open Bool renaming true->aE,false->aF
open Or renaming inl->aG,inr->aH
open Go.Ending renaming returned->aL
open Go.Item renaming inRegion->aM
open Go.Trace renaming g?->aCK
namespace Go
abbrev zGo:=@Go.Conc.QuitsD.value
abbrev zGp:=@Go.RowKit.Below.refl
abbrev zGq:=@Go.wpList_load_row
abbrev zGs:=@Go.wpList_store_row
abbrev zGy:=@Go.cell_of_row
abbrev zGz:=@Go.ByteArray.toList_eq
abbrev zHa:=@Go.RowKit.Below.heap_setCell
abbrev zHf:=@Go.setRow_heap
abbrev zHg:=@Go.ConcN.sumTo_congr
abbrev zHh:=@Go.heap_alloc_new
abbrev zHj:=@Go.results_cell_row
abbrev zHl:=@Go.size_zeroCells
abbrev zb (w w':World):Prop:=Go.RowKit.Below w.heap.size w w'
end Go
namespace Go.Ren
def GM {info:zD->Option TypeInfo}{d:TypeDesc}{i:TypeInfo}(h:Made.reckon info d=aA i):i.methods= #[]:=by
 cases d with
 |struct f=>unfold Made.reckon Made.reckonStruct at h;simp only[bind,zDa,pure]at h;obtain⟨_,_,h⟩:=h;split at h<;>(cases h;rfl)
 |pointer e=>
  simp only[Made.reckon,bind,zDa]at h;obtain⟨j,_,h⟩:=h;split at h
  .cases h
  .split at h
   .cases h
   .simp only[zDa,pure]at h;obtain⟨_,_,h⟩:=h;cases h;rfl
  .simp only[zDa,pure]at h;obtain⟨_,_,h⟩:=h;cases h;rfl
 |slice e=>simp only[Made.reckon,bind,zDa,pure]at h;obtain⟨_,_,_,_,h⟩:=h;cases h;rfl
 |map k e=>simp only[Made.reckon,bind,zDa,pure]at h;obtain⟨_,_,_,_,_,_,_,_,h⟩:=h;cases h;rfl
 |chan dir e=>simp only[Made.reckon,bind,zDa,pure]at h;obtain⟨_,_,_,_,h⟩:=h;cases h;rfl
 |func p rs v=>simp only[Made.reckon,bind,zDa,pure]at h;obtain⟨_,_,h⟩:=h;cases h;rfl
 |array n e=>simp only[Made.reckon,bind,zDa,pure]at h;obtain⟨_,_,_,_,h⟩:=h;cases h;rfl
 |_=>simp[Made.reckon]at h
def Be {P:zZ}{t:zD}{i:TypeInfo}{m:Method}{s:String}(h:P.info? t=aA i)(b:i.methods.find? (·.name==s)=aA m):t<P.types.size:=by
 by_cases a:t<P.types.size
 .exact a
 .exfalso;unfold Tables.info? at h;rw[zAh a]at h;show False
  unfold Made.depth at h;unfold Made.infoAt at h;rw[zAh a]at h;obtain⟨d,_,c⟩:=zDa.1 h;rw[GM c]at b;cases b
open Go.Conc (G)
section
variable {P:zZ}{Al:zF}{S:zS}{fr fr1:zC}{own own1:zL}{v v1:zW}
def Ends.next (h:Ends P Al S fr own v)(c:¬S fr own v){a:zT}{d:Nat}{mn:Bool}{es:zE}(hs:stepG P mn (G fr own) (v.re a d)= .go (G fr1 own1) v1 es):Ends P Al S fr1 own1 v1:=by
 cases h with
 |stop h=>exact absurd h c
 |step b n m g f=>
  obtain⟨i,e⟩:=g a d [] mn;rw[zAy,zAy,hs]at e;have l:fr1=(n a d).1:=by injection e with e _ _;exact congrArg Goroutine.frame e
  have k:own1=(n a d).2.1:=by injection e with e _ _;exact congrArg Goroutine.callers e
  have j:v1=(n a d).2.2:=by injection e
  rw[l,k,j]
  exact f a d
def Ends.re (h:Ends P Al S fr own v)(e:∀fr own v b d,S fr own v->S fr own (v.re b d))(b:zT)(d:Nat):Ends P Al S fr own (v.re b d):=by
 cases h with
 |stop h=>exact .stop (e _ _ _ b d h)
 |step a n i g f=>exact .step a n i (λc j cs m=>g c j cs m) f
def Lone.through (F:∀K:Kp,(∀b,¬K b)->cJ P Al K){T:zS}{cs:zL}(E:∀fr l v,(fr.mode= .run\/fr.defers≠[]\/l≠[])->¬T fr (l++cs) v){l:zL}{u:zW}(h:Lone P [aY] S fr l u):
  ∀{D:zP},Closed P Al D fr l u->Ends P Al T fr (l++cs) u->∃f d u2 D2,S f d u2/\Closed P Al D2 f d u2/\(∀b,D b->D2 b)/\Ends P Al T f (d++cs) u2:=by
 induction h with
 | @stop fr l u h=>exactλn k=>⟨fr,l,u,_,h,n,λ_ x=>x,k⟩
 | @step fr fr1 l z u u1 I a q h A=>
  intro D n k;obtain⟨o,w1,I,c⟩|⟨f,d,v2,G,D2,c,m,B,j,g,i⟩:=kE (cs:=[aY]) F n a aE u.tape u.drawn
  .rw[kV,q]at c;cases c
  .rw[kV,q]at c;have O:fr1=f:=by injection c with e _ _;exact congrArg Goroutine.frame e
   have N:z=d:=by injection c with e _ _;exact zDt (congrArg Goroutine.callers e)
   have M:u1=v2:=by injection c
   subst O;subst N;subst M
   obtain⟨H,r⟩:=i u.tape u.drawn cs aE (λ_ _=>rfl)
   have L:u1.re u.tape (u.drawn+(u1.drawn-u.drawn))=u1:=by
    have J:u.drawn+(u1.drawn-u.drawn)=u1.drawn:=by omega
    rw[J,<-j]
    rfl
   rw[L]at r
   obtain⟨p,y,u3,D3,q1,w,t,s⟩:=A m (k.next (E _ _ _ a) r)
   exact⟨p,y,u3,D3,q1,w,λb C=>t b (g b C),s⟩
def oS {R:zR}{E:List PanicEntry->zW->Prop}{l cs:zL}(hs:fr.mode= .run\/fr.defers≠[]\/l≠[]):¬AtEnd P R E fr (l++cs) v:=by
 intro h;have k:∀(m:FrameMode),m≠.run->fr.mode=m->fr.defers=[]->l++cs=[]->False:=λm d j i g=>by
  obtain x|x|x:=hs
  .exact d (j.symm.trans x)
  .exact x i
  .exact x (List.append_eq_nil_iff.1 g).1
 obtain⟨a,x,b,_⟩|⟨a,f,c,e,_⟩:=h
 .have:=b v.tape v.drawn;exact k _ (by simp) this.1 this.2.1 a
 .exact k _ (by simp) e f a
def Ends.panics {R:zR}{E:List PanicEntry->zW->Prop}{c:List PanicEntry}:∀(own:zL)(fr:zC)(v:zW),Ends P Al (AtEnd P R E) fr own v->fr.mode= .panicking c->fr.defers=[]->fr.catches P=aF->
  (∀g∈own,g.mode= .run/\g.defers=[]/\g.catches P=aF)->∀a d,E c (v.re a d)
 |[],fr,v,h,hm,j,k,_,a,d=>by
  cases h with
  |stop h=>
   obtain⟨_,x,n,_⟩|⟨_,_,c',l,q⟩:=h
   .have:=(n a d).1;rw[hm]at this;cases this
   .rw[hm]at l;cases l;exact q a d
  |step f=>
   obtain e|e|e:=f
   .rw[hm]at e;cases e
   .exact absurd j e
   .exact absurd rfl e
 |g::rest,fr,v,h,hm,j,k,b,a,d=>by
  obtain⟨s,g2,r⟩:=b g (by simp);have o:stepG P aE (G fr (g::rest)) (v.re a d)= .go (G (g.raise c) rest) (v.re a d) #[]:=by simp only[stepG,G,hm,unwind,j,k,zBf,zDp]
  have i:(g.raise c).mode= .panicking c/\(g.raise c).defers=[]/\(g.raise c).catches P=aF:=by unfold Frame.raise;rw[s];exact⟨rfl,g2,by rw[<-r];rfl⟩
  have p:Ends P Al (AtEnd P R E) (g.raise c) rest (v.re a d):=h.next (λx=>by
   obtain x|x:=x
   .cases x.1
   .cases x.1) o
  have:=Ends.panics rest (g.raise c) (v.re a d) p i.1 i.2.1 i.2.2 (λy m=>b y (zBe _ m)) a d
  exact this
end
structure CE (fr:zC)(own:zL):Prop where
 d:fr.defers=[]
 k:fr.kind= .normal
 up:∀g∈own,g.mode= .run/\g.defers=[]/\g.kind= .normal
inductive jT (P:zZ)(Al:zF)(fr:zC)(own:zL):zH->Prop
 |same {fr1:zC} (hf:fr1.fn=fr.fn) (hd:fr1.defers=fr.defers) (hk:fr1.kind=fr.kind):jT P Al fr own (G fr1 own)
 |enter {f:zN} (ha:Al f) (xs:zA) (hm:fr.mode= .run) (hz:xs.size<=20):jT P Al fr own (G (Frame.enter P f xs .normal) (fr::own))
 |back {g g1:zC} {rest:zL} (ho:own=g::rest) (hf:g1.fn=g.fn) (hd:g1.defers=g.defers) (hk:g1.kind=g.kind):jT P Al fr own (G g1 rest)
section
variable {P:zZ}{Al:zF}{F:Kp}{fr:zC}{own:zL}{w:zW}{mn:Bool}
def iV (fr:zC)(v:zY):(fr.finish v).fn=fr.fn/\(fr.finish v).defers=fr.defers/\(fr.finish v).kind=fr.kind:=by unfold Frame.finish;split<;>exact⟨rfl,rfl,rfl⟩
def wO (fr:zC)(c:List PanicEntry):(fr.raise c).fn=fr.fn/\(fr.raise c).defers=fr.defers/\(fr.raise c).kind=fr.kind:=by unfold Frame.raise;split<;>exact⟨rfl,rfl,rfl⟩
def kF (f:zN)(xs:zA):(Frame.enter P f xs .normal).defers=[]/\(Frame.enter P f xs .normal).kind= .normal/\(Frame.enter P f xs .normal).fn=f:=by
 unfold Frame.enter;cases P.funcs[f]? with
 |none=>exact⟨rfl,rfl,rfl⟩
 |some fn=>cases fn.body<;>exact⟨rfl,rfl,rfl⟩
def QQ {D:zP}(q:cB P Al K0 (dE D) w w)(r:(match fr.todo with| .call _ aE _ _::_=>CallKind.wrapped|_=> .normal)= .normal)(v:fr.mode= .run){s:Sem Next}(hs:bR P Al K0 (oT Al) (dE D) s s):
  (∃o u j,stepG.apply P aE fr own aB s w= .ended o u j)\/∃l w1 j,stepG.apply P aE fr own aB s w= .go l w1 j/\jT P Al fr own l:=by
 obtain(⟨B,u,i,e,c⟩|⟨⟨n,t,_⟩,_⟩)|⟨z,v1,w1,i,d,_,_,_,⟨a,b,e,_,g⟩|⟨x,A,e,_,_⟩⟩:=hs.runT w w #[] #[] q
 .exact aG (mW e c)
 .cases t
 .right;unfold stepG.apply;simp only[zDf];rw[e];cases g with
  |value h=>have:=iV fr;exact⟨_,_,_,rfl,.same (this _).1 (this _).2.1 (this _).2.2⟩
  |skip=>have:=iV fr;exact⟨_,_,_,rfl,.same (this _).1 (this _).2.1 (this _).2.2⟩
  | @enter f c xs m C p=>
   have y:∀k:CallKind,k= .normal->jT P Al fr own (G (Frame.enter P f xs k) (fr::own)):=by rintro _ rfl;exact .enter c _ v p
   exact⟨_,_,_,rfl,y _ r⟩
 .right;unfold stepG.apply;simp only[zDf];rw[e];have:=wO fr;exact⟨_,_,_,rfl,.same (this _).1 (this _).2.1 (this _).2.2⟩
def WB (B:cJ P Al K0){D:zP}(C:cB P Al K0 (dE D) w w)(H:cW P Al K0 (dE D) fr fr)(E:fr.mode= .run)(hs:lF Al fr):
  (∃o u g,stepG P mn (G fr own) w= .ended o u g)\/∃r w1 g,stepG P mn (G fr own) w= .go r w1 g/\jT P Al fr own r:=by
 have A:=C.ok
 have n:=λx L=>H.eval A x L
 obtain⟨fn,tmps,todo,defers,mode,kind,round⟩:=fr
 obtain⟨V,U,T,S,I,R,Q,O,N,q,M⟩:=H
 dsimp only at I q E
 subst E
 subst q
 show(∃o u g,stepG.exec P mn aE ⟨fn,tmps,todo,defers,.run,kind,aB⟩ own aB w= .ended o u g)\/∃r w1 g,stepG.exec P mn aE ⟨fn,tmps,todo,defers,.run,kind,aB⟩ own aB w= .go r w1 g/\jT P Al ⟨fn,tmps,todo,defers,.run,kind,aB⟩ own r
 cases todo with
 |nil=>exact aH ⟨_,_,_,rfl,.same rfl rfl rfl⟩
 |cons i k=>
  have v:iZ P Al K0 i:=I i zAz;cases i with
  |code c=>
   cases c with
   |cond c a b=>
    have z:=n c v.1;unfold stepG.exec;dsimp only;generalize Frame.eval _ c=x at z⊢;obtain⟨y,z⟩:∃y,bG Al (dE D) x y:=⟨_,z⟩;cases z with
    |bool t=>exact aH ⟨_,_,_,rfl,.same rfl rfl rfl⟩
    |_=>exact aG ⟨_,_,_,rfl⟩
   |exit id=>
    unfold stepG.exec;dsimp only;cases he:exitTo id k with
    |none=>exact aG ⟨_,_,_,rfl⟩
    |some K=>exact aH ⟨_,_,_,rfl,.same rfl rfl rfl⟩
   |goto l=>
    unfold stepG.exec;dsimp only;cases he:gotoIn l k with
    |none=>exact aG ⟨_,_,_,rfl⟩
    |some K=>exact aH ⟨_,_,_,rfl,.same rfl rfl rfl⟩
   |rangeFunc f p a b=>exact v.elim
   |refuse J=>exact aG ⟨_,_,_,rfl⟩
   |region id ops draw=>
    cases draw with
    |false=>exact aH ⟨_,_,_,rfl,.same rfl rfl rfl⟩
    |true=>exact aH ⟨_,_,_,rfl,.same rfl rfl rfl⟩
   |_=>exact aH ⟨_,_,_,rfl,.same rfl rfl rfl⟩
  |inBlock id=>exact aH ⟨_,_,_,rfl,.same rfl rfl rfl⟩
  |inScope b=>exact aH ⟨_,_,_,rfl,.same rfl rfl rfl⟩
  |inLoop b=>exact aH ⟨_,_,_,rfl,.same rfl rfl rfl⟩
  |inRegion ops l=>
   cases l with
   |nil=>exact aH ⟨_,_,_,rfl,.same rfl rfl rfl⟩
   |cons j rest=>
    cases d:ops[j]? with
    |none=>
     have s:stepG.exec P mn aE ⟨fn,tmps,aM ops (j::rest)::k,defers,.run,kind,aB⟩ own aB w= .go (G (Frame.finish ⟨fn,tmps,aM ops (j::rest)::k,defers,.run,kind,aB⟩ undef) own) w:=by unfold stepG.exec;simp only[d,Option.map_none,Option.getD_none,zBf,zDp];rfl
     rw[s]
     exact aH ⟨_,_,_,rfl,.same rfl rfl rfl⟩
    |some o=>
     by_cases e:Region.wanted o (yielded ops tmps)=aE
     .have s:stepG.exec P mn aE ⟨fn,tmps,aM ops (j::rest)::k,defers,.run,kind,aB⟩ own aB w=stepG.apply P aE ⟨fn,tmps,aM ops (j::rest)::k,defers,.run,kind,aB⟩ own aB (execOp (Frame.eval ⟨fn,tmps,aM ops (j::rest)::k,defers,.run,kind,aB⟩) o) w:=by
       unfold stepG.exec;simp only[d,zAx,zCc,e,zDf];unfold stepG.oper;simp only[Frame.oper?,d]
      rw[s];have m:=v o (zBc d);exact QQ C rfl rfl (sV B.met m (λ_ _ _ _ _ _=>aG (aH λ_ h=>h)) (hs rfl _ _ _ _ _ rfl d e) m.nd n)
     .have s:stepG.exec P mn aE ⟨fn,tmps,aM ops (j::rest)::k,defers,.run,kind,aB⟩ own aB w= .go (G (Frame.finish ⟨fn,tmps,aM ops (j::rest)::k,defers,.run,kind,aB⟩ undef) own) w:=by
       unfold stepG.exec;simp only[d,zAx,zCc,e,zBf,zDp];rfl
      rw[s];exact aH ⟨_,_,_,rfl,.same rfl rfl rfl⟩
  |_=>exact v.elim
def NK (j:CE fr own)(v:∀i∈fr.todo,iZ P Al F i)(s:fr.mode≠.run)(q:own≠[]):
  (∃o u m,stepG P mn (G fr own) w= .ended o u m)\/∃p w1 m,stepG P mn (G fr own) w= .go p w1 m/\jT P Al fr own p:=by
 obtain⟨g,rest,rfl⟩:∃g rest,own=g::rest:=by
  cases own with
  |nil=>exact absurd rfl q
  |cons g rest=>exact⟨g,rest,rfl⟩
 have l:=kH v
 have f:=iV g
 have b:=wO g
 have ret:∀(y:zY)(w1:zW),doReturn P mn fr (g::rest) aB y w1= .go (G (g.finish y) rest) w1:=λy w1=>by unfold doReturn;rw[j.k];rfl
 cases h:fr.mode with
 |run=>exact absurd h s
 |panicking chain=>
  have e:stepG P mn (G fr (g::rest)) w= .go (G (g.raise chain) rest) w:=by simp only[stepG,G,h,unwind,j.d,l,zBf,zDp]
  exact aH ⟨_,_,_,e,.back rfl (b _).1 (b _).2.1 (b _).2.2⟩
 |returning=>
  have n:stepG P mn (G fr (g::rest)) w=unwind P mn fr (g::rest) aB w:=by simp only[stepG,G,h]
  cases c:P.funcs[fr.fn]? with
  |none=>
   have e:stepG P mn (G fr (g::rest)) w= .go (G (g.finish (fr.tmps.getD 0 undef)) rest) w:=by rw[n];simp only[unwind,j.d,h,c,ret]
   exact aH ⟨_,_,_,e,.back rfl (f _).1 (f _).2.1 (f _).2.2⟩
  |some fn=>
   cases a:(results fn fr.tmps).runT P w #[]with
   |mk r m=>
    cases r with
    |ok y w1=>
     have e:stepG P mn (G fr (g::rest)) w= .go (G (g.finish y) rest) w1 (seen P fr.fn m++ #[]):=by rw[n];unfold unwind;rw[j.d];dsimp only;rw[h];dsimp only;rw[c];dsimp only;rw[a];dsimp only;rw[ret];rfl
     exact aH ⟨_,_,_,e,.back rfl (f _).1 (f _).2.1 (f _).2.2⟩
    |halt t w1=>left;rw[n];unfold unwind;rw[j.d];dsimp only;rw[h];dsimp only;rw[c];dsimp only;rw[a];dsimp only;cases t<;>exact⟨_,_,_,rfl⟩
def wG (B:cJ P Al K0){D:zP}(c:Closed P Al D fr own w)(j:CE fr own)(a:fr.mode= .run\/fr.defers≠[]\/own≠[]){b:zH}{w1:zW}{es:zE}(hs:stepG P mn (G fr own) w= .go b w1 es):jT P Al fr own b:=by
 have k:(∃o u es,stepG P mn (G fr own) w= .ended o u es)\/∃b w1 es,stepG P mn (G fr own) w= .go b w1 es/\jT P Al fr own b:=by
  by_cases f:fr.mode= .run
  .exact WB B c.world c.frame f (kB c.nj.2)
  .obtain x|x|x:=a
   .exact absurd x f
   .exact absurd j.d x
   .exact NK j c.frame.items f x
 obtain⟨o,u,i,e⟩|⟨g,l,i,e,h⟩:=k
 .rw[hs]at e;cases e
 .rw[hs]at e;cases e;exact h
def jT.Tt {fr1:zC}{own1:zL}(a:CE fr own)(h:jT P Al fr own (G fr1 own1)):CE fr1 own1:=by
 generalize e:G fr1 own1=g at h;cases h with
 | @same n m i c=>cases e;exact⟨i.trans a.d,c.trans a.k,a.up⟩
 | @enter f p xs hm o=>
  cases e;have:=kF (P:=P) f xs;refine⟨this.1,this.2.1,λx b=> ?_⟩;obtain rfl|b:=zAg.1 b
  .exact⟨hm,a.d,a.k⟩
  .exact a.up x b
 | @back g g1 rest l m i c=>cases e;subst l;have j:=a.up g (by simp);exact⟨i.trans j.2.1,c.trans j.2.2,λx b=>a.up x (zBe _ b)⟩
def jT.fns {fr1:zC}{own1:zL}{p:zF}(d:∀x∈fr::own,p x.fn)(h:jT P Al fr own (G fr1 own1)):(∀x∈fr1::own1,p x.fn)\/∃f b,Al f/\¬p f/\fr1=Frame.enter P f b .normal/\own1=fr::own/\fr.mode= .run/\b.size<=20:=by
 generalize e:G fr1 own1=g at h;cases h with
 | @same o i m l=>
  cases e;left;intro x a;obtain rfl|a:=zAg.1 a
  .rw[i];exact d fr (by simp)
  .exact d x (zBe _ a)
 | @enter f n b hm j=>
  cases e;by_cases c:p f
  .left;intro x a;obtain rfl|a:=zAg.1 a
   .rw[(kF (P:=P) f b).2.2];exact c
   .exact d x a
  .exact aH ⟨f,b,n,c,rfl,rfl,hm,j⟩
 | @back g g1 rest k i m l=>
  cases e;subst k;left;intro x a;obtain rfl|a:=zAg.1 a
  .rw[i];exact d g (by simp)
  .exact d x (zBe _ (zBe _ a))
end
section
variable {P:zZ}{Al:zF}{f0:zN}{pr:zA->List PanicEntry}{own:zL}{v:zW}{D:zP}
structure Nf (P:zZ)(Al:zF)(f0:zN)(pr:zA->List PanicEntry):Prop where
 run:∀xs v D,xs.size<=20->Closed P Al D (Frame.enter P f0 xs .normal) [] v->∃τ d,Lone P [aY] (λfr l u=>l=[]/\fr.mode= .panicking (pr xs)/\fr.defers=[]/\fr.catches P=aF/\u.heap.size=v.heap.size+1/\∀b,b<v.heap.size->u.heap[b]? =v.heap[b]?) (Frame.enter P f0 xs .normal) [] (v.re τ d)
def hQ.left {α:Type}{R:α->α->Prop}{l c:List α}(h:hQ R l c):∀a∈l,∃d,R a d:=by
 induction h with
 |nil=>intro a b;cases b
 |cons h _ i=>
  intro a b;obtain rfl|b:=zAg.1 b
  .exact⟨_,h⟩
  .exact i a b
def Uf (A:∀K:Kp,(∀b,¬K b)->cJ P Al K)(t:Nf P Al f0 pr){R:zR}{E:List PanicEntry->zW->Prop}{xs:zA}(r:xs.size<=20)(f:Closed P Al D (Frame.enter P f0 xs .normal) own v)(q:CE (Frame.enter P f0 xs .normal) own)
  (y:Ends P Al (AtEnd P R E) (Frame.enter P f0 xs .normal) own v):∃u:zW,u.heap.size=v.heap.size+1/\(∀b,b<v.heap.size->u.heap[b]? =v.heap[b]?)/\∀a d,E (pr xs) (u.re a d):=by
 have k:∀b,¬K0 b:=λb h=>h
 obtain⟨a,d,x⟩:=t.run xs v D r ⟨f.frame,.nil,f.world,f.nj⟩
 have o:Closed P Al D (Frame.enter P f0 xs .normal) [] (v.re a d):=⟨f.frame,.nil,jV f.world k a a d d (λ_ _=>rfl),f.nj⟩
 obtain⟨p,B,u2,D2,⟨e,w,z,i,j,c⟩,_,_,n⟩:=Lone.through A (T:=AtEnd P R E) (cs:=own) (λ_ _ _ s=>oS s) x o (y.re (λ_ _ _ a d h=>h.re a d) a d)
 subst e
 refine⟨u2,j,c,Ends.panics own p u2 n w z i λg m=> ?_⟩
 obtain⟨C,l⟩:=f.own.left g m
 exact⟨(q.up g m).1,(q.up g m).2.1,kH l.items⟩
end
structure VP (P:zZ)(Al:zF)(K:Kp)(π:Rn)(fr:zC)(own:zL)(v:zW)(fr':zC)(own':zL)(w:zW):Prop where
 frame:cW P Al K π fr fr'
 own:hQ (cW P Al K π) own own'
 world:cB P Al K π (v.re w.tape w.drawn) w
structure kx (π:Rn)(w w₁:zW):Prop where
 dF:∀b b',π b b'->w₁.heap[b']? =w.heap[b']?
 size:w.heap.size<=w₁.heap.size
 os:w₁.os=w.os
section
variable {P:zZ}{Al:zF}{K:Kp}{π:Rn}{fr fr':zC}{own own' cs:zL}{v w w₁:zW}
def VP.rely (a:K.rG=aB)(h:VP P Al K π fr own v fr' own' w)(r:kx π w w₁):VP P Al K π fr own v fr' own' w₁:=by refine⟨h.frame,h.own,⟨h.world.ok,λb d c=> ?_,λk _=>rfl,h.world.fresh,⟨h.world.low.1,zAc h.world.low.2 r.size⟩,r.os.trans h.world.os,h.world.rows⟩⟩;have:=h.world.blk b d c;rw[r.dF b d c];exact this
def VP.step (j:K.rG=aB)(B:cJ P Al K)(h:VP P Al K π fr own v fr' own' w)(c:fr.mode= .run\/fr.defers≠[]\/own≠[]){y:zC×zL×zW}
  (l:∃es,stepG P aE (G fr (own++[])) (v.re w.tape w.drawn)= .go (G y.1 (y.2.1++[])) y.2.2 es) (mn:Bool) (cs:zL) (A:pX P K fr:=by first|assumption|exact uP (λ_ h=>h)) (hs:lF Al fr:=by first|assumption|exact kB (by assumption)):
  ∃d f a w1 es,stepG P mn (G fr' (own'++cs)) w= .go (G f (a++cs)) w1 es/\VP P Al K d y.1 y.2.1 y.2.2 f a w1/\jL K π d (v.re w.tape w.drawn) y.2.2 w w1/\∀e∈es,nC K d e:=by
 obtain⟨es,l⟩:=l
 obtain⟨o,u,E,e⟩|⟨_,_,_,_,_,n,r,_⟩|⟨d,g1,v1,F,D,w1,q,s,H,C,b,hm,m⟩:=xG (cs:=[]) (cs':=cs) B h.world h.frame h.own c aE mn A hs
 .rw[l]at e;cases e
 .rw[j]at r;cases r
 .rw[l]at s;cases s;obtain⟨p,f,i,a,q1,z,x,t⟩:=C;have J:y.1=p:=congrArg (λg:zH=>g.frame) q1;have a2:y.2.1=i:=by
   have:=congrArg (λg:zH=>g.callers) q1;simpa [G]using this
  subst J;subst a2;subst z;exact⟨d,f,a,w1,q,H,⟨x,t,⟨b.ok,b.blk,λk _=>rfl,b.fresh,b.low,b.os,b.rows⟩⟩,hm,m⟩
def iD {α:Type}(P:zZ)(s:Sem α):Prop:=∀u b a u1 e,s.runT P u b=(.ok a u1,e)->u1=u
def iD.bind {α β:Type}{s:Sem α}{f:α->Sem β}(h:iD P s)(j:∀a,iD P (f a)):iD P (s>>=f):=by
 intro u i b u1 d e;rw[bD]at e;cases g:s.runT P u i with
 |mk r c=>
  rw[g]at e;cases r with
  |ok a u2=>have k:=h u i a u2 c g;subst k;exact j a u2 c b u1 d e
  |halt l u2=>cases e
def eR {α:Type}(a:α):iD P (pure a:Sem α):=λu d b u1 c e=>by cases e;rfl
def pH {α:Type}(h:Halt):iD P (.halt h:Sem α):=λu c b u1 a e=>by cases e
def oQ:iD P program:=λu c b u1 a e=>by cases e;rfl
def DR (a:Addr)(m:Mode):iD P (load a m):=λu d b u1 c e=>by
 unfold load at e;simp only[Sem.runT]at e;split at e
 .cases e;rfl
 .split at e
  .cases e;rfl
  .cases e
def EF (t:zD):iD P (typeInfo t):=by
 unfold typeInfo;refine oQ.bind λp=> ?_;split
 .exact eR _
 .exact pH _
def AD (t:zD):iD P (underlying t):=by
 unfold underlying;refine oQ.bind λp=> ?_;split
 .exact eR _
 .exact pH _
def qQ (a:Addr):∀(n i:Nat)(acc:zA),iD P (loadCellsFrom a i n acc)
 |0,_,_=>eR _
 |n+1,i,acc=>(DR _ _).bind λv=>qQ a n (i+1) (acc.push v)
def JD (t:zD)(a:Addr):iD P (loadVar t a):=by
 unfold loadVar;refine iD.bind ?_ λb=> ?_
 .unfold isAgg;refine(AD t).bind λu=> ?_;split<;>exact eR _
 .split
  .refine((EF t).bind λi=>eR _).bind λn=> ?_;exact(qQ a n 0 #[]).bind λc=>eR _
  .exact DR _ _
def tW (fn:Func)(t:zA):iD P (results fn t):=by
 unfold results;refine iD.bind ?_ λb=>eR _;rw[zFp];refine iD.bind ?_ λl=>eR _;induction fn.results.toList with
 |nil=>exact eR _
 |cons r l i=>
  rw[List.mapM_cons];refine iD.bind ?_ λx=>i.bind λl=>eR _;cases r with
  |tmp x=>exact eR _
  |cell a ty=>
   refine iD.bind ?_ λx=>JD _ _;unfold asAddr;split
   .exact eR _
   .unfold runtimePanic;exact oQ.bind λp=>pH _
   .exact pH _
def VP.leave (o:K.rG=aB)(h:VP P Al K π fr [] v fr' own' w){x:zY}(T:∀L d,fr.leaving P (v.re L d) (aL x))(mn:Bool)(c:zC)(cs:zL):
  ∃H J,bG Al π x H/\own'=[]/\stepG P mn (G fr' (own'++c::cs)) w= .go (G (c.finish H) cs) w J/\∀e∈J,nC K π e:=by
 have j:own'=[]:=by cases h.own;rfl
 subst j
 obtain⟨q1,S,R,fn,Q,O⟩:=T w.tape w.drawn
 have V:=h.world.ok
 have k:fr'.mode= .returning:=by have:=h.frame.mode;rw[q1]at this;generalize fr'.mode=m at this;cases this;rfl
 have B:fr'.defers=[]:=by have:=h.frame.defers;rw[S]at this;generalize fr'.defers=l at this;cases this;rfl
 have A:fr'.kind= .normal:=by rw[h.frame.kind];exact R
 have t:P.funcs[fr'.fn]? =aA fn:=by rw[h.frame.fn];exact Q
 have i:((results fn fr.tmps).runT P (v.re w.tape w.drawn) #[]).1= .ok x (v.re w.tape w.drawn):=by rw[Sem.runT_fst];exact O
 obtain(⟨hl,v',E,e,_⟩|⟨⟨n,I,_⟩,_⟩)|⟨M,v1,w1,E,dd,h1,Z,Y,X⟩:=(iO (P:=P) (Al:=Al) (F:=K) fn h.frame.tmps).runT _ w #[] #[] h.world
 .rw[e]at i;cases i
 .rw[o]at I;cases I
 .obtain⟨a,b,r1,r2,C⟩|⟨y,y',r1,r2,hy⟩:=X
  .rw[r1]at i;cases i;have z:w1=w:=tW fn fr'.tmps w #[] b w1 _ r2;subst z;have f:∀p u,M p u->π p u:=λp u U=>by
    obtain q|⟨_,q,q'⟩:=Z.sF p u U
    .exact q
    .omega
   refine⟨b,seen P fr'.fn dd++ #[],C.mono f,rfl,?_,λe W=> ?_⟩
   .have e0:stepG P mn (G fr' ([]++c::cs)) w1=unwind P mn fr' (c::cs) aB w1:=by simp only[stepG,G,k,zCl]
    rw[e0];unfold unwind;rw[B];dsimp only;rw[k];dsimp only;rw[t];dsimp only;rw[r2];dsimp only;unfold doReturn;rw[A];simp only[zCm];rfl
   .have:=Y e (nU (by simpa using W));obtain⟨a,a',wr,s,D,g2,g3⟩|g|g|⟨r,N,s,D,g2⟩:=this
    .exact aG ⟨a,a',wr,s,D,⟨f _ _ g2.1,g2.2⟩,g3⟩
    .exact aH (aG g)
    .exact aH (aH (aG g))
    .exact aH (aH (aH ⟨r,N,s,D,f _ _ g2⟩))
  .rw[r1]at i;cases i
end
end Go.Ren
namespace Go.Tr
open Go.Conc
def blk:Loc->Option Nat
 | .cell a=>aA a.block
 | .obj r=>aA r
 |_=>aB
structure Pm where
 rd:Nat->zP
 rw:Nat->zP
 sd:Nat->zP
 at':zP
structure Pm.Ok (p:Pm):Prop where
 Tz:∀{j k b},p.rw j b->p.rw k b->j=k
 Ua:∀{j k b},p.rw j b->p.rd k b->j=k
 Mw:∀{j b},p.at' b->¬p.rd j b
 ZT:∀{j b},p.at' b->¬p.rw j b
 Xm:∀{j k b},p.sd j b->p.sd k b->j=k
 WX:∀{j b},p.sd j b->p.at' b
def Ss (p:Pm)(j:Nat)(x:Touch):Prop:=
 ∀b,blk x.loc=aA b->(x.kind≠.said/\x.write=aF/\(p.rd j b\/p.rw j b))\/(x.kind≠.said/\p.rw j b)\/(x.kind= .atomic/\p.at' b)\/(x.kind= .said/\p.sd j b)
structure TI (t:Trace)(p:Pm)(Live:zP):Prop where
 clean:∀said,¬Race said t
 rd:∀{j b},p.rd j b->∀i a,touchAt t i=aA a->blk a.loc=aA b->a.write=aE->Knows t j i
 rw:∀{j b},p.rw j b->∀i a,touchAt t i=aA a->blk a.loc=aA b->Knows t j i
 sd:∀{j b},p.sd j b->∀i a,touchAt t i=aA a->blk a.loc=aA b->a.kind≠.atomic->Knows t j i
 Vk:∀{b},p.at' b->∀i a,touchAt t i=aA a->blk a.loc=aA b->a.kind≠.plain
 known:∀i a,touchAt t i=aA a->a.loc.isMemory=aE->Knows t 0 i\/(∃op,t[i]? =aA op/\Live op.g)\/∃b,blk a.loc=aA b/\p.at' b/\a.kind= .atomic/\(t.g? i=aA 0\/¬t.heard i)
def KU {l:Loc}(h:l.isMemory=aE):∃b,blk l=aA b:=by cases l<;>simp_all [Loc.isMemory,blk]
section
variable {t u:Trace}{p q:Pm}{Live Cm:zP}{j:Nat}
def eA {i:Nat}{a:Touch}(h:touchAt (t++u) i=aA a):(i<t.size/\touchAt t i=aA a)\/∃op,t.size<=i/\(t++u)[i]? =aA op/\op∈u/\op.act.touch? =aA a:=by
 obtain⟨x,f,b⟩:=touch_of h;obtain⟨e,d⟩|⟨e,c⟩:=getElem?_append_cases f
 .exact aG ⟨e,by rw[touchAt_of d];exact b⟩
 .exact aH ⟨x,e,f,c,b⟩
def TI.own (l:p.Ok)(h:TI t p Live)(C:∀op∈u,op.g=j)(B:j=0\/Live j\/∀i op,t.size<=i->(t++u)[i]? =aA op->∀x,op.act.touch? =aA x->x.loc.isMemory=aE->(∃b,blk x.loc=aA b/\p.at' b/\x.kind= .atomic)/\¬(t++u).heard i)
  (H:∀op∈u,∀x,op.act.touch? =aA x->Ss p j x):TI (t++u) p Live:=by
 refine⟨λsaid=>noRace_append (h.clean said) C λi a o op e b s R=> ?_,λ{k b} f i a o s D=> ?_,λ{k b} f i a o s=> ?_,λ{k b} f i a o s Q=> ?_,λ{b} f i a o s=> ?_,λi a o J=> ?_⟩
 .obtain⟨F,J,O,A⟩:=R;obtain⟨c,r⟩:=KU J;have G:blk b.loc=aA c:=F▸r;obtain⟨v,d,I⟩|⟨v,d⟩|⟨v,d⟩|⟨v,d⟩:=H op e b s c G
  .have D:a.write=aE:=by
    obtain x|x:=O
    .exact x
    .rw[d]at x;cases x
   obtain I|I:=I
   .exact h.rd I i a o r D
   .exact h.rw I i a o r
  .exact h.rw d i a o r
  .have:=h.Vk d i a o r;rw[v]at A;obtain x|x|⟨_,_,x⟩:=A
   .exact absurd x this
   .cases x
   .cases x
  .have:=h.Vk (l.WX d) i a o r;rw[v]at A;obtain x|x|⟨_,x,_⟩:=A
   .exact absurd x this
   .cases x
   .exact h.sd d i a o r (by rw[x];simp)
 .obtain⟨_,n⟩|⟨op,_,z,e,m⟩:=eA o
  .exact(h.rd f i a n s D).app u
  .have:j=k:=by
    obtain⟨_,d,_⟩|⟨_,d⟩|⟨_,d⟩|⟨_,d⟩:=H op e a m b s
    .rw[d]at D;cases D
    .exact l.Ua d f
    .exact absurd f (l.Mw d)
    .exact absurd f (l.Mw (l.WX d))
   have w:=knows_own z;rw[C op e,this]at w;exact w
 .obtain⟨_,n⟩|⟨op,_,z,e,m⟩:=eA o
  .exact(h.rw f i a n s).app u
  .have:j=k:=by
    obtain⟨_,_,d|d⟩|⟨_,d⟩|⟨_,d⟩|⟨_,d⟩:=H op e a m b s
    .exact(l.Ua f d).symm
    .exact l.Tz d f
    .exact l.Tz d f
    .exact absurd f (l.ZT d)
    .exact absurd f (l.ZT (l.WX d))
   have w:=knows_own z;rw[C op e,this]at w;exact w
 .obtain⟨_,n⟩|⟨op,_,z,e,m⟩:=eA o
  .exact(h.sd f i a n s Q).app u
  .have:j=k:=by
    obtain⟨_,_,d|d⟩|⟨_,d⟩|⟨v,d⟩|⟨_,d⟩:=H op e a m b s
    .exact absurd d (l.Mw (l.WX f))
    .exact absurd d (l.ZT (l.WX f))
    .exact absurd d (l.ZT (l.WX f))
    .exact absurd v Q
    .exact l.Xm d f
   have w:=knows_own z;rw[C op e,this]at w;exact w
 .obtain⟨_,n⟩|⟨op,_,z,e,m⟩:=eA o
  .exact h.Vk f i a n s
  .intro E;obtain⟨_,_,d|d⟩|⟨_,d⟩|⟨v,d⟩|⟨v,d⟩:=H op e a m b s
   .exact l.Mw f d
   .exact l.ZT f d
   .exact l.ZT f d
   .rw[E]at v;cases v
   .rw[E]at v;cases v
 .obtain⟨F,n⟩|⟨op,P,z,e,m⟩:=eA o
  .obtain x|⟨op,x,y⟩|x:=h.known i a n J
   .exact aG (x.app u)
   .exact aH (aG ⟨op,by rw[getElem?_append_old F];exact x,y⟩)
   .obtain⟨b,N,M,L,K⟩:=x;exact aH (aH ⟨b,N,M,L,by rw[g?_old F,heard_old F];exact K⟩)
  .obtain B|B|B:=B
   .have w:=knows_own z;rw[C op e,B]at w;exact aG w
   .exact aH (aG ⟨op,z,by rw[C op e];exact B⟩)
   .obtain⟨⟨b,N,M,L⟩,K⟩:=B i op P z a m J;exact aH (aH ⟨b,N,M,L,aH K⟩)
def TI.to (h:TI t p Live)(l:∀j b,q.rd j b->(p.rd j b\/p.rw j b)\/∀i a,touchAt t i=aA a->blk a.loc≠aA b)
  (g:∀j b,q.rw j b->p.rw j b\/∀i a,touchAt t i=aA a->blk a.loc≠aA b) (f:∀j b,q.sd j b->(p.sd j b\/p.rw j b)\/∀i a,touchAt t i=aA a->blk a.loc≠aA b)
  (m:∀b,q.at' b->p.at' b\/∀i a,touchAt t i=aA a->blk a.loc≠aA b) (e:∀b,p.at' b->q.at' b) (r:∀j,Live j->Cm j):TI t q Cm:=by
 refine⟨h.clean,λ{k b} d i a c hb hw=> ?_,λ{k b} d i a c hb=> ?_,λ{k b} d i a c hb n=> ?_,λ{b} d i a c hb=> ?_,λi a c o=> ?_⟩
 .obtain(x|x)|x:=l k b d
  .exact h.rd x i a c hb hw
  .exact h.rw x i a c hb
  .exact absurd hb (x i a c)
 .obtain x|x:=g k b d
  .exact h.rw x i a c hb
  .exact absurd hb (x i a c)
 .obtain(x|x)|x:=f k b d
  .exact h.sd x i a c hb n
  .exact h.rw x i a c hb
  .exact absurd hb (x i a c)
 .obtain x|x:=m b d
  .exact h.Vk x i a c hb
  .exact absurd hb (x i a c)
 .obtain x|⟨op,x,y⟩|⟨b,x,y,z⟩:=h.known i a c o
  .exact aG x
  .exact aH (aG ⟨op,x,r _ y⟩)
  .exact aH (aH ⟨b,x,e b y,z⟩)
def TE {said:Bool}(h:¬Race said t)(l:∀op∈u,op.act.touch? =aB):¬Race said (t++u):=by
 rintro⟨i,j,f,⟨a,b,s,r,o⟩,m,n⟩;obtain⟨w,k⟩|⟨op,_,_,d,c⟩:=eA (t:=t) (u:=u) s
 .obtain⟨v,g⟩|⟨op,_,_,d,c⟩:=eA (t:=t) (u:=u) r
  .exact h ⟨i,j,f,⟨a,b,k,g,o⟩,λe=>m (hb_app u e),λe=>n (hb_app u e)⟩
  .rw[l op d]at c;cases c
 .rw[l op d]at c;cases c
def TI.Ke (h:TI t p Live)(A:∀op∈u,op.act.touch? =aB)
  (r:∀j b,q.rd j b->p.rd j b\/p.rw j b\/(∃k,(p.rd k b\/p.rw k b)/\∀i,Knows t k i->Knows (t++u) j i)\/∀i a,touchAt t i=aA a->blk a.loc≠aA b)
  (o:∀j b,q.rw j b->p.rw j b\/(∃k,p.rw k b/\∀i,Knows t k i->Knows (t++u) j i)\/∀i a,touchAt t i=aA a->blk a.loc≠aA b)
  (n:∀j b,q.sd j b->p.sd j b\/(∃k,p.sd k b/\∀i,Knows t k i->Knows (t++u) j i)\/∀i a,touchAt t i=aA a->blk a.loc≠aA b)
  (v:∀b,q.at' b->p.at' b\/∀i a,touchAt t i=aA a->blk a.loc≠aA b) (m:∀b,p.at' b->q.at' b)
  (C:∀j,Live j->Cm j\/∀i op a,t[i]? =aA op->op.g=j->touchAt t i=aA a->Knows (t++u) 0 i):TI (t++u) q Cm:=by
 have old:∀{i a},touchAt (t++u) i=aA a->i<t.size/\touchAt t i=aA a:=λ{i a} c=>by
  obtain x|⟨op,_,_,s,e⟩:=eA c
  .exact x
  .rw[A op s]at e;cases e
 refine⟨λsaid=>TE (h.clean said) A,λ{k b} d i a c hb hw=> ?_,λ{k b} d i a c hb=> ?_,λ{k b} d i a c hb f=> ?_,λ{b} d i a c hb=> ?_,λi a c B=> ?_⟩
 .obtain⟨_,c⟩:=old c;obtain x|x|⟨w,x|x,y⟩|x:=r k b d
  .exact(h.rd x i a c hb hw).app u
  .exact(h.rw x i a c hb).app u
  .exact y i (h.rd x i a c hb hw)
  .exact y i (h.rw x i a c hb)
  .exact absurd hb (x i a c)
 .obtain⟨_,c⟩:=old c;obtain x|⟨w,x,y⟩|x:=o k b d
  .exact(h.rw x i a c hb).app u
  .exact y i (h.rw x i a c hb)
  .exact absurd hb (x i a c)
 .obtain⟨_,c⟩:=old c;obtain x|⟨w,x,y⟩|x:=n k b d
  .exact(h.sd x i a c hb f).app u
  .exact y i (h.sd x i a c hb f)
  .exact absurd hb (x i a c)
 .obtain⟨_,c⟩:=old c;obtain x|x:=v b d
  .exact h.Vk x i a c hb
  .exact absurd hb (x i a c)
 .obtain⟨bU,c⟩:=old c;obtain x|⟨op,x,y⟩|⟨b,x,y,z⟩:=h.known i a c B
  .exact aG (x.app u)
  .obtain l|l:=C _ y
   .exact aH (aG ⟨op,by rw[getElem?_append_old bU];exact x,l⟩)
   .exact aG (l i op a x rfl c)
  .exact aH (aH ⟨b,x,m b y,z.1,by rw[g?_old bU,heard_old bU];exact z.2⟩)
def XX {s r:Nat}{c k cap:Nat}{x1 x2 x3 x4:MemOp}(a:x1.g=s/\x1.act= .send c k)(l:x2.g=r/\x2.act= .recv c k cap)(o:x3.g=s)(d:x3.act= .sendDone c k)(b:x4.g=r/\x4.act= .recvDone c k)
  (hs:Deaf t s=0) (e:Deaf t r=0) {i:Nat} (h:Knows t s i):Knows (t++ #[x1,x2,x3,x4]) r i:=by
 have p1:(t++ #[x1,x2,x3,x4])[t.size]? =aA x1:=by rw[zCu (zAa _)];simp
 have p2:(t++ #[x1,x2,x3,x4])[t.size+1]? =aA x2:=by rw[zCu (by omega)];simp
 have p3:(t++ #[x1,x2,x3,x4])[t.size+2]? =aA x3:=by rw[zCu (by omega)];simp
 have p4:(t++ #[x1,x2,x3,x4])[t.size+3]? =aA x4:=by rw[zCu (by omega)];simp
 have n:(t++ #[x1,x2,x3,x4]).heard t.size:=⟨s,by simp[aCK,a.1],by rw[deaf_old (zAa _)];exact hs⟩
 have m:(t++ #[x1,x2,x3,x4]).heard (t.size+3):=by refine⟨r,by simp[aCK,b.1],?_⟩;rw[deaf_succ p3,deaf_succ p2,deaf_succ p1,deaf_old (zAa _)];simp only[deafStep,a.2,l.2,d];exact e
 have f:HappensBefore (t++ #[x1,x2,x3,x4]) i t.size:=h.hb_new (zAa _) p1 a.1
 exact⟨t.size+3,x4,p4,b.1,aH (f.trans (.single (aH ⟨.handOver (c:=c) (k:=k) (by rw[act?_of p1,a.2]) (by rw[act?_of p4,b.2]),n,m⟩)))⟩
def PH {c i a r:Nat}{x:MemOp}(b:x.g=r/\x.act= .recvClosed c)(d:t.act? a=aA (.close c))(hh:t.heard a)(e:Deaf t r=0)(h:Before t i a):Knows (t++ #[x]) r i:=by
 have p1:(t++ #[x])[t.size]? =aA x:=by rw[zCu (zAa _)];simp
 have bU:a<t.size:=lt_of_act? d
 have f:(t++ #[x]).heard t.size:=⟨r,by simp[aCK,b.1],by rw[deaf_old (zAa _)];exact e⟩
 refine⟨t.size,x,p1,b.1,aH ((h.app #[x]).hb (.single (aH ⟨.closed (c:=c) (by rw[act?_old bU];exact d) (by rw[act?_of p1,b.2]),?_,f⟩)))⟩
 exact(heard_old bU).2 hh
def TI.Px {mX:Loc->Prop}{B:Nat}(h:Past mX B t){S:zP}(D:∀l,mX l->∃b,blk l=aA b/\S b)(I:∀b,S b->∀i a,touchAt t i=aA a->blk a.loc=aA b->a.kind≠.plain)
  (J:∀l b,blk l=aA b->S b->mX l):
  TI t ⟨λ_ _=>False,λj b=>j=0/\¬S b,λ_ _=>False,S⟩ (λ_=>False):=by
 refine⟨h.clean,λ{k b} c=>c.elim,λ{k b} c i a d e=> ?_,λ{k b} c=>c.elim,λ{b} c i a d e=>I b c i a d e,λi a d f=> ?_⟩
 .obtain⟨rfl,c⟩:=c;have f:a.loc.isMemory=aE:=by cases H:a.loc<;>rw[H]at e<;>simp_all [blk,Loc.isMemory]
  obtain x|⟨x,_⟩:=h.known i a d f
  .exact x
  .obtain⟨E,m,w⟩:=D _ x;rw[e]at m;cases m;exact absurd w c
 .obtain x|⟨x,y⟩:=h.known i a d f
  .exact aG x
  .obtain⟨E,m,w⟩:=D _ x;by_cases v:t.g? i=aA 0\/¬t.heard i
   .exact aH (aH ⟨E,m,w,y,v⟩)
   .have s:t.heard i:=zCj λz=>v (aH z);have r:t.g? i≠aA 0:=λz=>v (aG z);obtain⟨op,o,G⟩:=touch_of d;have C:t.g? i=aA op.g:=by simp[aCK,o]
    obtain⟨j,A,e⟩:=h.over i op.g C (λz=>r (by rw[C,z])) ⟨a,d,f,aH s⟩;unfold aCK at A;obtain⟨z,F,n⟩:=zBx.1 A;exact aG ⟨j,z,F,n,aH e⟩
def TI.past {B:Nat}(h:TI t p (λ_=>False))(y:Deaf t 0=0)(hs:∀op∈t,op.act.low B):Past (λl=>∃b,blk l=aA b/\p.at' b) B t:=by
 refine⟨h.clean,λi a w n=> ?_,λi g k e A=> ?_,y,hs⟩
 .obtain x|⟨_,_,x⟩|⟨b,s,r,m,_⟩:=h.known i a w n
  .exact aG x
  .exact x.elim
  .exact aH ⟨⟨b,s,r⟩,m⟩
 .obtain⟨a,C,n,f⟩:=A;obtain⟨q,z,v,d,o⟩|⟨_,_,x⟩|⟨b,s,r,m,c⟩:=h.known i a C n
  .refine⟨q,by simp[aCK,v,d],?_⟩;obtain rfl|o:=o
   .rw[aCK,v]at k;simp only[zAx,Option.some.injEq]at k;exact absurd (k.symm.trans d) e
   .exact o
  .exact x.elim
  .obtain f|f:=f
   .exact absurd m f
   .obtain c|c:=c
    .rw[k]at c;exact absurd (zAm c) e
    .exact absurd f c
end
end Go.Tr
