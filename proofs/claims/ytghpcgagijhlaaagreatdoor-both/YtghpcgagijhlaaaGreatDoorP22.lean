import Derived.Test.YtghpcgagijhlaaaGreatDoorP21
set_option linter.all false
set_option maxRecDepth 100000
set_option maxHeartbeats 16000000
open Option renaming some->aA,none->aB
open Bool renaming true->aE,false->aF
open Or renaming inl->aG,inr->aH
open Go.Ending renaming returned->aL
open Go.Item renaming inRegion->aM
open Go.Obj renaming cells->aI
open Go.IntKind renaming i64->aD,u8->aP
open Array renaming getElem?_mapIdx->aC1,toList->aC2,replicate->aCy,eq_empty_of_size_eq_zero->aC3
namespace Go.Proofs
open Go.Ren Go.Conc
def Lone.steps {P:zZ}{cs:zL}{S:zS}{fr:zC}{own:zL}{v:zW}(h:Lone P cs S fr own v):∃f o b,S f o b/\Steps P (lone fr (own++cs) v) (lone f (o++cs) b):=by
 induction h with
 | @stop fr own v h=>exact⟨fr,own,v,h,.refl _ _⟩
 | @step fr d own a v v1 es c e h i=>obtain⟨f,o,b,j,g⟩:=i;refine⟨f,o,b,j,.head (step_lone_go ?_) g⟩;have:stepG P aE {frame:=fr,callers:=own++cs,status:= .running,dying:=aB} v= .go (G d (a++cs)) v1 es:=e;rw[this];rfl
def CY {Q:zZ}{f:zN}{fn:Func}{c:Code}(a:Q.funcs[f]? =aA fn)(h:(fn.name== "runtime.NumGoroutine")=aF)(b:fn.body=aA c)(xs:zA)(u:zW)(es:zE):(callFunc f xs).runT Q u es=(.ok (.enter f xs) u,es):=by
 unfold callFunc;show(match Q.funcs[f]? with|none=>stuck "call: no such function"|some fn=>_:Sem Next).runT Q u es=_
 rw[a]
 dsimp only
 rw[h,b]
 rfl
def Rb {tm:zA}(k:zI)(u:zW):(execOp (gR tm k).eval Xs).runT zq u #[]=(.ok (.enter 28 #[tm.getD 0 undef,tm.getD 1 undef]) u,#[]):=by
 have e:execOp (gR tm k).eval Xs=(do let d<-Deferred.ofValue (.func (.func 28) #[] #[]) ((#[.tmp 0,.tmp 1]:Array Operand).map (gR tm k).eval);invoke d.target d.args:Sem Next):=by unfold execOp Xs;rfl
 have b:(#[.tmp 0,.tmp 1]:Array Operand).map (gR tm k).eval= #[tm.getD 0 undef,tm.getD 1 undef]:=by apply zCx.1;rw[zGb];rfl
 rw[e,b]
 have a:(do let d<-Deferred.ofValue (.func (.func 28) #[] #[]) #[tm.getD 0 undef,tm.getD 1 undef];invoke d.target d.args:Sem Next)=callFunc 28 #[tm.getD 0 undef,tm.getD 1 undef]:=by
  show invoke (.fn (.func 28) #[]) (#[]++ #[tm.getD 0 undef,tm.getD 1 undef])=_
  simp only[zCm]
  unfold invoke
  simp
 rw[a]
 exact CY Qz.func28 (by kernel_rfl) rfl _ _ _
section
variable {v:zW}
def results_tmp {Q:zZ}{fn:Func}(h:fn.results= #[.tmp 4])(tm:zA)(u:zW):(results fn tm).run Q u= .ok (tm.getD 4 undef) u:=by unfold results;rw[h];simp[go_sem]
def Fx (tm:zA)(k:zI)(u:zW):(execOp (gR tm k).eval Xp).runT zq u #[]=(.ok (.value (tm.getD 26 undef)) u,#[]):=by
 have e:execOp (gR tm k).eval Xp=pure (.value (tm.getD 26 undef)):=by unfold execOp Xp;rfl
 rw[e]
 rfl
def Tq {S:zS}{cs:zL}{tm:zA}{k:zI}{u:zW}(h:S {gR tm (.code .ret::k)with mode:= .returning} [] u):Lone zq cs S (gR tm (.code .ret::k)) [] u:=
 Lone.step (fr1:={gR tm (.code .ret::k)with mode:= .returning}) (own1:=[]) (v1:=u) (es:= #[]) (aG rfl) rfl (.stop h)
def Hy {cs:zL}{tm:zA}{x:zY}{u:zW}(d:tm.size=43)(h:tm.getD 26 undef=x):Lone zq cs (λf own c=>own=[]/\c=u/\f.mode= .returning/\f.defers=[]/\f.kind= .normal/\f.fn=170/\f.tmps.getD 4 undef=x) (gR tm [aM XF [],.code XG]) [] u:=by refine NQ (NO (a:= .region 4 az aF) (b:= .ret) (AT ?_));have e:=Fx tm [aM az [0],.code .ret] u;rw[h]at e;refine iS (ops:=az) (j:=0) (rest:=[]) (k:=[.code .ret]) (o:=Xp) (y:=x) (tm1:=tm.setIfInBounds 4 x) rfl rfl e rfl ?_;exact NQ (Tq ⟨rfl,rfl,rfl,rfl,rfl,rfl,aZ (by rw[d];decide)⟩)
def UY {tm:zA}(i:tm.size=43)(a:zT)(d:Nat)(hs:Ee a d≠0){R:zR}(h:Calls zq 28 #[tm.getD 0 undef,tm.getD 1 undef] ((boxed v aE).re a (d+1)) λe w'=>∃x,e=aL x/\R x w')(cs:zL):
  ∃x w' f,R x w'/\Steps zq (lone (gR tm [.code Qz.AE]) cs (v.re a d)) (lone f cs w')/\f.fn=170/\f.leaving zq w' (aL x):=by
 obtain⟨H,p,N,⟨L,K,J⟩,s1⟩:=Lone.steps (Oi (cs:=cs) (S:=λf own u=>f=gR (JV tm v) [aM XF [0],.code XG]/\own=[]/\u=(boxed v aE).re a (d+1)) a d hs i (.stop ⟨rfl,rfl,rfl⟩))
 subst L;subst K;subst J
 have t0:(JV tm v).getD 0 undef=tm.getD 0 undef:=by unfold JV;rw[gW (by decide)];exact Ah v (by decide)
 have t1:(JV tm v).getD 1 undef=tm.getD 1 undef:=by unfold JV;rw[gW (by decide)];exact Ah v (by decide)
 have r:=Rb (tm:=JV tm v) [aM XF [0],.code XG] ((boxed v aE).re a (d+1))
 rw[t0,t1]at r
 have s2:step zq (lone (gR (JV tm v) [aM XF [0],.code XG]) cs ((boxed v aE).re a (d+1)))= .next (lone (Frame.enter zq 28 #[tm.getD 0 undef,tm.getD 1 undef] .normal) (gR (JV tm v) [aM XF [0],.code XG]::cs) ((boxed v aE).re a (d+1))):=by refine step_lone_go ?_;have e:=Ay (P:=zq) (fr:=gR (JV tm v) [aM XF [0],.code XG]) (cs:=cs) (u:=(boxed v aE).re a (d+1)) (ops:=XF) (j:=0) (rest:=[]) (k:=[.code XG]) (o:=Xs) rfl rfl rfl rfl rfl aE;have M:stepG zq aE {frame:=gR (JV tm v) [aM XF [0],.code XG],callers:=cs,status:= .running,dying:=aB} ((boxed v aE).re a (d+1))=_:=e;rw[M];unfold stepG.apply;simp only[zDf];rw[r];rfl
 obtain⟨e,w',t,⟨x,F,G⟩,b,E,l⟩:=h (gR (JV tm v) [aM XF [0],.code XG]::cs)
 subst F
 have y:Steps zq _ _:=b
 have s:=step_leave_returned (cs:=cs) (c:=gR (JV tm v) [aM XF [0],.code XG]) l
 have I:(gR (JV tm v) [aM XF [0],.code XG]).finish x=gR ((JV tm v).setIfInBounds 26 x) [aM XF [],.code XG]:=rfl
 rw[I]at s
 have m:((JV tm v).setIfInBounds 26 x).getD 26 undef=x:=aZ (by simp[JV,sO i])
 obtain⟨g,n,v5,⟨q1,D,C,B,A,q,z⟩,w⟩:=Lone.steps (Hy (cs:=cs) (u:=w') (by simp[JV,sO i]) m)
 subst q1;subst D
 refine⟨x,v5,g,G,Steps.trans s1 (.head s2 (Steps.trans y (.head s w))),q,⟨C,B,A,Qz.f170,by rw[q];exact Qz.func170,?_⟩⟩
 have:=results_tmp (Q:=zq) (fn:=Qz.f170) rfl g.tmps v5
 rw[z]at this
 exact this
end
end Go.Proofs
namespace Go.Ren
open Go.Conc (G)
def rS (D:zP)(v w:zW):Prop:=∀b,D b->∀o,v.heap[b]? =aA o->(w.heap[b]? =aA o)\/∃c t a f,o=aI c t a/\w.heap[b]? =aA (aI c t f)
def bG.both {Al Aw:zF}{π:Rn}{D:zP}{x y p:zY}(r:¬Aw 1000000/\¬Aw 1000001/\∀k,¬Aw (1000002+k))(q:∀k,Al (1000002+k)->¬D k)(h:bG Aw (dE D) x y)(k:bG Al π x p):bG Aw (λb K=>D b/\π b K) x p:=by
 induction h generalizing p with
 |bool b=>cases k;exact .bool b
 |int i n=>cases k;exact .int i n
 |string s=>cases k;exact .string s
 |pointer h=>
  cases k with
  |pointer g=>
   cases h with
   |none=>cases g;exact .pointer .none
   |some h=>cases g with
    |some g=>exact .pointer (.some ⟨⟨h.1.2,g.1⟩,g.2⟩)
 |slice h n c=>
  cases k with
  |slice g _ _=>
   cases h with
   |none=>cases g;exact .slice .none n c
   |some h=>cases g with
    |some g=>exact .slice (.some ⟨⟨h.1.2,g.1⟩,g.2⟩) n c
  |void a _=>
   cases h with
   |some h=>exact absurd h.1.2 (q _ a)
 | @func f H O o cs d B A j M L i3 i4=>
  cases k with
  | @func _ G _ N _ ds k1 k2 F E C=>
   refine .func H k1 k2 j (λi v l a e=> ?_) λi v l a e=> ?_
   .obtain⟨z,j⟩:∃z,o[i]? =aA z:=by
     have:=(zAb.1 a).1;exact⟨o[i]'(by omega),zAs (by omega)⟩
    exact i3 i v z a j (E i v l a e)
   .obtain⟨z,j⟩:∃z,d[i]? =aA z:=by
     have:=(zAb.1 a).1;exact⟨d[i]'(by omega),zAs (by omega)⟩
    exact i4 i v z a j (C i v l a e)
 |nilFunc=>cases k;exact .nilFunc
 |iface t h m=>
  cases k with
  |iface _ g=>exact .iface t (m g)
 |nilIface=>cases k;exact .nilIface
 |jM=>cases k;exact .jM
 |gX=>cases k;exact .gX
 | @agg cs d B A m=>
  cases k with
  |agg k1 k2=>
   refine .agg k1 λi v l a e=> ?_;obtain⟨z,j⟩:∃z,d[i]? =aA z:=by have:=(zAb.1 a).1;exact⟨d[i]'(by omega),zAs (by omega)⟩
   exact m i v z a j (k2 i v l a e)
 | @tuple cs d B A m=>
  cases k with
  |tuple k1 k2=>
   refine .tuple k1 λi v l a e=> ?_;obtain⟨z,j⟩:∃z,d[i]? =aA z:=by have:=(zAb.1 a).1;exact⟨d[i]'(by omega),zAs (by omega)⟩
   exact m i v z a j (k2 i v l a e)
 |junk J _=>exact absurd J r.1
 |same I _=>exact absurd I r.2.1
 |void q _=>exact absurd q (r.2.2 _)
def aW.both {Al Aw:zF}{π:Rn}{D:zP}{c c':zA}(g:¬Aw 1000000/\¬Aw 1000001/\∀k,¬Aw (1000002+k))(f:∀k,Al (1000002+k)->¬D k)(h:aW Aw (dE D) c c)(k:aW Al π c c'):aW Aw (λb j=>D b/\π b j) c c':=
 ⟨k.size,λi v e d a=>(h.at' i v v d d).both g f (k.at' i v e d a)⟩
noncomputable def QB (D:zP)(v:zW)(os:Os):zW:=
 open Classical in {v with heap:=v.heap.mapIdx λi o=>if D i then(match o with|aI c t _=>aI c t (0,c.size)|o=>o)else o,os}
def qJ {D:zP}{v:zW}{os:Os}{b:Nat}(a:D b){c:zA}{t:zD}{fr:Nat×Nat}(h:v.heap[b]? =aA (aI c t fr)):(QB D v os).heap[b]? =aA (aI c t (0,c.size)):=by unfold QB;simp only[aC1,h,zAx,zAk a]
def uO {D:zP}{v:zW}{os:Os}{b:Nat}{o:Obj}(h:v.heap[b]? =aA o)(a:∀c t fr,o≠aI c t fr):(QB D v os).heap[b]? =aA o:=by
 unfold QB;simp only[aC1,h,zAx];split
 .cases o<;>first|rfl|exact absurd rfl (a _ _ _)
 .rfl
def IK {D:zP}{v:zW}{os:Os}:(QB D v os).heap.size=v.heap.size:=by simp[QB]
structure Plain (P:zZ)(Aw:zF)(D:zP)(v:zW):Prop where
 ok:Ok P (dE D)
 low:P.globals.size<v.heap.size
 blk:∀b,D b->(∃c t fr,v.heap[b]? =aA (aI c t fr)/\aW Aw (dE D) c c/\(∀(i:Nat) m,c[i]?≠aA (.int aP m))/\fr.2<=c.size)\/(b<=P.globals.size/\∃o,v.heap[b]? =aA o/\EG o)
section
variable {P:zZ}{Al Aw:zF}{D:zP}{π:Rn}{u v w:zW}
def Plain.frozen (h:Plain P Aw D u)(os:Os):cB P Aw K0 (dE D) (QB D u os) (QB D u os):=by
 refine⟨h.ok,λb l a=> ?_,λ_ _=>rfl,λb a=>a.elim,by rw[IK];exact⟨h.low,h.low⟩,rfl,λb a=>a.elim⟩;obtain⟨e,f⟩:=a;subst e;obtain⟨c,t,k,d,i,g,j⟩|⟨d,o,i,g⟩:=h.blk b f
 .exact aG ⟨c,c,t,_,_,qJ f d,qJ f d,i,λx=>x.elim,λ_=>rfl,λx=>x.1.elim⟩
 .have:=uO (D:=D) (os:=os) i g.1;exact aH (aG ⟨d,o,this,this,g⟩)
def Plain.wD (_h:Plain P Aw D u)(os:Os)(e:zT)(d:Nat):rS D u ((QB D u os).re e d):=λb g o h=>by
 show(QB D u os).heap[b]? =aA o\/∃c t a f,o=aI c t a/\(QB D u os).heap[b]? =aA (aI c t f)
 cases o with
 |cells c t a=>exact aH ⟨c,t,a,_,rfl,qJ g h⟩
 |_=>exact aG (uO h (by simp))
def Plain.Ht (C:¬Aw 1000000/\¬Aw 1000001/\∀k,¬Aw (1000002+k))(B:∀k,Al (1000002+k)->¬D k)(h:Plain P Aw D u)(r:∀b,D b->u.heap[b]? =v.heap[b]?)(l:cB P Al K0 π v w){w':zW}(q:∀b i,π b i->w'.heap[i]? =w.heap[i]?)(yQ:P.globals.size<w'.heap.size):
  cB P Aw ⟨D,aB,False⟩ (λb i=>D b/\π b i) ((QB D u w'.os).re w'.tape w'.drawn) w':=by
 refine⟨⟨λa d=>l.ok.inj a.2 d.2,λa d=>l.ok.base a.2 d,λb e=>⟨(h.ok.nB b e).2,l.ok.nB b e⟩⟩,λb i e=> ?_,λ_ _=>rfl,λb e=> ?_,⟨by show _<(QB D u w'.os).heap.size;rw[IK];exact h.low,yQ⟩,rfl,λb e=> ?_⟩
 .obtain⟨m,e⟩:=e;show Nn Aw _ _ b (QB D u w'.os).heap[b]? _\/(_/\∃o,(QB D u w'.os).heap[b]? =aA o/\_)\/_
  rw[q b i e];obtain⟨c,t,z,a,d,j,E⟩|⟨a,o,d,j⟩:=h.blk b m
  .rw[qJ m a];rw[r b m]at a;obtain⟨c1,p,t1,f1,n,g,g2,f,F,s⟩|⟨_,o,g,_,f⟩|⟨y,A,g,_,f⟩:=l.blk b i e
   .rw[a]at g;cases g;refine aG ⟨c,p,t,_,n,rfl,g2,d.both C B f,λ_=>⟨rfl,zAa _,j,?_⟩,λx=>absurd m x,λx=>x.1.elim⟩;rw[s.1 (λx=>x)];exact E
   .rw[a]at g;cases g;exact absurd rfl (f.1 _ _ _)
   .rw[a]at g;cases g;cases f
  .rw[uO d j.1];rw[r b m]at d;obtain⟨c1,p,t1,f1,n,g,g2,f,F,s⟩|⟨_,G,g,g2,f⟩|⟨y,A,g,_,f⟩:=l.blk b i e
   .rw[d]at g;cases g;exact absurd rfl (j.1 _ _ _)
   .rw[d]at g;cases g;exact aH (aG ⟨a,o,rfl,g2,j⟩)
   .rw[d]at g;cases g;cases f with
    |view=>exact absurd rfl (j.2.1 _ _)
    |number=>exact absurd rfl (j.2.2.1 _ _)
 .show b<(QB D u w'.os).heap.size
  rw[IK];obtain⟨c,t,z,a,_⟩|⟨_,o,a,_⟩:=h.blk b e
  .exact(zAb.1 a).1
  .exact(zAb.1 a).1
 .show∃o,(QB D u w'.os).heap[b]? =aA o/\_
  obtain⟨c,t,z,a,_⟩|⟨_,o,a,d⟩:=h.blk b e
  .exact⟨_,qJ e a,aG ⟨_,_,_,rfl⟩⟩
  .exact⟨_,uO a d.1,aH d⟩
end
end Go.Ren
namespace Go.Ga
open Go.Conc Go.Ren Go.Proofs Go.Tr
structure Fork (N:Nat)(pa:zO)(bp o bt:Nat)(D:zP)(dd:Nat->Int)(sa:Nat->zO)(sl sc:Nat->Nat)(strs:Nat->ByteArray)(u:zW):Prop where
 lt:N<2147483647
 Xw:0<N->pa=aA ⟨bp,o,aB⟩
 Ws:0<N->bp+1<u.heap.size
 q0:∀i,i<N->u.cell? ⟨bp,o+i*2,aB⟩=aA (.int aD (dd i))
 q1:∀i,i<N->u.cell? ⟨bp,o+i*2+1,aB⟩=aA (.slice (sa i) (sl i) (sc i))
 plain:Plain zq Qw.Al D u
 top:D bt
 part:∀i,i<N->∀a,sa i=aA a->D a.block
 low:∀b,D b->b+1<u.heap.size
 work:∀i,i<N->∀W,rS D u W->Calls zq 171 #[.pointer (aA ⟨bt,0,aB⟩),.agg #[.int aD (dd i),.slice (sa i) (sl i) (sc i)]] W λe W'=>e=aL (.string (strs i))/\Go.RowKit.Below W.heap.size W W'
section
variable {N:Nat}{pa:zO}{bp o bt:Nat}{D:zP}{dd:Nat->Int}{sa:Nat->zO}{sl sc:Nat->Nat}{strs:Nat->ByteArray}{u:zW}
def Fork.re (h:Fork N pa bp o bt D dd sa sl sc strs u)(a:zT)(d:Nat):Fork N pa bp o bt D dd sa sl sc strs (u.re a d):=
 ⟨h.lt,h.Xw,h.Ws,h.q0,h.q1,⟨h.plain.ok,h.plain.low,h.plain.blk⟩,h.top,h.part,h.low,λi b W c=>h.work i b W c⟩
def AO {Al:zF}{π:Rn}{a b a' c:zY}(h:bG Al π a a')(k:bG Al π b c):aW Al π #[a,b] #[a',c]:=by have:=(aW.one h).append (aW.one k);simpa using this
def IS {f:zN}(h:¬Qz.iM f)(xs:zA)(k:CallKind):Frame.enter Tryz.prog f xs k=Frame.enter zq f xs k:=by unfold Frame.enter;rw[Qz.same h]
def Mz:Qw.Al 171:=by
 show Qw.ck.al 171=aE
 kernel_rfl
def Fork.QH {Al:zF}(hV:∀k,Al (1000002+k)->¬D k)(hF:Fork N pa bp o bt D dd sa sl sc strs u){v w:zW}{π:Rn}(X:∀b,D b->u.heap[b]? =v.heap[b]?)(S:cB zq Al Go.Ren.K0 π v w){old:zP}(l:∀b j,π b j->old j){i:Nat}(I:i<N){p:Nat}(M:π bt p){s:zO}(m:AI π (sa i) s)
  (J:zW->Prop) (t:zP) (w':zW) (T:∀b,old b->t b) (h2:∀b,old b->w'.heap[b]? =w.heap[b]?):Works J t w' 171 #[.pointer (aA ⟨p,0,aB⟩),.agg #[.int aD (dd i),.slice s (sl i) (sc i)]] (strs i):=by
 intro c cs V Z
 have yQ:zq.globals.size<w'.heap.size:=(Z _ (T _ (l _ _ (S.ok.nB _ (zAa _))))).2
 have hW:=Plain.Ht ⟨Qw.nv.1,Qw.nf 1000001 (by omega),Qw.nv.2⟩ hV hF.plain X S (w':=w') (λb j B=>h2 j (l b j B)) yQ
 have z:AI (dE D) (sa i) (sa i):=by
  cases r:sa i with
  |none=>exact .none
  |some a=>exact .some ⟨⟨rfl,hF.part i I a r⟩,rfl,rfl⟩
 have n:AI (λb j=>D b/\π b j) (sa i) s:=by
  cases r:sa i with
  |none=>rw[r]at m;cases m;exact .none
  |some a=>
   rw[r]at m;cases m with
   |some h=>exact .some ⟨⟨hF.part i I a r,h.1⟩,h.2⟩
 have ha:aW Qw.Al (λb j=>D b/\π b j) #[.pointer (aA ⟨bt,0,aB⟩),.agg #[.int aD (dd i),.slice (sa i) (sl i) (sc i)]] #[.pointer (aA ⟨p,0,aB⟩),.agg #[.int aD (dd i),.slice s (sl i) (sc i)]]:=by have y:=AO (Al:=Qw.Al) (.int aD (dd i)) (.slice n (sl i) (sc i));exact AO (.pointer (.some ⟨⟨hF.top,M⟩,rfl,rfl⟩)) (.agg y.size y.at')
 have r:aW Qw.Al (dE D) #[.pointer (aA ⟨bt,0,aB⟩),.agg #[.int aD (dd i),.slice (sa i) (sl i) (sc i)]] #[.pointer (aA ⟨bt,0,aB⟩),.agg #[.int aD (dd i),.slice (sa i) (sl i) (sc i)]]:=by have y:=AO (Al:=Qw.Al) (.int aD (dd i)) (.slice z (sl i) (sc i));exact AO (.pointer (.some ⟨⟨rfl,hF.top⟩,rfl,rfl⟩)) (.agg y.size y.at')
 have E:∀b,¬Go.Ren.K0 b:=λb h=>h
 have hE:=Go.Ren.ends_of_calls (P:=zq) (Al:=Qw.Al) Qw.nv Qw.PK Mz (w:=QB D u w'.os) r (hF.plain.frozen w'.os) (R:=λx _=>x= .string (strs i)) (λ_ _ _ _ h=>h) λU d=>(hF.work i I _ (hF.plain.wD w'.os U d)).mono λe _ Y=>⟨_,Y.1,rfl⟩
 have C:¬Qz.iM 171:=by decide
 have A:=kF (P:=zq) 171 #[.pointer (aA ⟨bt,0,aB⟩),.agg #[.int aD (dd i),.slice (sa i) (sl i) (sc i)]]
 obtain⟨W,B⟩:=ZM (P:=zq) (Al:=Qw.Al) (K:=⟨D,aB,False⟩) (fs:=Tryz.prog.funcs) (J:=J) (main:=aF) (c:=c) (cs:=cs) rfl (Qw.lU _ λh=>h) (Qw.PK _ E) Qz.shape (λf xs own v D O H _ _ _=>H (Qz.same (Qw.XQ O)).symm) hE
  (T:=λb j=>D b/\π b j) (E:=Frame.enter zq 171 #[.pointer (aA ⟨p,0,aB⟩),.agg #[.int aD (dd i),.slice s (sl i) (sc i)]] .normal) (i:=[]) (w:=w') (rd:=t) (rw:=V) (D:=D)
  ⟨cW.enter (Qw.lU _ λh=>h) Mz ha (aG rfl),.nil,hW⟩ ⟨cW.enter (Qw.PK _ E) Mz r (aG rfl),.nil,hF.plain.frozen w'.os,Qw.nv⟩ ⟨A.1,A.2.1,by simp⟩ (λx F=>by simp only[zAw]at F;subst F;rw[A.2.2];exact(Qz.same C).symm) (λb j B=>aG ⟨B.1,T _ (l _ _ B.2)⟩)
 rw[Qz.back]at B
 refine⟨W,?_⟩
 rw[IS C]
 refine cX.mono (λrd rw g w h=> ?_) B
 obtain⟨G,x,x',v,ρ,es,F,y,q,L⟩:=h
 subst F
 cases y
 rw[Qz.back]at q
 exact⟨G,es,q,L⟩
end
end Go.Ga
namespace Go.Ren
open Go.Conc (G)
section
variable {P:zZ}{Al:zF}{π:Rn}{v w v' w':zW}
def plus (π:Rn)(c c':Nat):Rn:=λb a=>π b a\/(b=c/\a=c')
def wY {K:Kp}(h:cB P Al K π v w){b a:Nat}(c:π b a):b<v.heap.size:=by
 obtain⟨_,_,_,_,_,e,_⟩|⟨_,_,e,_⟩|⟨_,_,e,_⟩:=h.blk b a c
 .exact(zAb.1 e).1
 .exact(zAb.1 e).1
 .exact(zAb.1 e).1
def sJ {K:Kp}(h:cB P Al K π v w){b a:Nat}(c:π b a):a<w.heap.size:=by
 obtain⟨_,_,_,_,_,_,e,_⟩|⟨_,_,_,e,_⟩|⟨_,_,_,e,_⟩:=h.blk b a c
 .exact(zAb.1 e).1
 .exact(zAb.1 e).1
 .exact(zAb.1 e).1
def KX (h:cB P Al K0 π v w)(z:∀b f,π b f->v'.heap[b]? =v.heap[b]?)(u:∀b f,π b f->w'.heap[f]? =w.heap[f]?){c c':Nat}(H:v.heap.size<=c)(D:w.heap.size<=c'){xs l:zA}{ty:zD}(e:v'.heap[c]? =aA (aI xs ty (0,0)))(G:w'.heap[c']? =aA (aI l ty (0,0)))
  (t:∀ρ,aW Al ρ xs l) (C:P.globals.size<v'.heap.size) (m:P.globals.size<w'.heap.size) (B:w'.os=v'.os) (A:∀k,w'.tape (w'.drawn+k)=v'.tape (v'.drawn+k)):cB P Al K0 (plus π c c') v' w':=by
 refine⟨⟨λ{a K b f} j i=> ?_,λ{b f} j i=> ?_,λb d=>aG (h.ok.nB b d)⟩,λb f d=> ?_,λk _=>A k,λb d=>d.elim,⟨C,m⟩,B,λb d=>d.elim⟩
 .obtain j|⟨rfl,rfl⟩:=j
  .obtain i|⟨rfl,rfl⟩:=i
   .exact h.ok.inj j i
   .have:=wY h j;have:=sJ h j;constructor<;>intro<;>omega
  .obtain i|⟨J,I⟩:=i
   .have:=wY h i;have:=sJ h i;constructor<;>intro<;>omega
   .constructor<;>intro<;>omega
 .obtain j|⟨rfl,rfl⟩:=j
  .exact h.ok.base j i
  .have:=h.low;omega
 .obtain d|⟨rfl,rfl⟩:=d
  .have r:∀x y,π x y->plus π c c' x y:=λ_ _ x=>aG x;rw[z b f d,u b f d];obtain⟨c1,q,t1,f1,p,o,g2,n,F,E⟩|g|⟨y,s,o,g2,n⟩:=h.blk b f d
   .exact aG ⟨c1,q,t1,f1,p,o,g2,n.mono r,F,E⟩
   .exact aH (aG g)
   .exact aH (aH ⟨y,s,o,g2,n.mono r⟩)
  .exact aG ⟨xs,l,ty,_,_,e,G,t _,λx=>x.elim,λ_=>rfl,λx=>x.1.elim⟩
end
end Go.Ren
namespace Go.Ga
open Go.Conc Go.Ren Go.Proofs Go.Tr
def TY {xs:zA}(i:Nat)(h:xs.size<=i):(full xs).getD i undef=undef:=by unfold full;rw[zBi,zCu h,zGl];split<;>rfl
def La {xs ys:zA}(d:xs.size<=20)(c:ys.size<=20)(h:∀i,i<20->(full xs).getD i undef=(full ys).getD i undef):full xs=full ys:=by
 apply zCd;intro i;have b:=lS d;have s:=lS c;obtain e|e:=zDx i 43
 .have k:∀zs:zA,zs.size=43->zs[i]? =aA (zs.getD i undef):=λzs f=>by
   rw[zBi,zAs (by omega)];rfl
  rw[k _ b,k _ s];congr 1;obtain a|a:=zDx i 20
  .exact h i a
  .rw[TY i (by omega),TY i (by omega)]
 .rw[zBk (by omega),zBk (by omega)]
def Ih {tm tm':zA}(h:told tm=told tm'):∀i,i<20->tm.getD i undef=tm'.getD i undef:=by
 unfold told gC gA gB at h;simp only[List.cons.injEq,PanicEntry.mk.injEq,Value.iface.injEq,Value.func.injEq,and_true,true_and]at h;have h:=congrArg aC2 h;simp only[List.cons.injEq,Value.func.injEq,and_true,true_and]at h;obtain⟨B,A,b,a⟩:=h;have b:=congrArg aC2 b;have a:=congrArg aC2 a;simp only[List.cons.injEq,and_true]at b a;obtain⟨z,y,x,u,t,s,r,q,p⟩:=b;obtain⟨o,m,l,k,j,g,f,e,d⟩:=a;intro i c;match i,c with
 |0,_=>exact B
 |1,_=>exact A
 |2,_=>exact z
 |3,_=>exact y
 |4,_=>exact x
 |5,_=>exact u
 |6,_=>exact t
 |7,_=>exact s
 |8,_=>exact r
 |9,_=>exact q
 |10,_=>exact p
 |11,_=>exact o
 |12,_=>exact m
 |13,_=>exact l
 |14,_=>exact k
 |15,_=>exact j
 |16,_=>exact g
 |17,_=>exact f
 |18,_=>exact e
 |19,_=>exact d
 |n+20,c=>exact absurd c (by omega)
def Bh (A B:zY):(full #[A,B])[0]? =aA A:=by unfold full;rw[zDk (by simp)];rfl
def Bg (A B:zY):(full #[A,B])[1]? =aA B:=by unfold full;rw[zDk (by simp)];rfl
def Se (A B:zY){i:Nat}(h:i+2<43):(full #[A,B])[i+2]? =aA undef:=by unfold full;rw[zCu (by simp),zGl];simp;omega
def Kz {Al:zF}{π:Rn}{A B:zY}{x:zA}(h:aW Al π (full #[A,B]) (x++aCy (43-x.size) undef)):∃e d,bG Al π A e/\bG Al π B d/\x++aCy (43-x.size) undef=full #[e,d]:=by
 have b:=h.size;rw[lS (by simp)]at b;generalize x++aCy (43-x.size) undef=y at h b;have k:∀i,i<43->y[i]? =aA (y.getD i undef):=λi a=>by rw[zBi,zAs (by omega)];rfl
 refine⟨y.getD 0 undef,y.getD 1 undef,h.at' 0 A _ (Bh A B) (k 0 (by decide)),h.at' 1 B _ (Bg A B) (k 1 (by decide)),?_⟩
 apply zCd
 intro i
 obtain a|a:=zDx i 43
 .rw[k i a];match i,a with
  |0,_=>rw[Bh]
  |1,_=>rw[Bg]
  |i+2,a=>
   rw[Se _ _ a];have:=h.at' (i+2) undef _ (Se A B a) (k (i+2) a);generalize y.getD (i+2) undef=z at this;unfold undef at this⊢;cases this with
   | @tuple _ c k1 _=>have:c= #[]:=aC3 k1;rw[this]
 .rw[zBk (by omega),zBk (by rw[lS (by simp)];omega)]
abbrev lW (pa:zO)(N cp:Nat):zY:= .slice pa N cp
abbrev lM (bt:Nat):zY:= .func (.func 171) #[.pointer (aA ⟨bt,0,aB⟩)] #[]
def mY (c:List PanicEntry)(u:zW):Prop:=∃N pa bp o cp bt D dd sa sl sc strs,c=told (full #[lW pa N cp,lM bt])/\Fork N pa bp o bt D dd sa sl sc strs u
def Row (N:Nat)(strs:Nat->ByteArray)(W:zW)(x:zY)(c:zW):Prop:=∃a eV,x= .slice (aA ⟨a,0,aB⟩) N N/\W.heap.size<=a/\(∀b,b<W.heap.size->c.heap[b]? =W.heap[b]?)/\c.heap[a]? =aA (aI eV 9 (0,0))/\eV.size=N/\(∀i,i<N->eV[i]? =aA (.string (strs i)))/\c.os=W.os
def JS:Prop:=∀N pa bp o cp bt D dd sa sl sc strs u,Fork N pa bp o bt D dd sa sl sc strs u->∀W,u.heap.size<=W.heap.size->(∀b,b+1<u.heap.size->W.heap[b]? =u.heap[b]?)->Calls zq 28 #[lW pa N cp,lM bt] W λe a=>∃x,e=aL x/\Row N strs W x a
section
variable {N:Nat}{pa:zO}{bp o cp bt:Nat}{D D0:zP}{dd:Nat->Int}{sa:Nat->zO}{sl sc:Nat->Nat}{strs:Nat->ByteArray}{u v:zW}{xs:zA}
def Xn:Ee (λ_ _=>1) 0=1:=rfl
def Je {W a:zW}{x:zY}{b:zT}{d:Nat}(h:Row N strs (W.re b d) x a):Row N strs W x a:=h
def Qf (l:JS)(hF:Fork N pa bp o bt D dd sa sl sc strs u)(H:u.heap.size=v.heap.size+1)(f:∀b,b<v.heap.size->u.heap[b]? =v.heap[b]?)(y:full xs=full #[lW pa N cp,lM bt])(c:Closed zq Qz.Al D0 (Frame.enter zq 170 xs .normal) [] v):
  Lone zq [aY] (iK zq (Row N strs (boxed v aE))) (Frame.enter zq 170 xs .normal) [] (v.re (λ_ _=>1) 0):=by
 have j:∀b,¬Go.Ren.K0 b:=λb h=>h
 have q:(full #[lW pa N cp,lM bt]).size=43:=lS (by simp)
 have J:((boxed v aE).re (λ_ _=>1) 1).heap.size=v.heap.size+1:=by
  show(v.heap.push _).size=_
  rw[zBb]
 have h:=l N pa bp o cp bt D dd sa sl sc strs u hF ((boxed v aE).re (λ_ _=>1) 1) (by omega) λb I=>by
  rw[f b (by omega)];show(v.heap.push _)[b]? =_
  rw[zBh,zAh (by omega)]
 have F:(full #[lW pa N cp,lM bt]).getD 0 undef=lW pa N cp:=by rw[zBi,Bh];rfl
 have E:(full #[lW pa N cp,lM bt]).getD 1 undef=lM bt:=by rw[zBi,Bg];rfl
 have B:Calls zq 28 #[(full #[lW pa N cp,lM bt]).getD 0 undef,(full #[lW pa N cp,lM bt]).getD 1 undef] ((boxed v aE).re (λ_ _=>1) (0+1)) λe W=>∃x,e=aL x/\Row N strs (boxed v aE) x W:=by rw[F,E];exact h.mono λe W z=>z.imp λx m=>⟨m.1,Je m.2⟩
 obtain⟨x,w,p,A,g,t,s⟩:=UY (v:=v) q (λ_ _=>1) 0 (by rw[Xn];decide) (R:=Row N strs (boxed v aE)) B [aY]
 obtain⟨n,r⟩:=g
 have k:Frame.enter zq 170 xs .normal=gR (full #[lW pa N cp,lM bt]) [.code Qz.AE]:=by rw[IQ,<-y];rfl
 have a:Closed zq Qz.Al D0 (Frame.enter zq 170 xs .normal) [] (v.re (λ_ _=>1) 0):=⟨c.frame,.nil,jV c.world j _ _ _ _ (λ_ _=>rfl),c.nj⟩
 rw[k]at a⊢
 have i:runN zq n (lone (gR (full #[lW pa N cp,lM bt]) [.code Qz.AE]) ([]++[aY]) (v.re (λ_ _=>1) 0))= .next (lone p [aY] w):=r
 refine pF (P:=zq) (Al:=Qz.Al) Qz.lU (S:=iK zq (Row N strs (boxed v aE))) (fr':=p) (w':=w) (λD c=> ?_) n a i
 exact iK.of (R:=Row N strs (boxed v aE)) (λx u G d h=>h) s A c
end
def Jh {Al:zF}{π:Rn}{f:Nat}{B:zY}(h:bG Al π (lM f) B):∃b,π f b/\B=lM b:=by
 cases h with
 | @func _ v _ g _ ds k1 k2 u i t=>
  have o:ds= #[]:=aC3 k2;subst o;have k:g.size=1:=k1;obtain⟨l⟩:=g;match l,k with
  |[y],_=>
   have j:=i 0 _ _ rfl (rfl:(⟨[y]⟩:zA)[0]? =aA y);cases j with
   |pointer m=>
    cases m with
    | @some a q n=>obtain⟨p,r,s⟩:=q;obtain⟨e,d,c⟩:=n;dsimp only at e d c;subst d;subst c;exact⟨p,e,rfl⟩
def MG {α:Type}{T:α->α->Prop}{a:α}{l b:List α}(h:hQ T (a::l) b):∃c k,b=c::k/\T a c/\hQ T l k:=by
 cases h with
 |cons e d=>exact⟨_,_,rfl,e,d⟩
def Ve {xs ys:zA}(h:xs++aCy (43-xs.size) undef=ys++aCy (43-ys.size) undef):Frame.enter Tryz.prog 170 xs .normal=Frame.enter Tryz.prog 170 ys .normal:=by unfold Frame.enter;rw[Tryz.func170];have:Tryz.f170.ntmps=43:=Tryz.ntmps170;simp only[zAx,zCc,this,h]
def Sub.base {P:zZ}{S:zS}{fr:zC}{own:zL}{v:zW}{c:zT}{d:Nat}(g:¬S fr own v){x:VM}(h:Sub P S x (fr,own,v.re c d)):Sub P S x (fr,own,v):=by
 generalize f:(fr,own,v.re c d)=z at h;induction h with
 | @one x y h=>subst f;obtain⟨_,b,a,l,m,j,e⟩:=h;exact .one ⟨g,b,a,l,m,j,e⟩
 | @more x y z h k i=>exact .more h (i f)
def YF {P:zZ}{Al:zF}{S:zS}{fr c:zC}{cs:zL}{u:zW}{x:zY}(d:¬S fr (c::cs) u)(h:Go.Ren.Ends P Al S fr (c::cs) u)(i:fr.leaving P u (aL x)):
  (∃D,Closed P Al D (c.finish x) cs u)/\Go.Ren.Ends P Al S (c.finish x) cs u/\One P S (c.finish x,cs,u) (fr,c::cs,u):=by
 cases h with
 |stop h=>exact absurd h d
 |step a n m l j=>
  obtain⟨b,e⟩:=l u.tape u.drawn [] aE;rw[zAy,zAy]at e;have o:stepG P aE {frame:=fr,callers:=c::cs,status:= .running,dying:=aB} u= .go {frame:=(n u.tape u.drawn).1,callers:=(n u.tape u.drawn).2.1,status:= .running,dying:=aB} (n u.tape u.drawn).2.2 b:=e;have s1:step P (lone fr (c::cs) u)= .next (lone (n u.tape u.drawn).1 (n u.tape u.drawn).2.1 (n u.tape u.drawn).2.2):=step_lone_go (by rw[o];rfl);rw[step_leave_returned i]at s1;have s2:lone (c.finish x) cs u=lone (n u.tape u.drawn).1 (n u.tape u.drawn).2.1 (n u.tape u.drawn).2.2:=by injection s1
  have a3:u=(n u.tape u.drawn).2.2:=congrArg Machine.world s2
  have f:({frame:=c.finish x,callers:=cs,status:= .running,dying:=aB}:zH)={frame:=(n u.tape u.drawn).1,callers:=(n u.tape u.drawn).2.1,status:= .running,dying:=aB}:=by have:=congrArg Machine.gs s2;simpa [lone]using this
  have g:c.finish x=(n u.tape u.drawn).1:=congrArg Goroutine.frame f
  have a2:cs=(n u.tape u.drawn).2.1:=congrArg Goroutine.callers f
  have k1:=m u.tape u.drawn
  have k:=j u.tape u.drawn
  rw[<-g,<-a2,<-a3]at k1 k
  refine⟨k1,k,d,a,u.tape,u.drawn,aE,b,?_⟩
  show stepG P aE (G fr (c::cs)) u= .go (G (c.finish x) cs) u b
  rw[show stepG P aE (G fr (c::cs)) u=_ from e,<-g,<-a2,<-a3]
def LD {Al:zF}{N:Nat}{strs:Nat->ByteArray}{xs ys:zA}(e:xs.size=N)(d:ys.size=N)(k1:∀i,i<N->xs[i]? =aA (.string (strs i)))(k2:∀i,i<N->ys[i]? =aA (.string (strs i)))(ρ:Rn):aW Al ρ xs ys:=
 ⟨by omega,λi v c a h=>by
  have b:i<N:=by have:=(zAb.1 a).1;omega
  rw[k1 i b]at a
  rw[k2 i b]at h
  cases a
  cases h
  exact .string _⟩
def Pv {D:zP}{c:Nat}:plus (dE D) c c=dE λb=>D b\/b=c:=by
 funext b a;apply propext;constructor
 .rintro(⟨rfl,h⟩|⟨rfl,rfl⟩)
  .exact⟨rfl,aG h⟩
  .exact⟨rfl,aH rfl⟩
 .rintro⟨rfl,h|rfl⟩
  .exact aG ⟨rfl,h⟩
  .exact aH ⟨rfl,rfl⟩
section
variable {R:zR}{xs av:zA}{own own':zL}{v:zW}{D:zP}{Sh:zP}{gs:zG}{w:zW}{t:Trace}{q:Nat->Nat}{sl:Option (Nat×Nat)}{π:Rn}
def Ql {vb:Nat}(kj:JS)(hz:xs.size<=20)(I:QA zq Qm.prog.funcs Qm.Al 170 xs own v)(Z:Main zq Tryz.prog.funcs (Qz.Aj vb) Sh gs w t q π (Frame.enter zq 170 xs .normal) own v (Frame.enter zq 170 av .normal) own')
  (hg:gs[0]? =aA (G (Frame.enter ⟨zq.toTables,Tryz.prog.funcs⟩ 170 av .normal) own')) (Up:own≠[]) (hc:Closed zq Qz.Al D (Frame.enter zq 170 xs .normal) own v) (ht:CE (Frame.enter zq 170 xs .normal) own) (Yn:∀x∈own,Tryz.prog.funcs[x.fn]? =zq.funcs[x.fn]?)
  (hE:Go.Ren.Ends zq Qz.Al (Go.Ren.AtEnd zq R mY) (Frame.enter zq 170 xs .normal) own v):
  ZZ zq Tryz.prog.funcs Qz.Al (Qz.Aj vb) R mY (Apart zq Qm.prog.funcs Qm.Al) (Frame.enter zq 170 xs .normal,own,v) Sh π gs w sl t:=by
 have Wn:∀b,¬Go.Ren.K0 b:=λb h=>h
 obtain⟨u,Qn,Nu,mq⟩:=Uf Qz.lU Qz.Ue hz hc ht hE
 obtain⟨N,pa,bp,o,cp,bt,DW,dd,sa,M,sc,strs,he,hF⟩:=mq u.tape u.drawn
 replace hF:Fork N pa bp o bt DW dd sa M sc strs u:=hF
 have V:full xs=full #[lW pa N cp,lM bt]:=La hz (by simp) (Ih he)
 have mo:∀b,DW b->u.heap[b]? =v.heap[b]? :=λb z=>Nu b (by have:=hF.low b z;omega)
 have mv:aW (Qz.Aj vb) π (full xs) (av++aCy (43-av.size) undef):=by have h:=Z.Fh.frame.tmps;rw[IQ,IQ]at h;exact h
 rw[V]at mv
 obtain⟨A',B',hA,hB,tw⟩:=Kz mv
 obtain⟨ks,bz,rfl⟩:=Jh hB
 obtain⟨E,rfl,Nv⟩:∃E,A'=lW E N cp/\(0<N->AI π pa E):=by
  cases hA with
  |slice h _ _=>exact⟨_,rfl,λ_=>h⟩
  |void _ a0=>exact⟨aA a0,rfl,λh=>absurd h (zEt _)⟩
 obtain⟨uh,gf⟩:=Z.Sg vb Qz.Ut
 have Ys:¬DW vb:=λhD=>by
  have e:=mo vb hD;rw[gf]at e;obtain⟨c,t,fr,m,_,K,_⟩|⟨_,o,m,K⟩:=hF.plain.blk vb hD
  .rw[e]at m;cases m;exact K 0 0 rfl
  .rw[e]at m;cases m;exact K.1 _ _ _ rfl
 have hw:=Z.Fh.world
 have H:∀b y,π b y->y<w.heap.size/\¬Sh y:=λb y z=>⟨sJ hw z,Z.off b y z⟩
 obtain⟨B,Wq⟩:∃B,0<N->E=aA ⟨B,o,aB⟩/\π bp B:=by
  by_cases L:0<N
  .have Nv:=Nv L;rw[hF.Xw L]at Nv;cases Nv with
   | @some _ a' ha=>obtain⟨y,o',s'⟩:=a';obtain⟨m,C,K⟩:=ha;dsimp only at m C K;subst C;subst K;exact⟨y,λ_=>⟨rfl,m⟩⟩
  .exact⟨0,λh=>absurd h L⟩
 have Wl:∀k,0<N->(v.re w.tape w.drawn).cell? ⟨bp,k,aB⟩=u.cell? ⟨bp,k,aB⟩:=λk L=>by have:=hF.Ws L;simp only[World.cell?];rw[Nu bp (by omega)];rfl
 have gk:∀i,i<N->w.cell? ⟨B,o+i*2,aB⟩=aA (.int aD (dd i)):=λi I=>by
  obtain⟨x,x',m,C,K⟩|⟨m,_⟩:=hw.cell (a:=⟨bp,o+i*2,aB⟩) (a':=⟨B,o+i*2,aB⟩) ⟨(Wq (by omega)).2,rfl,rfl⟩
  .rw[Wl _ (by omega),hF.q0 i I]at m;cases m;cases K;exact C
  .rw[Wl _ (by omega),hF.q0 i I]at m;cases m
 have Yq:∀i,∃s,i<N->AI π (sa i) s/\w.cell? ⟨B,o+i*2+1,aB⟩=aA (.slice s (M i) (sc i)):=λi=>by
  by_cases I:i<N
  .obtain⟨x,x',m,C,K⟩|⟨m,_⟩:=hw.cell (a:=⟨bp,o+i*2+1,aB⟩) (a':=⟨B,o+i*2+1,aB⟩) ⟨(Wq (by omega)).2,rfl,rfl⟩
   .rw[Wl _ (by omega),hF.q1 i I]at m;cases m;generalize uy:sa i=si at K;generalize hli:M i=li at K C;generalize hci:sc i=ci at K C;cases K with
    |slice h _ _=>exact⟨_,λ_=>⟨h,C⟩⟩
    |void hV a0=>exact absurd (by have:=hF.part i I _ uy;rw[Qz.QL hV]at this;exact this) Ys
   .rw[Wl _ (by omega),hF.q1 i I]at m;cases m
  .exact⟨aB,λh=>absurd h I⟩
 obtain⟨c0,r,rfl⟩:∃c0 r,own=c0::r:=by
  cases own with
  |nil=>exact absurd rfl Up
  |cons a l=>exact⟨a,l,rfl⟩
 obtain⟨c,cs,rfl,ym,Yo⟩:=MG Z.Fh.own
 let X:Gc:={w,Sh,N,bp:=B,o,cp,f:=171,first:= #[.pointer (aA ⟨ks,0,aB⟩)],cap:= #[],d:=dd,sa:=λi=>Classical.choose (Yq i),sl:=M,sc,strs,m0:=gs.size,c,cs,pa:=E}
 have xt:gs[0]? =aA (G (Frame.enter Tryz.prog 170 #[.slice E N cp,X.fv] .normal) (X.c::X.cs)):=by rw[hg,Qz.back,Ve (ys:= #[lW E N cp,lM ks]) tw]
 have Zh:=Z.lv
 rw[Qz.back]at Zh
 obtain⟨n1,Uv,w1,ec,t1,q1,bo,eV,r1,g1,L1,C1,K1,pb,pd,Qp,ga,Yl⟩:=TX (X:=X) (sl:=sl) hF.lt Z.Ir gk (λi I=>(zAr (Yq i) I).2) (λL=>H bp B (Wq L).2) (λL=>(Wq L).1) Tryz.func171 (by decide) (by simp[Tryz.f171])
  (λi I J ay w' m C=>by
   have:=hF.QH (λk hk hD=>Ys (by rw[<-Qz.QL hk];exact hD)) (v:=v.re w.tape w.drawn) mo hw (old:=X.old) H I bz (zAr (Yq i) I).1 J ay w' m C;have e:X.first.push (.agg #[.int aD (X.d i),.slice (X.sa i) (X.sl i) (X.sc i)])++X.cap= #[.pointer (aA ⟨ks,0,aB⟩),.agg #[.int aD (dd i),.slice (Classical.choose (Yq i)) (M i) (sc i)]]:=by simp[X]
   rw[e]
   exact this) rfl xt Zh Z.calm
 have Yu:=Qf kj hF Qn Nu V ⟨hc.frame,.nil,hc.world,hc.nj⟩
 obtain⟨Va,l2,u2,D2,hS,Yz,hD2,zx,Q⟩:=Lone.Ij Qz.lU (T:=Go.Ren.AtEnd zq R mY) (cs:=c0::r) (λ_ _ _ hs=>oS hs) Yu ⟨hc.frame,.nil,jV hc.world Wn _ _ _ _ (λ_ _=>rfl),hc.nj⟩ (hE.re (λ_ _ _ τ d h=>h.re τ d) (λ_ _=>1) 0)
 obtain⟨rfl,x,nw,vf⟩:=hS
 obtain⟨j,Xb,hx,pg,n,p,P,A,S⟩:=vf u2.tape u2.drawn
 replace n:∀b,b<v.heap.size->u2.heap[b]? =v.heap[b]? :=λb z=>by
  have hs:(boxed v aE).heap.size=v.heap.size+1:=by show(v.heap.push _).size=_;rw[zBb]
  have:=n b (by omega)
  rw[show(u2.re u2.tape u2.drawn).heap=u2.heap from rfl]at this
  rw[this]
  show(v.heap.push _)[b]? =_
  rw[zBh,zAh (by omega)]
 replace p:u2.heap[j]? =aA (aI Xb 9 (0,0)):=p
 replace S:u2.os=v.os:=S
 have Y:v.heap.size<=j:=by
  have hs:(boxed v aE).heap.size=v.heap.size+1:=by show(v.heap.push _).size=_;rw[zBb]
  omega
 subst hx
 have vz:¬Go.Ren.AtEnd zq R mY Va ([]++c0::r) u2:=λh=>by
  obtain h|h:=h
  .cases h.1
  .cases h.1
 obtain⟨⟨D1,Za⟩,zy,gn⟩:=YF vz zx (by have:=nw u2.tape u2.drawn;rwa [kV]at this)
 have F:∀b y,π b y->plus π j bo b y:=λ_ _ h=>aG h
 have Uo:bG (Qz.Aj vb) (plus π j bo) (.slice (aA ⟨j,0,aB⟩) N N) (.slice (aA ⟨bo,0,aB⟩) N N):= .slice (.some (show bV (plus π j bo) ⟨j,0,aB⟩ ⟨bo,0,aB⟩from⟨aH ⟨rfl,rfl⟩,rfl,rfl⟩)) N N
 have U:=hw.low
 have yq:j<u2.heap.size:=(zAb.1 p).1
 have hB0:X.B0=w.heap.size:=rfl
 have hK1:=K1.size
 have tx:cB zq (Qz.Aj vb) Go.Ren.K0 (plus π j bo) (u2.re w1.tape w1.drawn) w1:=KX (v':=u2.re w1.tape w1.drawn) (w':=w1) hw (λb y z=>n b (wY hw z)) (λb y z=>K1.heap y (H b y z)) (c:=j) (c':=bo) Y (by omega) p Qp (LD P ga A Yl) (by have h:=U.1;show _<u2.heap.size;have C:(v.re w.tape w.drawn).heap.size=v.heap.size:=rfl;omega) (by have:=U.2;omega) (K1.os.trans (hw.os.trans S.symm)) (λ_=>rfl)
 have W:=iV c0 (.slice (aA ⟨j,0,aB⟩) N N)
 refine⟨n1,Uv,w1,ec,t1,q1,X.Sh',plus π j bo,c0.finish (.slice (aA ⟨j,0,aB⟩) N N),r,u2,D1,c.finish (.slice (aA ⟨bo,0,aB⟩) N N),cs,by rw[Qz.back];exact r1,g1,⟨by rw[Qz.back];exact L1,C1,λb z=> ?_,⟨(ym.mono F).finish Uo,Yo.imp λ_ _ h=>h.mono F,tx⟩,λb y z=> ?_,λb z=> ?_⟩,Za,?_,?_,zy,⟨K1.tape,K1.os,K1.output⟩,?_,?_,⟨F,by omega,λy z m C=>⟨K1.heap y ⟨z,C⟩,λb VT=> ?_,λh=> ?_⟩⟩⟩
 .obtain h|h|h|h:=Gc.wM Z.Ir b z<;>omega
 .obtain z|⟨rfl,rfl⟩:=z
  .have m:=H b y z;intro h;obtain h|h:=h
   .exact m.2 h
   .have:=m.1;omega
  .intro h;obtain h|h|h|h:=Gc.wM Z.Ir _ h<;>omega
 .obtain⟨m,C⟩:=Z.Sg b z;have bU:=(zAb.1 C).1;refine⟨λy hr=> ?_,(n b bU).trans C⟩;obtain hr|⟨rfl,_⟩:=hr
  .exact m y hr
  .omega
 .have L:=ht.up c0 (by simp);exact⟨W.2.1.trans L.2.1,W.2.2.trans L.2.2,λg hg=>ht.up g (zBe _ hg)⟩
 .intro g hg;obtain rfl|hg:=zAg.1 hg
  .rw[W.1];exact Yn c0 (by simp)
  .exact Yn g (zBe _ hg)
 .right;obtain e|Q:=Q
  .exfalso;have e1:Va=Frame.enter zq 170 xs .normal:=congrArg (λs:VM=>s.1) e;have:=(nw u2.tape u2.drawn).1;rw[e1]at this;cases this
  .exact Sub.base (oS (l:=[]) (cs:=c0::r) (aG rfl)) (.more gn Q)
 .obtain⟨D',pj,ft,gl,O⟩:=I;obtain⟨a',k',e,oy,yb⟩:=MG gl;cases e;refine⟨λb=>D' b\/b=j,?_⟩;have hs:∀b y,dE D' b y->dE (λb=>D' b\/b=j) b y:=λb y h=>⟨h.1,aG h.2⟩;have Yh:=KX (v':=u2) (w':=u2) O (λb y z=>n b (wY O z)) (λb y z=>n y (sJ O z)) (c:=j) (c':=j) Y Y p p (LD P P A A) (by have:=O.low.1;omega) (by have:=O.low.1;omega) rfl (λ_=>rfl);rw[Pv]at Yh;exact⟨(oy.mono hs).finish (.slice (.some (show bV (dE λb=>D' b\/b=j) ⟨j,0,aB⟩ ⟨j,0,aB⟩from⟨⟨rfl,aH rfl⟩,rfl,rfl⟩)) N N),yb.imp λ_ _ h=>h.mono hs,Yh,Qm.nj⟩
 .obtain VT|⟨_,rfl⟩:=VT
  .exact m b VT
  .omega
 .obtain h|h:=h
  .exact C h
  .omega
end
end Go.Ga
