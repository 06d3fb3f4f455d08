import Derived.ProofKit
import Derived.RowKit3
import Derived.WalkKit
import Derived.Deep.LoopGhost
import Derived.Deep.Light
import Derived.LoopN
import Derived.Test.YtghpcgagijhlaaaGreatDoorP22
set_option linter.all false
set_option maxRecDepth 100000
set_option maxHeartbeats 16000000
open Option renaming some->aA,none->aB
open Bool renaming true->aE,false->aF
open Or renaming inl->aG,inr->aH
open Go.Ending renaming returned->aL
open Go.Obj renaming cells->aI
open Go.IntKind renaming i64->aD,u8->aP
open Array renaming ofFn->aC4,getElem_ofFn->aC5
open Classical renaming choose->aCJ
namespace Go.Ga
open Go.Conc Go.Ren Go.Proofs Go.Tr
abbrev AJ (vb:Nat):zF:=λf=>f=1000000\/f=1000002+vb
abbrev AS:zF:=λf=>f=1000001
abbrev AB (N:Nat):zF:=λf=>f=1000001\/f=1000002+N
structure Start (D:zP)(V W:zW):Prop where
 nB:∀b,b<=Tryz.prog.globals.size->D b
 lt:∀b,D b->b<W.heap.size
 size:V.heap.size=W.heap.size+1
 Sg:V.heap[W.heap.size]? =aA (aI #[.int aP 0] 0 (0,0))
 tape:W.tape=V.tape
 drawn:W.drawn=V.drawn
 os:W.os=V.os
 out:W.output=V.output
 blk:∀b,D b->(∃c c' t fr,V.heap[b]? =aA (aI c t fr)/\W.heap[b]? =aA (aI c' t fr)/\aW (AJ W.heap.size) (dE D) c c'/\aW AS (dE λx=>D x\/x=W.heap.size) c c)\/(b<=Tryz.prog.globals.size/\∃o,V.heap[b]? =aA o/\W.heap[b]? =aA o/\EG o)
structure Beside (D:zP)(N:Nat)(U V:zW):Prop where
 size:U.heap.size=V.heap.size
 os:V.os=U.os
 blk:∀b,D b->(∃c c' t fr,U.heap[b]? =aA (aI c t fr)/\V.heap[b]? =aA (aI c' t fr)/\aW (AB N) (dE D) c c')\/(b<=Tryz.prog.globals.size/\∃o,U.heap[b]? =aA o/\V.heap[b]? =aA o/\EG o)
def bG.al {Al A:zF}{π:Rn}(g:∀f,Al f->A f){x y:zY}(h:bG Al π x y):bG A π x y:=by
 induction h with
 |bool b=>exact .bool b
 |int i n=>exact .int i n
 |string s=>exact .string s
 |pointer h=>exact .pointer h
 |slice h n c=>exact .slice h n c
 |func k e p j _ _ i3 i4=>exact .func (g _ k) e p j i3 i4
 |nilFunc=>exact .nilFunc
 |iface t _ d=>exact .iface t d
 |nilIface=>exact .nilIface
 |jM=>exact .jM
 |gX=>exact .gX
 |agg e _ d=>exact .agg e d
 |tuple e _ d=>exact .tuple e d
 |junk o h=>exact .junk (g _ o) h
 |same m x=>exact .same (g _ m) x
 |void l a=>exact .void (g _ l) a
def aW.al {Al A:zF}{π:Rn}(e:∀f,Al f->A f){x y:zA}(h:aW Al π x y):aW A π x y:=⟨h.size,λi a b d c=>bG.al e (h.at' i a b d c)⟩
def two {Al:zF}{a b:zN}(h:Al a/\Al b)(f:zN)(x:f=a\/f=b):Al f:=x.elim (λe=>e▸h.1) λe=>e▸h.2
section
variable {P:zZ}{Al:zF}{D:zP}{U V W:zW}{N:Nat}
theorem Ks {E:zP}(h:∀b,b<=P.globals.size->E b):Ok P (dE E):=⟨λ{a g b f} c e=>by rw[c.1,e.1],λ{b f} c _=>c.1,λb d=>⟨rfl,h b d⟩⟩
def Start.low (h:Start D V W):Tryz.prog.globals.size<W.heap.size:=h.lt _ (h.nB _ (zAa _))
def Start.self (j:Al 1000001)(h:Start D V W)(l:P.globals.size=Tryz.prog.globals.size):cB P Al Go.Ren.K0 (dE λx=>D x\/x=W.heap.size) V V:=by
 refine⟨Ks λb a=>aG (h.nB b (by omega)),λb m a=> ?_,λ_ _=>rfl,λb a=>a.elim,by have:=h.low;have:=h.size;omega,rfl,λb a=>a.elim⟩;obtain⟨e,f⟩:=a;subst e;obtain f|rfl:=f
 .obtain⟨c,c',t,i,g,_,_,d⟩|⟨g,o,d,_,k⟩:=h.blk b f
  .exact aG ⟨c,c,t,i,i,g,g,aW.al (λ_ x=>by rw[x];exact j) d,λx=>x.elim,λ_=>rfl,λx=>x.1.elim⟩
  .exact aH (aG ⟨by omega,o,d,d,k⟩)
 .exact aG ⟨_,_,_,_,_,h.Sg,h.Sg,.one (.int _ _),λx=>x.elim,λ_=>rfl,λx=>x.1.elim⟩
def Start.Ht (k:Al 1000000/\Al (1000002+W.heap.size))(h:Start D V W)(m:P.globals.size=Tryz.prog.globals.size):cB P Al Go.Ren.K0 (dE D) V W:=by
 refine⟨Ks λb a=>h.nB b (by omega),λb n a=> ?_,λ_ _=>by rw[h.tape,h.drawn],λb a=>a.elim,by have:=h.low;have:=h.size;omega,h.os,λb a=>a.elim⟩;obtain⟨e,j⟩:=a;subst e;obtain⟨c,c',t,i,g,f,d,_⟩|⟨g,o,d,f,l⟩:=h.blk b j
 .exact aG ⟨c,c',t,i,i,g,f,aW.al (two k) d,λx=>x.elim,λ_=>rfl,λx=>x.1.elim⟩
 .exact aH (aG ⟨by omega,o,d,f,l⟩)
def Beside.Ht (n:Al 1000001/\Al (1000002+N))(f:Start D V W)(h:Beside D N U V)(q:P.globals.size=Tryz.prog.globals.size)(j:zT)(d:Nat):cB P Al Go.Ren.K0 (dE D) (U.re j d) (V.re j d):=by
 refine⟨Ks λb a=>f.nB b (by omega),λb r a=> ?_,λ_ _=>rfl,λb a=>a.elim,?_,h.os,λb a=>a.elim⟩
 .obtain⟨e,m⟩:=a;subst e;obtain⟨c,c',t,l,k,i,g⟩|⟨k,o,g,i,p⟩:=h.blk b m
  .exact aG ⟨c,c',t,l,l,k,i,aW.al (two n) g,λx=>x.elim,λ_=>rfl,λx=>x.1.elim⟩
  .exact aH (aG ⟨by omega,o,g,i,p⟩)
 .show _<U.heap.size/\_<V.heap.size
  have:=f.low;have:=f.size;have:=h.size;omega
end
def Qz.nB:zq.globals.size=Tryz.prog.globals.size:=by rw[Qz.mZ]
def Jv {fr:zC}{v:zW}(h:Apart zq Qm.prog.funcs Qm.Al fr [] v){c:List PanicEntry}(d:fr.mode= .panicking c)(g:mY c v):False:=by
 obtain⟨D,i⟩:=h;obtain⟨N,pa,bp,o,cp,k,l,j,sa,sl,sc,strs,e,_⟩:=g;have a:=i.frame.mode;rw[d,e]at a;unfold told gC at a;cases a with
 |panicking h=>
  cases h with
  |cons h _=>
   have b:=h.1;dsimp only at b;cases b with
   |iface _ b=>
    cases b with
    |func f=>exact Qm.fg f
def Qz.Uk {k:Nat->Bool}{f:zN}{fn:Func}(h:Qz.Ak k f)(c:zq.funcs[f]? =aA fn):zq.inits.idxOf? f=aB:=by
 have b:((List.range 254).all λf=> !Qz.al f||(Tryz.prog.inits.idxOf? f).isNone)=aE:=by kernel_rfl
 have bU:f<254:=by have a:=(zAb.1 c).1;rw[FO.1]at a;exact a
 rw[Qz.mZ]
 have h:(bif decide (f<254)then Qz.al f else k f)=aE:=h
 rw[Mg bU]at h
 have a:=zCa.1 b f (zBw.2 bU)
 rw[h]at a
 simpa using a
def mY.re {c:List PanicEntry}{u:zW}(h:mY c u)(a:zT)(d:Nat):mY c (u.re a d):=by obtain⟨N,pa,bp,o,cp,f,D,b,sa,sl,sc,strs,e,hF⟩:=h;exact⟨N,pa,bp,o,cp,f,D,b,sa,sl,sc,strs,e,hF.re a d⟩
def Qm.Bt (K:Kp)(h:∀b,¬K b):cJ ⟨zq.toTables,Qm.prog.funcs⟩ Qm.Al K:=by rw[Qz.Zz];exact Qm.lU K h
section
variable {R:zR}
def jump {vb:Nat}(j:JS)(f:zN)(xs c:zA)(own own':zL)(v:zW)(D:zP)(Sh:zP)(k:zG)(w:zW)(t:Trace)(q:Nat->Nat)(sl:Option (Nat×Nat))(π:Rn)(_hal:Qz.Al f)(g:Tryz.prog.funcs[f]?≠zq.funcs[f]?)(m:xs.size<=20)(l:QA zq Qm.prog.funcs Qm.Al f xs own v)
  (r:Main zq Tryz.prog.funcs (Qz.Aj vb) Sh k w t q π (Frame.enter zq f xs .normal) own v (Frame.enter zq f c .normal) own') (o:k[0]? =aA (G (Frame.enter ⟨zq.toTables,Tryz.prog.funcs⟩ f c .normal) own')) (d:own≠[]) (p:Closed zq Qz.Al D (Frame.enter zq f xs .normal) own v) (n:CE (Frame.enter zq f xs .normal) own) (e:∀x∈own,Tryz.prog.funcs[x.fn]? =zq.funcs[x.fn]?)
  (b:Go.Ren.Ends zq Qz.Al (Go.Ren.AtEnd zq R mY) (Frame.enter zq f xs .normal) own v):ZZ zq Tryz.prog.funcs Qz.Al (Qz.Aj vb) R mY (Apart zq Qm.prog.funcs Qm.Al) (Frame.enter zq f xs .normal,own,v) Sh π k w sl t:=by
 have a:Qz.iM f:=zCj λh=>g (Qz.same h).symm
 obtain rfl|rfl|rfl|rfl|rfl|rfl|rfl|rfl:=a
 .obtain⟨_,i,_⟩:=l;exact absurd i Qm.Yb
 .exact(refused Qz.func212 rfl b).elim
 .exact(refused Qz.func213 rfl b).elim
 .exact(refused Qz.func214 rfl b).elim
 .exact(refused Qz.func215 rfl b).elim
 .exact(refused Qz.func216 rfl b).elim
 .exact(refused Qz.func217 rfl b).elim
 .exact Ql j m l r o d p n e b
def Left (R:zR)(D:zP)(W:zW)(b:zY)(w':zW):Prop:=
 ∃x v a S,R x v/\bG (Qz.Aj W.heap.size) a x b/\cB zq (Qz.Aj W.heap.size) Go.Ren.K0 a (v.re w'.tape w'.drawn) w'/\qS (dE D) (λ_=>False) W a S w'/\w'.tape=W.tape/\w'.os=W.os/\w'.output=W.output/\∀c,¬a W.heap.size c
def Pn (kj:JS){f:zN}{args:zA}{V W:zW}{D:zP}(X:Qm.Al f)(bU:f<254)(r:¬Qz.iM f)(ha:aW (λ_=>False) (dE D) args args)(n:Start D V W)(hR:∀x u q d,R x u->R x (u.re q d))
  (h:∀q d,Calls zq f args (V.re q d) λe w'=>(∃x,e=aL x/\R x w')\/∃c,e= .panicked c/\mY c w')
  (hU:∀N,V.heap.size<=N->∃U R',Beside D N U V/\(∀w',¬R' .outgrown w')/\∀q d,Calls zq f args (U.re q d) R'):
  ∃M last o w' t',runNT Tryz.prog (M+1) (solo (G (Frame.enter Tryz.prog f args .normal) []) W) #[]=(.ended o w',t')/\runN Tryz.prog M (solo (G (Frame.enter Tryz.prog f args .normal) []) W)= .next last/\step Tryz.prog last= .ended o w'/\Conc.Good Tryz.prog (Left R D W) last o w' t':=by
 have g:∀b,¬Go.Ren.K0 b:=λb h=>h
 have hf:=Qm.sub X
 have Zi:∀b s,dE D b s->dE (λx=>D x\/x=W.heap.size) b s:=λb s h=>⟨h.1,aG h.2⟩
 have po:aW Qz.Al (dE λx=>D x\/x=W.heap.size) args args:=(aW.al (λ_ x=>x.elim) ha).mono Zi
 have yz:aW Qm.Al (dE λx=>D x\/x=W.heap.size) args args:=(aW.al (λ_ x=>x.elim) ha).mono Zi
 have za:aW (Qz.Aj W.heap.size) (dE D) args args:=aW.al (λ_ x=>x.elim) ha
 have jc:Qz.Aj W.heap.size f:=Qz.other bU hf
 have L:=n.self (P:=zq) (Al:=Qz.Al) Qz.Uu Qz.nB
 have C:=IT (P:=zq) (Al:=Qz.Al) Qz.nj Qz.lU hf po L (R:=R) (E:=mY) hR (λ_ _ q d h=>mY.re h q d) h
 have hI:=ZU (Q:=zq) (fs:=Tryz.prog.funcs) (fm:=Qm.prog.funcs) (Al:=Qz.Al) (Am:=Qm.Al) Qz.Ty (Qz.lU _ g) Qm.Bt (λf Up=>by
   by_cases p:f=170
   .exact Qz.MD (by rw[p];decide)
   .by_cases m:f=28
    .exact Qz.MD (by rw[m];decide)
    .exact absurd (Qm.same p m) Up) λf a b pj p m=>by
   by_cases e1:f=170
   .subst e1;rw[Qz.func170]at p;rw[Qm.func170]at m;cases p;cases m;rfl
   .by_cases e2:f=28
    .subst e2;exact absurd pj Qm.Yb
    .rw[Qm.same e1 e2,p]at m;cases m;rfl
 have z:=kF (P:=zq) f args
 have Z:Closed zq Qz.Al (λx=>D x\/x=W.heap.size) (Frame.enter zq f args .normal) [] V:=⟨cW.enter (Qz.lU _ g) hf po (aG rfl),.nil,L,Qz.nj⟩
 have yl:Closed ⟨zq.toTables,Qm.prog.funcs⟩ Qm.Al (λx=>D x\/x=W.heap.size) (Frame.enter zq f args .normal) [] V:=by
  have e:Frame.enter zq f args .normal=Frame.enter ⟨zq.toTables,Qm.prog.funcs⟩ f args .normal:=by have p:f≠170:=λe=>r (by rw[e];decide);have m:f≠28:=λe=>r (by rw[e];decide);unfold Frame.enter;dsimp only;rw[Qm.same p m]
  rw[e]
  exact⟨cW.enter (Qm.Bt _ g) X yz (aG rfl),.nil,n.self Qm.Uu Qz.nB,Qm.nj⟩
 have B:Main zq Tryz.prog.funcs (Qz.Aj W.heap.size) (λ_=>False) #[G (Frame.enter Tryz.prog f args .normal) []] W #[] (λ_=>0) (dE D) (Frame.enter zq f args .normal) [] V (Frame.enter zq f args .normal) []:=
  ⟨leavers_one _ _,⟨⟨past_nil.clean,λi a p m=>(past_nil.known i a p m).imp id λx=>x.1.elim,past_nil.over,past_nil.hears,by simp⟩,λb j=>j.elim⟩,λb j=>j.elim,⟨cW.enter (Qz.EU _ _ g) jc za (aG rfl),.nil,by
   have e:V.re W.tape W.drawn=V:=by rw[n.tape,n.drawn,kV]
   rw[e]
   exact n.Ht ⟨Qz.ju,Qz.Ut⟩ Qz.nB⟩,λb s _ h=>h,λb j=>by obtain rfl:=Qz.QL j;exact⟨λs h=>absurd (n.lt _ h.2) (zEt _),n.Sg⟩⟩
 have hH:=Pz (P:=zq) (Al:=Qz.Al) (S:=Go.Ren.AtEnd zq R mY) Qz.lU Z (A2:=Qz.Aj W.heap.size) (vb:=W.heap.size) (λk I=>Qz.QL I) (by have:=n.size;omega) λN hN=>by
  obtain⟨U,R',j,zk,hC⟩:=hU N hN;exact⟨Qz.Ab N,U,dE D,R',Qz.EU _ _ g,Qz.other bU hf,Qz.tl,λk I=>Qz.Xa I,aW.al (λ_ x=>x.elim) ha,λq d=>j.Ht Qz.hasB n Qz.nB q d,j.size,λb s h=>h.1,λb s h e=>by rw[<-h.1]at e;subst e;exact absurd (n.lt _ h.2) (zEt _),zk,hC⟩
 obtain⟨N,Uv,w1,ec,t1,q1,F,J,fr1,v,t,r1,g1,H,hAt,y,⟨et,eo,eu⟩,T,A⟩:=Fc (Inv:=Apart zq Qm.prog.funcs Qm.Al) (InvE:=QA zq Qm.prog.funcs Qm.Al) Qz.shape Qz.lU (Qz.EU _ _ g) Qz.differ hI (jump kj) hH C (aG rfl) (λ_=>False) #[G (Frame.enter Tryz.prog f args .normal) []] W #[] (λ_=>0) aB (dE D) (λx=>D x\/x=W.heap.size) (Frame.enter zq f args .normal) [] B (by rw[IS r];rfl) Z ⟨z.1,z.2.1,by simp⟩ (λx K=>by simp only[zAw]at K;subst K;rw[z.2.2];exact(Qz.same r).symm) ⟨_,yl⟩
 rw[Qz.back]at r1
 have Zh:=H.lv
 rw[Qz.back]at Zh
 obtain⟨_,x,K,hr⟩|⟨_,_,c,hm,he⟩:=hAt
 rotate_left
 .exact(Jv T hm (by have:=he v.tape v.drawn;rwa [kV]at this)).elim
 have Y:Goes Tryz.prog aE Go.Conc.AtRel (λ_ _ _=>False) (Go.Conc.AtEnd Tryz.prog (λl=>∃b,blk l=aA b/\F b) w1.heap.size (Left R D W)) 0 (G t []) w1:=λw₁ w=>by obtain⟨d,rfl⟩:=w;have I:VP zq (Qz.Aj W.heap.size) Go.Ren.K0 J fr1 [] v t [] (w1.at d):=H.Fh.rely rfl ⟨λ_ _ _=>rfl,zAa _,rfl⟩;obtain⟨x',es,hv,_,O,Hj⟩:=Kh Qz.shape rfl I K y (let⟨_,_,_,_,q4,_⟩:=K v.tape v.drawn;Qz.Uk H.Fh.frame.al q4);rw[Qz.back]at O;refine⟨rfl,x',es,O,λe he=>Lm (Sh:=F) (λb s j=>⟨H.off b s j,sJ H.Fh.world j⟩) (Hj e he),x,v,J,F,?_,hv,I.world,⟨A.sub,A.size,A.still⟩,et,eo,eu,(H.Sg _ Qz.Ut).1⟩;have:=hr v.tape v.drawn;rwa [kV]at this
 obtain⟨N2,last,o,w',t',r2,r3,r4,r5⟩:=beside_ends (λ_ _ _ h=>h.elim) (sl:=ec) g1 Zh H.calm.past Y
 have hs:solo (G (Frame.enter Tryz.prog f args .normal) []) W=crowd #[G (Frame.enter Tryz.prog f args .normal) []] W aB:=rfl
 refine⟨N+N2,last,o,w',t',?_,?_,r4,r5⟩
 .rw[hs,zCv,runNT_add,r1];exact r2
 .rw[hs,<-runNT_fst _ _ _ #[],runNT_add,r1];dsimp only;rw[runNT_fst];exact r3
end
def Cg {a b:zA}(hs:a.size=b.size)(h:∀(i:Nat)(v v':zY),a[i]? =aA v->b[i]? =aA v'->v=v'):a=b:=by
 apply zCd;intro i;by_cases d:i<a.size
 .have c:i<b.size:=by omega
  have:=h i a[i] b[i] (by simp[d]) (by simp[c]);simp[d,c,this]
 .have c:¬i<b.size:=by omega
  simp[d,c]
def Sk {π ρ:Rn}(f:∀b e d,π b e->ρ b d->e=d){a a' c:Addr}(h:bV π a a')(k:bV ρ a c):a'=c:=by obtain⟨g,l,j⟩:=h;obtain⟨k1,k2,i⟩:=k;have:=f _ _ _ g k1;cases a';cases c;simp_all
def ku {vb:Nat}:¬AJ vb 1000001:=λh=>by have h:(1000001:Nat)=1000000\/(1000001:Nat)=1000002+vb:=h;omega
def kt {vb k:Nat}(h:AJ vb (1000002+k)):k=vb:=by have h:(1000002+k:Nat)=1000000\/(1000002+k:Nat)=1000002+vb:=h;omega
def Xc {A p:zF}{π ρ:Rn}{vb:Nat}(I:¬p 1000001)(H:¬A 1000001)(q:∀k,A (1000002+k)->k=vb)(g:∀k,p (1000002+k)->k=vb)(G:∀l,¬π vb l)(w:∀l,¬ρ vb l)(C:∀b l o,π b l->ρ b o->l=o){x y:zY}(h:bG A π x y):∀{z:zY},bG p ρ x z->y=z:=by
 have d:∀{cs e ds:zA},e.size=cs.size->ds.size=cs.size->(∀(i:Nat)(v f:zY),cs[i]? =aA v->e[i]? =aA f->∀{z:zY},bG p ρ v z->f=z)->(∀(i:Nat)(v f:zY),cs[i]? =aA v->ds[i]? =aA f->bG p ρ v f)->e=ds:=λ{cs e ds} j D K J=>by
  refine Cg (by omega) λi v f q g=> ?_;obtain⟨u,hu⟩:∃u,cs[i]? =aA u:=by have:=(zAb.1 q).1;exact⟨cs[i]'(by omega),zAs (by omega)⟩
  exact K i u v hu q (J i u f hu g)
 induction h with
 |bool b=>intro z k;cases k;rfl
 |int i n=>intro z k;cases k;rfl
 |string s=>intro z k;cases k;rfl
 |pointer h=>
  intro z k;cases k with
  |pointer k=>
   cases h with
   |none=>cases k;rfl
   |some h=>cases k with
    |some k=>rw[Sk C h k]
 |slice h n c=>
  intro z k;cases k with
  |slice k _ _=>
   cases h with
   |none=>cases k;rfl
   |some h=>cases k with
    |some k=>rw[Sk C h k]
  |void B _=>
   cases h with
   |some h=>have:=g _ B;subst this;exact absurd h.1 (G _)
 |func Q j D P _ _ i3 i4=>
  intro z k;cases k with
  |func _ k1 k2 _ F E=>rw[d j k1 i3 F,d D k2 i4 E]
 |nilFunc=>intro z k;cases k;rfl
 |iface t _ m=>
  intro z k;cases k with
  |iface _ k=>rw[m k]
 |nilIface=>intro z k;cases k;rfl
 |jM=>intro z k;cases k;rfl
 |gX=>intro z k;cases k;rfl
 |agg j _ m=>
  intro z k;cases k with
  |agg k1 k2=>rw[d j k1 m k2]
 |tuple j _ m=>
  intro z k;cases k with
  |tuple k1 k2=>rw[d j k1 m k2]
 |junk _ _=>
  intro z k;cases k with
  |junk _ _=>rfl
  |same k _=>exact absurd k I
 |same k _=>exact absurd k H
 |void B a=>
  intro z k;generalize r:(.slice (aA ⟨_,enc a,a.spot⟩) 0 0:zY)=x at k;cases k with
  |slice k _ _=>
   cases k with
   |some k=>cases r;have:=q _ B;subst this;exact absurd k.1 (w _)
   |none=>cases r
  |void _ a2=>injection r with N _ _;injection N with M;injection M with _ L R;obtain⟨q1,O⟩:=Ri L;cases a;cases a2;simp_all
  |_=>cases r
def Left.below {R:zR}{D:zP}{V W w':zW}{J:zY}(z:Start D V W)(N:∀x v,R x v->∀b,b<V.heap.size->v.heap[b]? =V.heap[b]?)(h:Left R D W J w'):Go.RowKit.Below W.heap.size W w':=by
 obtain⟨x,F,H,X,L,s,q,d,S,Q,P,l⟩:=h;refine⟨Q,S,P,d.size,λb n=> ?_⟩;by_cases A:D b
 .have j:H b b:=d.sub b b ⟨rfl,A⟩;have f:(F.re w'.tape w'.drawn).heap[b]? =V.heap[b]? :=N x F L b (by rw[z.size];omega);obtain⟨c,c',t,Z,p,C,e,_⟩|⟨p,o,e,C,B⟩:=z.blk b A
  .obtain⟨c1,m,t1,f1,E,g,g2,a,O,G⟩|⟨_,o,g,g2,a⟩|⟨y,I,g,_,a⟩:=q.blk b b j
   .rw[f,p]at g;cases g;have:=G.1 (λx=>x);subst this;have M:c'=m:=Cg (by rw[e.size,a.size]) λi v K s r=>by
     obtain⟨u,hu⟩:∃u,c[i]? =aA u:=by have:=(zAb.1 s).1;have:=e.size;exact⟨c[i]'(by omega),zAs (by omega)⟩
     exact Xc (vb:=W.heap.size) Qz.ns ku (λk h=>kt h) (λk h=>Qz.QL h) (λU h=>absurd (z.lt _ h.2) (zEt _)) l (λb U T n w=>by rw[<-n.1];exact(q.ok.inj (d.sub b b ⟨rfl,n.2⟩) w).1 rfl) (e.at' i u v hu s) (a.at' i u K hu r)
    rw[g2,C,M]
   .rw[f,p]at g;cases g;exact absurd rfl (a.1 _ _ _)
   .rw[f,p]at g;cases g;cases a
  .obtain⟨c1,m,t1,f1,E,g,g2,a,O,G⟩|⟨_,o,g,g2,a⟩|⟨y,I,g,_,a⟩:=q.blk b b j
   .rw[f,e]at g;cases g;exact absurd rfl (B.1 _ _ _)
   .rw[g2,<-g,f,e,C]
   .rw[f,e]at g;cases g;cases a with
    |view=>exact absurd rfl (B.2.1 _ _)
    |number=>exact absurd rfl (B.2.2.1 _ _)
 .exact(d.still b n (λb0 h=>A (by rw[<-h.1];exact h.2)) (λh=>h)).1
def Left.value {R:zR}{D:zP}{W w':zW}{a:zY}{y:Bool}(e:∀x v,R x v->x= .bool y)(h:Left R D W a w'):a= .bool y:=by obtain⟨x,c,f,S,d,b,_⟩:=h;rw[e x c d]at b;cases b;rfl
end Go.Ga
namespace Go.Proofs
open Go.RowKit Go.Ren
section
variable {Q Q':zZ}(w:zW)
def SE {t:zD}(h:Q.info? t=aB)(u:zW)(es:zE):(typeInfo t).runT Q u es=(.halt (.stuck "no such type") u,es):=by
 unfold typeInfo;show(match Q.info? t with|some i=>pure i|none=>stuck "no such type":Sem TypeInfo).runT Q u es=_
 rw[h]
 rfl
def EJ {t:zD}(h:Q.underlying t=aB)(u:zW)(es:zE):(underlying t).runT Q u es=(.halt (.stuck "no such type") u,es):=by
 unfold underlying;show(match Q.underlying t with|some d=>pure d|none=>stuck "no such type":Sem TypeDesc).runT Q u es=_
 rw[h]
 rfl
def FE {t:zD}(h:Q.info? t=Q'.info? t)(u:zW)(es:zE):(typeInfo t).runT Q u es=(typeInfo t).runT Q' u es:=by
 cases a:Q'.info? t with
 |none=>rw[SE (h.trans a),SE a]
 |some i=>rw[OH (h.trans a),OH a]
def Ae {t:zD}(h:Q.underlying t=Q'.underlying t)(u:zW)(es:zE):(underlying t).runT Q u es=(underlying t).runT Q' u es:=by
 cases a:Q'.underlying t with
 |none=>rw[EJ (h.trans a),EJ a]
 |some i=>rw[BC (h.trans a),BC a]
def Ic {t:zD}(h:Q.info? t=Q'.info? t)(u:zW)(es:zE):(Go.sizeOf t).runT Q u es=(Go.sizeOf t).runT Q' u es:=by
 unfold Go.sizeOf;rw[bD,bD,FE h];cases(typeInfo t).runT Q' u es with
 |mk r e=>cases r<;>rfl
def Oq {t:zD}(h:Q.underlying t=Q'.underlying t)(u:zW)(es:zE):(isAgg t).runT Q u es=(isAgg t).runT Q' u es:=by
 unfold isAgg;rw[bD,bD,Ae h];cases(underlying t).runT Q' u es with
 |mk r e=>
  cases r with
  |ok d u1=>cases d<;>rfl
  |halt h u1=>rfl
def Ib {t:zD}(h:Q.info? t=Q'.info? t)(u:zW)(es:zE):(zeroValue t).runT Q u es=(zeroValue t).runT Q' u es:=by
 unfold zeroValue;rw[bD,bD,FE h];cases(typeInfo t).runT Q' u es with
 |mk r e=>
  cases r with
  |ok i u1=>dsimp only;cases i.zero<;>rfl
  |halt h u1=>rfl
def GI {α:Type}{s:Sem α}(h:∀u es,s.runT Q u es=s.runT Q' u es):s.run Q w=s.run Q' w:=by rw[<-Sem.runT_fst Q _ _ #[],h,Sem.runT_fst]
end
section
variable(w:zW)
@[simp]theorem Qz.typeInfo (n:zD):(typeInfo n).run zq w=(typeInfo n).run Tryz.prog w:=GI w λu e=>FE (Qz.info n) u e
@[simp]theorem Qz.Rs (n:zD):(underlying n).run zq w=(underlying n).run Tryz.prog w:=GI w λu e=>Ae (Qz.cO n) u e
@[simp]theorem Qz.sizeOf (n:zD):(Go.sizeOf n).run zq w=(Go.sizeOf n).run Tryz.prog w:=GI w λu e=>Ic (Qz.info n) u e
@[simp]theorem Qz.isAgg (n:zD):(isAgg n).run zq w=(isAgg n).run Tryz.prog w:=GI w λu e=>Oq (Qz.cO n) u e
@[simp]theorem Qz.zeroValue (n:zD):(zeroValue n).run zq w=(zeroValue n).run Tryz.prog w:=GI w λu e=>Ib (Qz.info n) u e
@[simp]theorem Qz.td (t:zD):zq.underlying t=Tryz.prog.underlying t:=Qz.cO t
end
def Qz.fn {f:zN}{fn:Func}(a:Tryz.prog.funcs[f]? =aA fn)(h:¬Qz.iM f:=by decide):zq.funcs[f]? =aA fn:=(Qz.same h).trans a
end Go.Proofs
namespace Go.Ga
open Go.RowKit Go.Proofs Go.Ren
def Qz.ntmps28:Qz.f28.ntmps=43:=rfl
def Kb {N:Nat}(d:N<2147483648)(w:zW):(Instr.makeSlice 82 (.int aD (N:Int)) (.int aD (N:Int))).run zq w= .ok (.slice (aA ⟨w.heap.size,0,aB⟩) N N) (w.alloc (aI (madeCells #[.string ⟨#[]⟩] N) 9)):=by obtain⟨i,c,b,a,h⟩:=Kr;have e:=run_make (P:=zq) w 82 9 i (.string ⟨#[]⟩) ((Qz.cO 82).trans Tryz.underlying82) ((Qz.info 9).trans c) b aD aD N N (by omega) (by omega) (by rw[h];omega) (by omega);rw[a]at e;simpa [Value.cells]using e
def Qz.call {f:zN}{fn:Func}{c:Code}(a:zq.funcs[f]? =aA fn)(h:(fn.name== "runtime.NumGoroutine")=aF:=by kernel_rfl)(b:fn.body=aA c:=by rfl)(xs:zA)(w:zW):(callFunc f xs).run zq w= .ok (.enter f xs) w:=by rw[<-Sem.runT_fst zq _ _ #[],CY a h b]
@[simp]def Qz.Zv:=Qz.call (Qz.fn Tryz.func171)
def Mj {w:zW}{g:Nat}{cs:zA}{t:zD}{fr:Nat×Nat}(h:w.heap[g]? =aA (aI cs t fr))(i:Nat):w.cell? ⟨g,i,aB⟩=cs[i]? :=by unfold World.cell?;dsimp only;rw[h];rfl
def Ph {w:zW}{g:Nat}{cs:zA}{t:zD}{fr:Nat×Nat}(h:w.heap[g]? =aA (aI cs t fr))(i:Nat)(x:zY):(w.setCell ⟨g,i,aB⟩ x).heap[g]? =aA (aI (cs.setIfInBounds i x) t fr):=by unfold World.setCell;dsimp only;rw[cM,h];rfl
def Bq:∀N pa bp o cp r D p sa sl sc strs u,Fork N pa bp o r D p sa sl sc strs u->∀W:zW,u.heap.size<=W.heap.size->(∀b,b+1<u.heap.size->W.heap[b]? =u.heap[b]?)->Calls zq 28 #[lW pa N cp,lM r] W λe y=>∃x,e=aL x/\Row N strs W x y/\y.tape=W.tape/\y.output=W.output:=by
 intro N pa bp o cp r D p sa sl sc strs u hF W E n;have bU:=hF.lt;have w:=Kb (N:=N) (by omega);have H:Hid (Fork N pa bp o r D p sa sl sc strs u):=hF;have J:Hid (∀b,b+1<u.heap.size->W.heap[b]? =u.heap[b]?):=n;clear hF n;dsimp only[lW,lM];go_enter Qz.func28,Qz.ntmps28;unfold Qz.qo;go_wp2_with fail;go_loopg [28] N (λq x wr=>∃(j:Nat)(cs:zA),j+q=N/\x= .int aD (j:Int)/\zb W wr/\wr.heap[W.heap.size]? =aA (aI cs 9 (0,0))/\cs.size=N/\∀i,i<j->cs[i]? =aA (.string (strs i)));case atStart=>exact⟨0,madeCells #[.string ⟨#[]⟩] N,by omega,rfl,(zGp _ _).alloc (zAa _) _,by show(W.heap.push _)[W.heap.size]? =_;simp,size_madeCells _ _,λi h=>by omega⟩
 case round=>
  obtain⟨j,cs,M,rfl,c1,c2,c3,c4⟩:=hrel
  have C:Hid (zb W wr):=c1
  have s:Hid (wr.heap[W.heap.size]? =aA (aI cs 9 (0,0))):=c2
  have C4:Hid (∀i,i<j->cs[i]? =aA (.string (strs i))):=c4
  clear c1 c2 c4 w
  by_cases d:j<N
  .have t:=H.out.Xw (by omega);have m:=H.out.Ws (by omega);subst t;have c:∀b,b+1<u.heap.size->wr.heap[b]? =u.heap[b]? :=λb f=>(C.out.block b (by omega)).trans (J.out b f);have B:wr.cell? ⟨bp,o+j*2,aB⟩=aA (.int aD (p j)):=by
    rw[<-H.out.q0 j d];simp only[World.cell?];rw[c bp m]
   have k1:wr.cell? ⟨bp,o+j*2+1,aB⟩=aA (.slice (sa j) (sl j) (sc j)):=by rw[<-H.out.q1 j d];simp only[World.cell?];rw[c bp m]
   have A:Hid (rS D u wr):=λb f L v=>aG (by rw[c b (H.out.low b f)];exact v)
   clear c
   have G:¬((j:Int)<0):=by omega
   have F:(j:Int)<(N:Int):=by omega
   go_wp2_with fail
   refine(H.out.work j d wr A.out).mono ?_
   rintro e w2 ⟨rfl,a⟩
   have g:=C.out.size
   have I:W.heap.size<wr.heap.size:=(zAb.1 s.out).1
   have K:Hid (zb W w2):=⟨a.os.trans C.out.os,a.tape.trans C.out.tape,a.output.trans C.out.output,zBl g a.size,λb f=>(a.block b (by omega)).trans (C.out.block b f)⟩
   have R:Hid (w2.heap[W.heap.size]? =aA (aI cs 9 (0,0))):=(a.block _ I).trans s.out
   clear B k1 a C s A
   obtain⟨x,z⟩:∃x,cs[j]? =aA x:=⟨_,zAs (by omega)⟩
   have P:w2.cell? ⟨W.heap.size,j,aB⟩=aA x:=by rw[Mj R.out];exact z
   have f1:w2.frozen? ⟨W.heap.size,j,aB⟩=aF:=by unfold World.frozen?;dsimp only;rw[R.out];rfl
   clear z
   go_wp2
   go_roundg (N-(j+1))
   case measure=>omega
   case rel=>
    go_light
    refine⟨j+1,cs.setIfInBounds j (.string (strs j)),by omega,by go_num,?_,Ph R.out j _,by rw[zDe];exact c3,λi O=> ?_⟩
    .exact K.out.setCell (by simp only;omega) _
    .rw[zBt];by_cases l:j=i
     .subst l;rw[zAk rfl,zAk (by omega)]
     .rw[zAh l];exact C4.out i (by omega)
  .have k:j=N:=by omega
   subst k;go_wp2;go_ret;exact⟨_,rfl,⟨W.heap.size,cs,rfl,zAa _,λb f=>C.out.block b f,s.out,c3,C4.out,C.out.os⟩,C.out.tape,C.out.output⟩
def Vf:JS:=λN pa bp o cp c D d sa sl sc strs u hF W b a=>(Bq N pa bp o cp c D d sa sl sc strs u hF W b a).mono λ_ _ ⟨x,he,h,_⟩=>⟨x,he,h⟩
open Go.Conc Go.Ren Go.Proofs Go.Tr
def Kept (D:zP)(d x:zY):Prop:=
 (∀k m,d= .int k m->x= .int k m)/\∀a l c,d= .slice a l c->(∀b,a=aA b->D b.block\/l=0/\c=0)->∃e,x= .slice e l c/\((∀b,a=aA b->D b.block)->e=a)
def Kept.self {D:zP}{x:zY}:Kept D x x:=⟨λ_ _ h=>h,λa _ _ h _=>⟨a,h,λ_=>rfl⟩⟩
def Kept.no {D:zP}{x d:zY}(f:∀k m,d≠.int k m)(e:∀a l c,d≠.slice a l c):Kept D d x:=⟨λk m h=>absurd h (f k m),λa l c h=>absurd h (e a l c)⟩
structure Ho (D:zP)(vb:Nat)(x' x:zY):Prop where
 there:bG (AJ vb) (dE D) x x'
 here:bG AS (dE λz=>D z\/z=vb) x x
 kept:Kept D x' x
 again:∀N,∃y,bG (AB N) (dE D) y x/\Kept D x' y
def Ho.flat {D:zP}{vb:Nat}{x:zY}(h:∀(A:zF)(π:Rn),bG A π x x):Ho D vb x x:=⟨h _ _,h _ _,.self,λ_=>⟨x,h _ _,.self⟩⟩
def Ho.junk {D:zP}{vb:Nat}{x:zY}(h:Jk x)(a:∀y,Kept D x y):∃y,Ho D vb x y:=⟨_,.junk (aG rfl) h,.same (show AS 1000001 from rfl) x,a _,λ_=>⟨_,.same (aG rfl) x,a _⟩⟩
def mask (D:zP)(vb:Nat):∀(n:Nat)(x:zY),SizeOf.sizeOf x<=n->∃y,Ho D vb x y:=by
 intro n;induction n with
 |zero=>intro x h;cases x<;>simp at h
 |succ n B=>
  have j:∀cs:zA,SizeOf.sizeOf cs<=n->∃ds,aW (AJ vb) (dE D) ds cs/\aW AS (dE λz=>D z\/z=vb) ds ds/\∀N,∃p,aW (AB N) (dE D) p ds:=λcs H=>by
   have o:∀i:Fin cs.size,∃y,Ho D vb cs[i] y:=λi=>B _ (by have:=Array.sizeOf_lt_of_mem (Array.getElem_mem (xs:=cs) i.2);have e:cs[i]=cs[i.1]:=rfl;rw[e];omega)
   refine⟨aC4 λi=>aCJ (o i),.of (by simp) λi f d=> ?_,.of rfl λi f d=> ?_,λN=>⟨aC4 λi=>aCJ ((zAr (o i)).again N),.of (by simp) λi f d=> ?_⟩⟩
   .simp only[aC5];exact(zAr (o ⟨i,d⟩)).there
   .simp only[aC5];exact(zAr (o ⟨i,by simpa using f⟩)).here
   .simp only[aC5];exact(zAr ((zAr (o ⟨i,by simpa using f⟩)).again N)).1
  intro x h
  cases x with
  |bool b=>exact⟨_,.flat λ_ _=> .bool b⟩
  |int k m=>exact⟨_,.flat λ_ _=> .int k m⟩
  |string s=>exact⟨_,.flat λ_ _=> .string s⟩
  |nilFunc=>exact⟨_,.flat λ_ _=> .nilFunc⟩
  |nilIface=>exact⟨_,.flat λ_ _=> .nilIface⟩
  |map a=>
   cases a with
   |none=>exact⟨_,.flat λ_ _=> .jM⟩
   |some a=>exact Ho.junk trivial λ_=> .no (by simp) (by simp)
  |chan a=>
   cases a with
   |none=>exact⟨_,.flat λ_ _=> .gX⟩
   |some a=>exact Ho.junk trivial λ_=> .no (by simp) (by simp)
  |pointer a=>
   cases a with
   |none=>exact⟨_,.flat λ_ _=> .pointer .none⟩
   |some a=>exact Ho.junk trivial λ_=> .no (by simp) (by simp)
  |slice a l c=>
   cases a with
   |none=>exact⟨_,.flat λ_ _=> .slice .none l c⟩
   |some a=>
    by_cases u:D a.block
    .have r:∀{A:zF}{E:zP},(∀b,D b->E b)->bG A (dE E) (.slice (aA a) l c) (.slice (aA a) l c):=λI=> .slice (.some ⟨⟨rfl,I _ u⟩,rfl,rfl⟩) l c;exact⟨_,r λ_ h=>h,r λ_ h=>aG h,.self,λ_=>⟨_,r λ_ h=>h,.self⟩⟩
    .by_cases F:l=0/\c=0
     .obtain⟨rfl,rfl⟩:=F;have C:∀w,Kept D (.slice (aA a) 0 0) (.slice w 0 0):=λw=>by
       refine⟨λk m h=>(by cases h),λJ l c h _=> ?_⟩;cases h;exact⟨w,rfl,λh=>absurd (h a rfl) u⟩
      exact⟨_,.void (aH rfl) a,.slice (.some ⟨⟨rfl,aH rfl⟩,rfl,rfl⟩) 0 0,C _,λN=>⟨_,.void (vb:=N) (aH rfl) ⟨vb,enc a,a.spot⟩,C _⟩⟩
     .refine Ho.junk trivial λy=>⟨λk m h=>(by cases h),λJ K c' h d=> ?_⟩;cases h;exact((d a rfl).elim (λg=>u g) λg=>F g).elim
  |iface t v=>obtain⟨y,q⟩:=B v (by simp at h;omega);exact⟨.iface t y,.iface t q.there,.iface t q.here,.no (by simp) (by simp),λN=>let⟨z,G,_⟩:=q.again N;⟨.iface t z,.iface t G,.no (by simp) (by simp)⟩⟩
  |agg cs=>obtain⟨ds,f,d,g⟩:=j cs (by simp at h;omega);exact⟨.agg ds,.agg f.size f.at',.agg d.size d.at',.no (by simp) (by simp),λN=>let⟨p,h⟩:=g N;⟨.agg p,.agg h.size h.at',.no (by simp) (by simp)⟩⟩
  |tuple cs=>obtain⟨ds,f,d,g⟩:=j cs (by simp at h;omega);exact⟨.tuple ds,.tuple f.size f.at',.tuple d.size d.at',.no (by simp) (by simp),λN=>let⟨p,h⟩:=g N;⟨.tuple p,.tuple h.size h.at',.no (by simp) (by simp)⟩⟩
  |_=>exact Ho.junk trivial λ_=> .no (by simp) (by simp)
def jU (W:zW)(b:Nat):Prop:=(∃c t f,W.heap[b]? =aA (aI c t f))\/b<=Tryz.prog.globals.size
noncomputable def mk (W:zW)(x:zY):zY:=aCJ (mask (jU W) W.heap.size _ x (zAa _))
def IA (W:zW)(x:zY):Ho (jU W) W.heap.size x (mk W x):=zAr (mask (jU W) W.heap.size _ x (zAa _))
noncomputable def We (W:zW)(N:Nat)(x:zY):zY:=aCJ ((IA W x).again N)
def TJ (W:zW)(N:Nat)(x:zY):bG (AB N) (dE (jU W)) (We W N x) (mk W x)/\Kept (jU W) x (We W N x):=zAr ((IA W x).again N)
def onCells (m:zY->zY):Obj->Obj
 |aI c t f=>aI (c.map m) t f
 |o=>o
def masked (m:zY->zY)(W:zW):zW:={W with heap:=(W.heap.map (onCells m)).push (aI #[.int aP 0] 0 (0,0))}
section
variable {m:zY->zY}{W:zW}{b:Nat}
def mM:(masked m W).heap.size=W.heap.size+1:=by simp[masked]
def MF (h:b<W.heap.size):(masked m W).heap[b]? =(W.heap[b]?).map (onCells m):=by
 show((W.heap.map (onCells m)).push _)[b]? =_
 rw[zBh,zAh (by simp;omega),zCt]
def lA {c:zA}{t:zD}{fr:Nat×Nat}(h:W.heap[b]? =aA (aI c t fr)):(masked m W).heap[b]? =aA (aI (c.map m) t fr):=by rw[MF (zAb.1 h).1,h];rfl
def tH {o:Obj}(h:W.heap[b]? =aA o)(a:EG o):(masked m W).heap[b]? =aA o:=by rw[MF (zAb.1 h).1,h];cases o<;>first|rfl|exact absurd rfl (a.1 _ _ _)
def TK {k:Nat}{x:zY}(h:W.cell? ⟨b,k,aB⟩=aA x):(masked m W).cell? ⟨b,k,aB⟩=aA (m x):=by
 unfold World.cell? at h⊢;dsimp only at h⊢;cases hb:W.heap[b]? with
 |none=>rw[hb]at h;cases h
 |some o=>
  rw[hb]at h;cases o with
  |cells c t f=>rw[lA hb];simp only[Option.isSome_none,zBf,zDp]at h⊢;rw[zCt,h];rfl
  |_=>cases h
end
def YA {A:zF}{π:Rn}{f g:zY->zY}{c:zA}(h:∀x,bG A π (f x) (g x)):aW A π (c.map f) (c.map g):= .of (by simp) λi d a=>by simp only[Array.getElem_map];exact h _
def RA {W:zW}(e:∀b,b<=Tryz.prog.globals.size->∃o,W.heap[b]? =aA o/\((∃c t fr,o=aI c t fr)\/EG o)):Start (jU W) (masked (mk W) W) W:=by
 refine⟨λb d=>aH d,λb d=> ?_,mM,?_,rfl,rfl,rfl,rfl,λb d=> ?_⟩
 .obtain⟨c,t,fr,h⟩|h:=d
  .exact(zAb.1 h).1
  .obtain⟨o,a,_⟩:=e b h;exact(zAb.1 a).1
 .show((W.heap.map (onCells (mk W))).push _)[W.heap.size]? =_
  rw[zBh,zAk (by simp)]
 .have j:∀c t fr,W.heap[b]? =aA (aI c t fr)->∃c₁ c' t fr,(masked (mk W) W).heap[b]? =aA (aI c₁ t fr)/\W.heap[b]? =aA (aI c' t fr)/\aW (AJ W.heap.size) (dE (jU W)) c₁ c'/\aW AS (dE λx=>jU W x\/x=W.heap.size) c₁ c₁:=λc t fr h=>by
   refine⟨_,c,t,fr,lA h,h,?_,YA λx=>(IA W x).here⟩;have:=YA (f:=mk W) (g:=id) (c:=c) λx=>(IA W x).there;rwa [Array.map_id]at this
  obtain⟨c,t,fr,h⟩|h:=d
  .exact aG (j c t fr h)
  .obtain⟨o,a,⟨c,t,fr,rfl⟩|i⟩:=e b h
   .exact aG (j c t fr a)
   .exact aH ⟨h,o,tH a i,a,i⟩
def Gv {W:zW}(f:∀b,b<=Tryz.prog.globals.size->∃o,W.heap[b]? =aA o/\((∃c t fr,o=aI c t fr)\/EG o))(N:Nat):Beside (jU W) N (masked (We W N) W) (masked (mk W) W):=by
 refine⟨mM.trans mM.symm,rfl,λb g=> ?_⟩;have e:∀c t fr,W.heap[b]? =aA (aI c t fr)->∃c₁ c' t fr,(masked (We W N) W).heap[b]? =aA (aI c₁ t fr)/\(masked (mk W) W).heap[b]? =aA (aI c' t fr)/\aW (AB N) (dE (jU W)) c₁ c':=λc t fr h=>⟨_,_,t,fr,lA h,lA h,YA λx=>(TJ W N x).1⟩;obtain⟨c,t,fr,h⟩|h:=g
 .exact aG (e c t fr h)
 .obtain⟨o,a,⟨c,t,fr,rfl⟩|d⟩:=f b h
  .exact aG (e c t fr a)
  .exact aH ⟨h,o,tH a d,tH a d,d⟩
end Go.Ga
