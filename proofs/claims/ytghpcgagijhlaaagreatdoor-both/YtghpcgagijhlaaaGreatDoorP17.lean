import Derived.Test.YtghpcgagijhlaaaGreatDoorP16
set_option linter.all false
set_option maxRecDepth 100000
set_option maxHeartbeats 16000000
open Option renaming some->aA,none->aB
open Bool renaming true->aE,false->aF
open Or renaming inl->aG,inr->aH
open Go.Item renaming inRegion->aM
open Go.Obj renaming cells->aI
open Go.IntKind renaming i64->aD,u64->aQ
open Go renaming execOp->aCF
namespace Go.Ga
open Go.Conc Go.Ren Go.Proofs Go.RowKit Go.Conc.Lib Go.Wg
open Go.ConcR (KK WgAt stA smA DC0 Payload)
open Go.ConcN (WgLive)
structure Gt where
 N:Nat
 b5:Nat
 b6:Nat
 Cr:Nat
 Cd:Nat
 ds:List Deferred
 cs:zL
 strs:Nat->ByteArray
 K:zW->Prop
 old:zP
 lo:Nat
structure Gt.Ok (T:Gt)(rs ws:zP)(bo:Nat)(eV:zA)(R:zP)(w:zW):Prop where
 r5:rs T.b5
 r6:rs T.b6
 c5:w.cell? ⟨T.b5,0,aB⟩=aA (.chan (aA T.Cr))
 c6:w.cell? ⟨T.b6,0,aB⟩=aA (.chan (aA T.Cd))
 wo:ws bo
 out:w.heap[bo]? =aA (aI eV 9 (0,0))
 size:eV.size=T.N
 lt:bo<w.heap.size
 ED:∀b,rs b->¬ws b/\b<w.heap.size
 some:∀i,i<T.N->R i->eV[i]? =aA (.string (T.strs i))
 held:T.K w
 olds:∀b,T.old b->rs b
 fresh:T.lo<=bo
def Gt.M (T:Gt)(R rs ws:zP)(g:zH)(w:zW):Prop:=
 ∃(H:Nat)(eV:zA)(U Q P O L K J I F E D C B A z x v u t s r q p o n m l k j i h f e d c b a y:zY),g=G ((base 170).at ⟨#[U,Q,P,O,L,.pointer (aA ⟨T.b5,0,aB⟩),.pointer (aA ⟨T.b6,0,aB⟩),K,J,I,.slice (aA ⟨H,0,aB⟩) T.N T.N,F,E,D,C,B,A,z,x,v,u,t,s,r,q,p,o,n,m,.chan (aA T.Cr),.chan (aA T.Cd),l,k,j,i,h,f,e,d,c,b,a,y],T.ds⟩ (aM qB [0,1,2,3]::lN)) T.cs/\T.Ok rs ws H eV R w
def Gt.F (T:Gt)(rs ws:zP)(g:zH)(w:zW):Prop:=
 ∃(I:Nat)(eV:zA)(U R Q P M L K J H E D C B A z x v u t s r q p o n m O l k j h f e d c b a y:zY),g=G ((base 170).at ⟨#[U,R,Q,P,M,.pointer (aA ⟨T.b5,0,aB⟩),.pointer (aA ⟨T.b6,0,aB⟩),L,K,J,.slice (aA ⟨I,0,aB⟩) T.N T.N,H,E,D,C,B,A,z,x,v,u,t,s,r,q,p,o,n,m,.chan (aA T.Cr),.chan (aA T.Cd),.tuple #[.int aD 1,.bool aF,.agg #[.int aD 0,.string ⟨#[]⟩],.agg #[]],l,k,j,h,f,e,d,c,b,a,y],T.ds⟩ (aM qB [1,2,3]::lN)) T.cs/\T.Ok rs ws I eV (λi=>i<T.N) w
def Jg (Cr Cd:Nat)(x z a:zY):commResult #[rcase Cr z,rcase Cd a] .select 0 x aE= .tuple #[.int aD 0,.bool aE,x,a]:=by simp[commResult,rcase,goInt]
def Jf (Cr Cd:Nat)(z a:zY):commResult #[rcase Cr z,rcase Cd a] .select 1 a aF= .tuple #[.int aD 1,.bool aF,z,a]:=by simp[commResult,rcase,goInt]
def Li {a:Act}{cs:zL}(Cr Cd:Nat)(x z b:zY):Goroutine.finishComm Tryz.prog (G ((base 170).at a (aM qB [0,1,2,3]::lN)) cs) #[rcase Cr z,rcase Cd b] .select 0 x aE=G ((base 170).at (a.put (aA 31) (.tuple #[.int aD 0,.bool aE,x,b])) (aM qB [1,2,3]::lN)) cs:=by have h:((qB[0]?).bind (·.dst))=aA 31:=rfl;unfold Goroutine.finishComm;rw[show(G ((base 170).at a (aM qB [0,1,2,3]::lN)) cs).frame=(base 170).at a (aM qB [0,1,2,3]::lN)from rfl,Frame.finish_at,h,Jg];rfl
def Lh {a:Act}{cs:zL}(Cr Cd:Nat)(z b:zY):Goroutine.finishComm Tryz.prog (G ((base 170).at a (aM qB [0,1,2,3]::lN)) cs) #[rcase Cr z,rcase Cd b] .select 1 b aF=G ((base 170).at (a.put (aA 31) (.tuple #[.int aD 1,.bool aF,z,b])) (aM qB [1,2,3]::lN)) cs:=by have h:((qB[0]?).bind (·.dst))=aA 31:=rfl;unfold Goroutine.finishComm;rw[show(G ((base 170).at a (aM qB [0,1,2,3]::lN)) cs).frame=(base 170).at a (aM qB [0,1,2,3]::lN)from rfl,Frame.finish_at,h,Jf];rfl
section
variable(S:Sp)(T:Gt)
def Iw (hP:S.P=Tryz.prog)(hr:S.Cr=T.Cr)(hd:S.Cd=T.Cd)(hn:S.n=T.N)(hN:T.N<9223372036854775808)(hv:∀i,S.val i= .agg #[.int aD i,.string (T.strs i)])(hM:S.M=T.M)(hF:S.Fin=T.F)
  (hK:∀w w',T.K w->(∀b,T.old b->w'.heap[b]? =w.heap[b]?)->w.heap.size<=w'.heap.size->w'.tape=w.tape->w'.os=w.os->w'.output=w.output->T.K w')
  (R rs ws:zP) (g:zH) (w:zW) (h:S.M R rs ws g w):
  g.status= .running/\∃l sh zr zd,stepG S.P aE g w= .comm l (S.cases zr zd) aE sh w #[]/\S.Nd R rs ws l sh zr zd w:=by
 rw[hM]at h
 obtain⟨bo,eV,y0,y1,y2,y3,y4,y7,y8,y9,VW,Cq,Cp,Z,Y,X,W,V,U,Q,O,L,J,I,H,E,D,C,B,A,z,v,u,t,s,q,p,o,m,y,rfl,ok⟩:=h
 refine⟨rfl,G ((base 170).at ⟨#[y0,y1,y2,y3,y4,.pointer (aA ⟨T.b5,0,aB⟩),.pointer (aA ⟨T.b6,0,aB⟩),y7,y8,y9,.slice (aA ⟨bo,0,aB⟩) T.N T.N,VW,Cq,Cp,Z,Y,X,W,V,U,Q,O,L,J,I,H,E,D,C,.chan (aA T.Cr),.chan (aA T.Cd),B,A,z,v,u,t,s,q,p,o,m,y],T.ds⟩ (aM qB [0,1,2,3]::lN)) T.cs,.select,.agg #[.int aD 0,.string ⟨#[]⟩],.agg #[],?_,?_⟩
 .rw[hP];unfold Sp.cases;rw[hr,hd];exact SA w
 .refine⟨λa r j=> ?_,λi hi hR=> ?_,λhR a r j=> ?_⟩
  .rw[hP];unfold Sp.cases;rw[hr,hd];exact SA a
  .have om:i<T.N:=hn▸hi;rw[hP,hv i];unfold Sp.cases;rw[hr,hd,Li];walk_nrm;refine Kx (N:=T.N) (b5:=T.b5) (b6:=T.b6) (Cr:=T.Cr) (Cd:=T.Cd) om ok.size ok.r5 ok.r6 ok.c5 ok.c6 ok.wo ok.out ok.ED ok.lt hN λNt w' y0 y1 y2 y3 y4 y5 y6 y7 y8 y9 Tn VW Cq Cp Z Y X W V U Q O L J I H E D C ly lx B A z v u t s q p o m y a1 a2 a3 a4 a5 a6 a7 a8=> ?_;refine BZ λa r j=> ?_;rw[hM];have f:∀b,rs b->a.heap[b]? =w.heap[b]? :=λb d=>(r.dF b (aG d)).trans (a3 b d);have c:∀b,rs b->a.cell? ⟨b,0,aB⟩=w.cell? ⟨b,0,aB⟩:=λb d=>by simp only[World.cell?];rw[f b d]
   refine⟨bo,eV.setIfInBounds i (.string (T.strs i)),_,_,_,_,_,_,_,_,_,_,_,_,_,_,_,_,_,_,_,_,_,_,_,_,_,_,_,_,_,_,_,_,_,_,_,_,_,_,rfl,⟨ok.r5,ok.r6,(c _ ok.r5).trans ok.c5,(c _ ok.r6).trans ok.c6,a1 _ ok.wo,(r.dF bo (aH (a1 _ ok.wo))).trans a4,by rw[zDe];exact ok.size,zAc ok.lt (zBl a5 r.size),λb d=>⟨(a2 b d).1,zAc (a2 b d).2 r.size⟩,λk hk zh=> ?_,hK w a ok.held (λb d=>f b (ok.olds b d)) (zBl a5 r.size) (r.tape.trans a6) (r.os.trans a7) (r.output.trans a8),ok.olds,ok.fresh⟩⟩;by_cases e:k=i
   .subst e;rw[zAo (by rw[ok.size];exact hk)]
   .rw[zAd λx=>e x.symm];exact ok.some k hk (zh.resolve_right e)
  .rw[hP,hF];unfold Sp.cases;rw[hr,hd,Lh];walk_nrm;have f:∀b,rs b->a.heap[b]? =w.heap[b]? :=λb d=>r.dF b (aG d);have c:∀b,rs b->a.cell? ⟨b,0,aB⟩=w.cell? ⟨b,0,aB⟩:=λb d=>by simp only[World.cell?];rw[f b d]
   exact⟨bo,eV,_,_,_,_,_,_,_,_,_,_,_,_,_,_,_,_,_,_,_,_,_,_,_,_,_,_,undef,_,_,_,_,_,_,_,_,_,_,_,rfl,⟨ok.r5,ok.r6,(c _ ok.r5).trans ok.c5,(c _ ok.r6).trans ok.c6,ok.wo,(r.dF bo (aH ok.wo)).trans ok.out,ok.size,zAc ok.lt r.size,λb d=>⟨(ok.ED b d).1,zAc (ok.ED b d).2 r.size⟩,λk hk _=>ok.some k hk (hR k (by rw[hn];exact hk)),hK w a ok.held (λb d=>f b (ok.olds b d)) r.size r.tape r.os r.output,ok.olds,ok.fresh⟩⟩
end
open Go.ConcR.Gen (body_add)
section
variable {S:Sp}{St:(zP)->(zP)->zU}{rs ws:zP}{d:Nat}{g g':zH}{w:zW}
def Sp.wg (S:Sp)(ws:zP):zP:=λb=>ws b\/b=S.Wg
def rR (c:g.status= .running)
  (h:∀w₁,cQ rs (S.wg ws) w w₁->∃g' w' es,stepG S.P aE g w₁= .go g' w' es/\Go.Ren.Does (S.wg ws) w₁ w'/\S.J w'/\(∀e∈es,ak S rs (grown ws w₁ w') e)/\∃t,S.dX St t (deafBehind d es) rs (grown ws w₁ w') g' w'):∃t,S.dX St t d rs ws g w:=by
 have b:∀w₁:zW,∃t:Tree,cQ rs (S.wg ws) w w₁->∃g' w' es,stepG S.P aE g w₁= .go g' w' es/\Go.Ren.Does (S.wg ws) w₁ w'/\S.J w'/\(∀e∈es,ak S rs (grown ws w₁ w') e)/\S.dX St t (deafBehind d es) rs (grown ws w₁ w') g' w':=λw₁=>by
  by_cases a:cQ rs (S.wg ws) w w₁
  .obtain⟨g',w',es,l,k,j,i,t,f⟩:=h w₁ a;exact⟨t,λ_=>⟨g',w',es,l,k,j,i,f⟩⟩
  .exact⟨.leaf,λx=>absurd x a⟩
 exact⟨.node λw₁=>Classical.choose (b w₁),c,λw₁ a=>zAr (b w₁) a⟩
def PY (h:S.J w){w₁:zW}(r:cQ rs (S.wg ws) w w₁):S.J w₁:=by obtain⟨a,b,x⟩:=h;exact⟨a,b,(r.dF S.Wg (aH (aH rfl))).trans x⟩
def At {w₁:zW}(r:cQ rs (S.wg ws) w w₁):cQ rs ws w w₁:=⟨λb h=>r.dF b (h.imp id aG),r.size,r.tape,r.os,r.output⟩
def Bw {t:Tree}(h:S.dX St t d rs ws g w){w₁:zW}(r:cQ rs (S.wg ws) w w₁):S.dX St t d rs ws g w₁:=Sp.dX.rely h r
def Zx {es:zE}(i:S.J w)(b:g.status= .running)(h:∀w₁,cQ rs (S.wg ws) w w₁->stepG S.P aE g w₁= .go g' w₁ es)(f:∀e∈es,ak S rs ws e)(c:∃t,S.dX St t (deafBehind d es) rs ws g' w):∃t,S.dX St t d rs ws g w:=
 rR b λw₁ r=>⟨g',w₁,es,h w₁ r,Go.Ren.Does.refl _ w₁,PY i r,λe a=>by rw[dZ];exact f e a,by rw[dZ];exact let⟨t,x⟩:=c;⟨t,Bw x r⟩⟩
def eN (c:S.J w)(a:g.status= .running)(h:∀w₁,stepG S.P aE g w₁= .go g' w₁ #[])(b:∃t,S.dX St t d rs ws g' w):∃t,S.dX St t d rs ws g w:=
 Zx c a (λw₁ _=>h w₁) (by simp) b
def Bv (h:∀w₁,cQ rs (S.wg ws) w w₁->St rs ws g w₁):∃t,S.dX St t 0 rs ws g w:=⟨.leaf,rfl,h⟩
def rQ {b:zC}{a:Act}{k:zI}{cs:zL}{ops:zQ}{i:Nat}{rest:List Nat}{o:Oper}(u:S.J w)(v:zY)(m:ops[i]? =aA o)(j:Region.wanted o (yielded ops a.tmps)=aE)(p:b.kind≠.early)
  (l:∀w₁,cQ rs (S.wg ws) w w₁->(aCF a.eval o).run S.P w₁= .ok (.value v) w₁) (c:∀w₁,cQ rs (S.wg ws) w w₁->∀e∈(aCF a.eval o).events S.P w₁ #[],VU rs ws e)
  (n:∃t,S.dX St t d rs ws (G (b.at (a.put o.dst v) (aM ops rest::k)) cs) w):∃t,S.dX St t d rs ws (G (b.at a (aM ops (i::rest)::k)) cs) w:=
 rR rfl λw₁ r=>⟨_,w₁,_,stepG_value m j p (l w₁ r),Go.Ren.Does.refl _ w₁,PY u r,λe h=>by rw[dZ];exact aG (c w₁ r e (mem_listed h)),by
  have f:deafBehind d (listed S.P b.fn a o w₁)=d:=deafBehind_still (λe h=>by
   obtain⟨a,wr,s,rfl,_⟩|⟨r,s,rfl,_⟩|x|x|⟨q,x⟩:=c w₁ r e (mem_listed h)
   .simp
   .simp
   .rw[x];simp
   .rw[x];simp
   .rw[x];simp) d
  rw[dZ,f];exact let⟨t,x⟩:=n;⟨t,Bw x r⟩⟩
def UF {es:zE}{rs ws:zP}(h:∀e∈es,VU rs ws e)(d:Nat):deafBehind d es=d:=deafBehind_still (λe b=>by
 obtain⟨a,wr,s,rfl,_⟩|⟨r,s,rfl,_⟩|x|x|⟨q,x⟩:=h e b
 .simp
 .simp
 .rw[x];simp
 .rw[x];simp
 .rw[x];simp) d
def Bu {b:zC}{a:Act}{k:zI}{cs:zL}{ops:zQ}{i:Nat}{rest:List Nat}{o:Oper}(v:zW->zY)(W:zW->zW)(m:ops[i]? =aA o)(l:Region.wanted o (yielded ops a.tmps)=aE)(p:b.kind≠.early)
  (h:∀w₁,cQ rs (S.wg ws) w w₁->(aCF a.eval o).run S.P w₁= .ok (.value (v w₁)) (W w₁)/\Go.Ren.Does ws w₁ (W w₁)/\S.J (W w₁)/\(∀e∈(aCF a.eval o).events S.P w₁ #[],VU rs (grown ws w₁ (W w₁)) e)/\
   ∃t,S.dX St t d rs (grown ws w₁ (W w₁)) (G (b.at (a.put o.dst (v w₁)) (aM ops rest::k)) cs) (W w₁)):∃t,S.dX St t d rs ws (G (b.at a (aM ops (i::rest)::k)) cs) w:=
 rR rfl λw₁ r=>let⟨y,c,u,j,s⟩:=h w₁ r;⟨_,W w₁,_,stepG_value m l p y,⟨λb q n=>c.keep b q λx=>n (aG x),c.size,c.tape,c.os,c.output⟩,u,λe f=>aG (j e (mem_listed f)),by rw[UF λe f=>j e (mem_listed f)];exact s⟩
def VC {b:zC}{a:Act}{k:zI}{cs:zL}{ops:zQ}{i:Nat}{rest:List Nat}{o:Oper}(W:zW->zW)(m:ops[i]? =aA o)(l:Region.wanted o (yielded ops a.tmps)=aE)(p:b.kind≠.early)
  (h:∀w₁,cQ rs (S.wg ws) w w₁->(aCF a.eval o).run S.P w₁= .ok .skip (W w₁)/\Go.Ren.Does ws w₁ (W w₁)/\S.J (W w₁)/\(∀e∈(aCF a.eval o).events S.P w₁ #[],VU rs (grown ws w₁ (W w₁)) e)/\
   ∃t,S.dX St t d rs (grown ws w₁ (W w₁)) (G (b.at (a.put o.dst undef) (aM ops rest::k)) cs) (W w₁)):∃t,S.dX St t d rs ws (G (b.at a (aM ops (i::rest)::k)) cs) w:=
 rR rfl λw₁ r=>let⟨v,c,u,j,s⟩:=h w₁ r;⟨_,W w₁,_,stepG_none m l p v,⟨λb q n=>c.keep b q λx=>n (aG x),c.size,c.tape,c.os,c.output⟩,u,λe f=>aG (j e (mem_listed f)),by rw[UF λe f=>j e (mem_listed f)];exact s⟩
def lV {Stop:zU}{w₀:zW}(f:∀g w,cQ rs (S.wg ws) w₀ w->S.J w->(∀w₁,S.J w₁->Stop g w₁)->∃t,S.dX St t d rs ws g w):
  ∀(m:Nat)(g:zH)(w:zW),cQ rs (S.wg ws) w₀ w->S.J w->Go.Conc.Goes S.P aE (λ_ w₁=>WgLive S.ty S.Wg w₁) DC0 Stop m g w->∃t,S.dX St t d rs ws g w
 |0,g,w,b,c,h=>f g w b c h
 |m+1,g,w,b,c,h=>by
  obtain h|⟨i,h⟩:=h
  .exact f g w b c h
  .refine rR i λw₁ r=> ?_;have a:=PY c r;obtain⟨g',e,o,n,⟨l,k⟩,j⟩:=goes_elim (h w₁ a);subst l;subst k;refine⟨g',e,#[],n,Go.Ren.Does.refl _ e,a,by simp,?_⟩;rw[dZ];exact lV f m g' e (b.trans r) a j
end
section
variable {S:Sp}{St:(zP)->(zP)->zU}{rs ws:zP}{w:zW}
def YZ (d:Nat):deafBehind d #[Go.ConcR.mk .disable]=d+1:=by simp[deafBehind,Go.ConcR.mk]
def PD:deafBehind 1 #[Go.ConcR.mk .enable]=0:=by simp[deafBehind,Go.ConcR.mk]
def PC (d:Nat)(a:Addr):deafBehind d #[Go.ConcR.mk (.read a)]=d:=by simp[deafBehind,Go.ConcR.mk]
def PL {d l:Nat}{m:Mark}{K:zU}{w₀:zW}(q:deafBehind d #[Go.ConcR.mk m]=l)(o:m= .disable\/m= .enable\/∃a,m= .read a/\a.block=S.Wg)
  (p:∀g w,cQ rs (S.wg ws) w₀ w->S.J w->K g w->∃t,S.dX St t l rs ws g w):∀g w,cQ rs (S.wg ws) w₀ w->S.J w->(∀b,S.J b->iE S.P aE m K g b)->∃t,S.dX St t d rs ws g w:=by
 intro g w n j h
 refine rR (h w j).1 λb r=> ?_
 have c:=PY j r
 obtain⟨_,k,f,u⟩:=h b c
 refine⟨k,b,_,f,Go.Ren.Does.refl _ b,c,λe i=> ?_,?_⟩
 .simp only[zAp,zAg,zAt,zCp]at i;subst i;obtain rfl|rfl|⟨a,rfl,s⟩:=o
  .exact aH (aH (aG rfl))
  .exact aH (aH (aH (aG rfl)))
  .exact aH (aH (aH (aH ⟨a,rfl,s⟩)))
 .rw[q,dZ];exact p k b (n.trans r) c u
def Vi (K:S.P=Tryz.prog)(C:S.ty=Tryz.link.tWg){j:Nat}(Y:j<2147483647)(E:∀b,rs b\/ws b->b≠S.Wg)(H:WgAt S.ty S.Wg w (j*KK) 0){b₀:zC}{a₀:Act}{ops₀:zQ}{i₀:Nat}{rest₀:List Nat}{k₀:zI}{cs:zL}
  (W:∀w',cQ rs ws w w'->WgAt S.ty S.Wg w' (((j+1:Nat):Int)*KK) 0->∃z,S.dX St z 0 rs ws (G (b₀.at (a₀.put ((ops₀[i₀]?).bind (·.dst)) (.tuple #[])) (aM ops₀ rest₀::k₀)) cs) w'):
  ∃z,S.dX St z 0 rs ws (G ((base Tryz.link.add).at ⟨#[.pointer (aA ⟨S.Wg,0,aB⟩),.int aD 1]++Array.replicate 115 undef,[]⟩ [.code (body_add Tryz.link)]) (b₀.at a₀ (aM ops₀ (i₀::rest₀)::k₀)::cs)) w:=by
 obtain⟨P,ty,Wg,Cr,Cd,n,m0,val,M,Fin,lH,mX⟩:=S
 dsimp only at K C
 subst K
 subst C
 have N:WgLive Tryz.link.tWg Wg w:=⟨_,_,H⟩
 obtain⟨m,X⟩:=add1 (L:=Tryz.link) (P:=Tryz.prog) (R:=λ_ c=>WgLive Tryz.link.tWg Wg c) (F:=λ_=>True) (Wg:=Wg) (Fin:=λg _=>g=G (b₀.at (a₀.put ((ops₀[i₀]?).bind (·.dst)) (.tuple #[])) (aM ops₀ rest₀::k₀)) cs) (mT:=0) Tryz.Ac ⟨λ_ r=>⟨trivial,r⟩,λ_=>trivial,λ_=>trivial⟩ (λw _=>Goes.stop λ_ _=>rfl) w ⟨trivial,N⟩
 have fin:∀(a:zW),cQ rs ws w a->WgAt Tryz.link.tWg Wg a (((j+1:Nat):Int)*KK) 0->∀g w',cQ rs (Sp.wg ⟨Tryz.prog,Tryz.link.tWg,Wg,Cr,Cd,n,m0,val,M,Fin,lH,mX⟩ ws) a w'->WgLive Tryz.link.tWg Wg w'->
   On Tryz.prog aE (λ_ c=>WgLive Tryz.link.tWg Wg c) (λg _=>g=G (b₀.at (a₀.put ((ops₀[i₀]?).bind (·.dst)) (.tuple #[])) (aM ops₀ rest₀::k₀)) cs) g w'->∃z,Sp.dX ⟨Tryz.prog,Tryz.link.tWg,Wg,Cr,Cd,n,m0,val,M,Fin,lH,mX⟩ St z 0 rs ws g w':=by
  intro a l k g w' s t ⟨m,D⟩
  refine lV (S:=⟨Tryz.prog,Tryz.link.tWg,Wg,Cr,Cd,n,m0,val,M,Fin,lH,mX⟩) (w₀:=a) (λg c d o v=> ?_) m g w' s t D
  have e:=v c o
  rw[e]
  exact W c (l.trans (At d)) ((d.dF Wg (aH (aH rfl))).trans k)
 have en:∀(a:zW),cQ rs ws w a->WgAt Tryz.link.tWg Wg a (((j+1:Nat):Int)*KK) 0->∀g w',cQ rs (Sp.wg ⟨Tryz.prog,Tryz.link.tWg,Wg,Cr,Cd,n,m0,val,M,Fin,lH,mX⟩ ws) a w'->WgLive Tryz.link.tWg Wg w'->
   On Tryz.prog aE (λ_ c=>WgLive Tryz.link.tWg Wg c) (iE Tryz.prog aE .enable (On Tryz.prog aE (λ_ c=>WgLive Tryz.link.tWg Wg c) (λg _=>g=G (b₀.at (a₀.put ((ops₀[i₀]?).bind (·.dst)) (.tuple #[])) (aM ops₀ rest₀::k₀)) cs))) g w'->∃z,Sp.dX ⟨Tryz.prog,Tryz.link.tWg,Wg,Cr,Cd,n,m0,val,M,Fin,lH,mX⟩ St z 1 rs ws g w':=by
  intro a l k g w' s t ⟨m,D⟩
  exact lV (S:=⟨Tryz.prog,Tryz.link.tWg,Wg,Cr,Cd,n,m0,val,M,Fin,lH,mX⟩) (w₀:=a) (PL (S:=⟨Tryz.prog,Tryz.link.tWg,Wg,Cr,Cd,n,m0,val,M,Fin,lH,mX⟩) PD (aH (aG rfl)) (fin a l k)) m g w' s t D
 refine lV (S:=⟨Tryz.prog,Tryz.link.tWg,Wg,Cr,Cd,n,m0,val,M,Fin,lH,mX⟩) (w₀:=w) (PL (S:=⟨Tryz.prog,Tryz.link.tWg,Wg,Cr,Cd,n,m0,val,M,Fin,lH,mX⟩) (YZ 0) (aG rfl) λg w' s t ⟨T,D⟩=> ?_) m _ w (cQ.refl _ _ w) N X
 refine lV (S:=⟨Tryz.prog,Tryz.link.tWg,Wg,Cr,Cd,n,m0,val,M,Fin,lH,mX⟩) (w₀:=w) (λQ c d o v=> ?_) T g w' s t D
 refine rR (v c o).1 λp x=> ?_
 have h:WgAt Tryz.link.tWg Wg p (j*KK) 0:=((d.trans x).dF Wg (aH (aH rfl))).trans H
 obtain⟨u,A,Z⟩:=(v p ⟨_,_,h⟩).2 j Y h
 have f:=h.setSt (((j:Int)+1)*KK)
 have B:(((j:Nat):Int)+1)=(((j+1:Nat):Nat):Int):=by omega
 have q:cQ rs ws w (p.setCell (stA Wg) (.int aQ (((j:Int)+1)*KK))):=by have r:=At (d.trans x);exact⟨λb J=>(bP _ _ (show b≠(stA Wg).block from E b J)).trans (r.dF b J),by rw[fA];exact r.size,by simp only[World.setCell];exact r.tape,by simp only[World.setCell];exact r.os,by simp only[World.setCell];exact r.output⟩
 refine⟨u,_,_,A,⟨λb _ V=>bP _ _ λe=>V (aH e),by rw[fA];exact zAa _,by simp[World.setCell],by simp[World.setCell],by simp[World.setCell]⟩,⟨_,_,f⟩,λe I=> ?_,?_⟩
 .simp only[zAp,zAg,zAt,zCp]at I;obtain rfl|rfl:=I
  .exact aH (aG ⟨_,_,rfl,rfl⟩)
  .exact aH (aG ⟨_,_,rfl,rfl⟩)
 .have U:deafBehind (0+1) #[Go.ConcR.rd (stA Wg),Go.ConcR.wr (stA Wg)]=1:=by simp[deafBehind,Go.ConcR.rd,Go.ConcR.wr]
  rw[U,qH];rw[B]at f;obtain⟨y,i⟩:=Z;by_cases O:j=0
  .rw[zAk O]at i;refine lV (S:=⟨Tryz.prog,Tryz.link.tWg,Wg,Cr,Cd,n,m0,val,M,Fin,lH,mX⟩) (w₀:=p.setCell (stA Wg) (.int aQ (((j:Int)+1)*KK))) (PL (S:=⟨Tryz.prog,Tryz.link.tWg,Wg,Cr,Cd,n,m0,val,M,Fin,lH,mX⟩) (PC 1 _) (aH (aH ⟨_,rfl,rfl⟩)) (en _ q (by rw[B];exact f))) y u _ (cQ.refl _ _ _) ⟨_,_,h.setSt _⟩ i
  .rw[zAh O]at i;exact en _ q (by rw[B];exact f) u _ (cQ.refl _ _ _) ⟨_,_,h.setSt _⟩ ⟨y,i⟩
end
noncomputable def L0:Code:=match Tryz.f170.body with|some (.seq _ (.seq _ (.seq _ (.seq _ (.seq _ (.seq (.seq _ (.block _ (.loop b))) _))))))=>b|_=> .skip
noncomputable def K0:Code:=match Tryz.f170.body with|some (.seq _ (.seq _ (.seq _ (.seq _ (.seq _ (.seq _ c))))))=>c|_=> .skip
noncomputable def Jt:zQ:=match L0 with| .seq _ (.seq _ (.seq (.block _ (.seq _ (.seq _ (.region _ ops _)))) _))=>ops|_=> #[]
noncomputable def Wb:Code:=match L0 with| .seq _ (.seq _ (.seq _ c))=>c|_=> .skip
structure Ft where
 N:Nat
 bp:Nat
 o:Nat
 cp:Nat
 b3:Nat
 b5:Nat
 b6:Nat
 fv:zY
 d:Nat->Int
 sa:Nat->zO
 sl:Nat->Nat
 sc:Nat->Nat
 K:zW->Prop
 old:zP
 lo:Nat
 pa:zO
abbrev Ft.p0 (T:Ft)(i:Nat):zY:= .int aD (T.d i)
abbrev Ft.p1 (T:Ft)(i:Nat):zY:= .slice (T.sa i) (T.sl i) (T.sc i)
section
variable(S:Sp)(T:Ft)
structure Ft.Ok (rs ws:zP)(i:Nat)(w:zW):Prop where
 ED:∀b,rs b->¬ws b/\b<w.heap.size
 Ul:∀b,rs b\/ws b->b≠S.Wg
 r3:rs T.b3
 r5:rs T.b5
 r6:rs T.b6
 rp:0<T.N->rs T.bp
 c3:w.cell? ⟨T.b3,0,aB⟩=aA T.fv
 c5:w.cell? ⟨T.b5,0,aB⟩=aA (.chan (aA S.Cr))
 c6:w.cell? ⟨T.b6,0,aB⟩=aA (.chan (aA S.Cd))
 q0:∀i,i<T.N->w.cell? ⟨T.bp,T.o+i*2,aB⟩=aA (T.p0 i)
 q1:∀i,i<T.N->w.cell? ⟨T.bp,T.o+i*2+1,aB⟩=aA (T.p1 i)
 wg:WgAt S.ty S.Wg w (i*KK) 0
 olds:∀b,T.old b->rs b
 held:T.K w
 low:T.lo<=w.heap.size
end
section
variable {S:Sp}{T:Ft}{rs ws Nt:zP}{i i':Nat}{w w':zW}
def Ft.rT (T:Ft):Prop:=∀w w',T.K w->(∀b,T.old b->w'.heap[b]? =w.heap[b]?)->w.heap.size<=w'.heap.size->w'.tape=w.tape->w'.os=w.os->w'.output=w.output->T.K w'
def Ft.Ok.lt (h:T.Ok S rs ws i w):S.Wg<w.heap.size:=(zAb.1 (show w.heap[S.Wg]? =aA _ from h.wg)).1
def Ft.Ok.to (l:T.rT)(h:T.Ok S rs ws i w)(g:∀b,rs b->w'.heap[b]? =w.heap[b]?)(k:WgAt S.ty S.Wg w' (i'*KK) 0)(hs:w.heap.size<=w'.heap.size)(o:w'.tape=w.tape)(n:w'.os=w.os)(m:w'.output=w.output)(c:∀b,Nt b->ws b\/w.heap.size<=b):T.Ok S rs Nt i' w':=by
 have d:∀b j,rs b->w'.cell? ⟨b,j,aB⟩=w.cell? ⟨b,j,aB⟩:=λb j a=>by simp only[World.cell?];rw[g b a]
 have p:=h.lt
 exact⟨λb a=>⟨λx=>(c b x).elim (h.ED b a).1 λy=>by have:=(h.ED b a).2;omega,zAc (h.ED b a).2 hs⟩,λb a e=>a.elim (λx=>h.Ul b (aG x) e) λx=>(c b x).elim (λy=>h.Ul b (aH y) e) λy=>by omega,h.r3,h.r5,h.r6,h.rp,
  (d _ _ h.r3).trans h.c3,(d _ _ h.r5).trans h.c5,(d _ _ h.r6).trans h.c6,λj f=>(d _ _ (h.rp (by omega))).trans (h.q0 j f),λj f=>(d _ _ (h.rp (by omega))).trans (h.q1 j f),k,h.olds,l w w' h.held (λb a=>g b (h.olds b a)) hs o n m,zBl h.low hs⟩
def Ft.Ok.lK (c:T.rT)(h:T.Ok S rs ws i w)(r:cQ rs (S.wg ws) w w'):T.Ok S rs ws i w':=
 h.to c (λb a=>r.dF b (aG a)) ((r.dF S.Wg (aH (aH rfl))).trans h.wg) r.size r.tape r.os r.output λ_ a=>aG a
def Ft.Ok.Xl (d:T.rT)(h:T.Ok S rs ws i w)(r:cQ rs ws w w')(c:WgAt S.ty S.Wg w' (i'*KK) 0):T.Ok S rs ws i' w':=
 h.to d (λb a=>r.dF b (aG a)) c r.size r.tape r.os r.output λ_ a=>aG a
def Ft.Ok.alloc (c:T.rT)(h:T.Ok S rs ws i w)(o:Obj):T.Ok S rs (grown ws w (w.alloc o)) i (w.alloc o):=
 h.to c (λb a=>alloc_old w o (h.ED b a).2) ((alloc_old w o h.lt).trans h.wg) (by rw[gG];omega) rfl rfl rfl λ_ a=>a.imp id λy=>y.1
def Ft.Ok.set (f:T.rT)(h:T.Ok S rs ws i w){a:Addr}(v:zY)(d:ws a.block):T.Ok S rs ws i (w.setCell a v):=
 h.to f (λb c=>bP w v λe=>(h.ED b c).1 (e▸d)) ((bP w v λe=>h.Ul _ (aH d) e.symm).trans h.wg) (by rw[fA];exact zAa _) (by simp[World.setCell]) (by simp[World.setCell]) (by simp[World.setCell]) λ_ c=>aG c
def Ft.Ok.live (h:T.Ok S rs ws i w):S.J w:=⟨_,_,h.wg⟩
end
section
variable {S:Sp}{T:Ft}{St:(zP)->(zP)->zU}{rs ws:zP}{i:Nat}{w:zW}{ds:List Deferred}{cs:zL}
noncomputable abbrev Fs (S:Sp) (T:Ft) (ds:List Deferred) (cs:zL) (M L K J I H F E D C:zY) (i:Int) (B A z x v u t s r q p o n m l j h g f e d c b a y:zY) (k:zI):zH:=
 G ((base 170).at ⟨#[.slice T.pa T.N T.cp,M,L,.pointer (aA ⟨T.b3,0,aB⟩),K,.pointer (aA ⟨T.b5,0,aB⟩),.pointer (aA ⟨T.b6,0,aB⟩),.pointer (aA ⟨S.Wg,0,aB⟩),J,I,H,F,E,D,C,.slice T.pa T.N T.cp,.int aD T.N,.int aD i,B,A,z,x,v,u,t,s,r,q,p,o,n,m,l,j,h,g,f,e,d,c,b,a,y],ds⟩ k) cs
def Mp {b:zC}{a:Act}{k:zI}{ops:zQ}{i:Nat}{rest:List Nat}{o:Oper}{f:zN}{args:zA}{d:Nat}(m:S.J w)(e:ops[i]? =aA o)(h:Region.wanted o (yielded ops a.tmps)=aE)(j:b.kind≠.early)
  (c:∀w₁,(aCF a.eval o).run S.P w₁= .ok (.enter f args) w₁) (l:∀w₁,(aCF a.eval o).events S.P w₁ #[]= #[])
  (g:∃t,S.dX St t d rs ws (G (Frame.enter S.P f args .normal) (b.at a (aM ops (i::rest)::k)::cs)) w):∃t,S.dX St t d rs ws (G (b.at a (aM ops (i::rest)::k)) cs) w:=
 eN m rfl (λw₁=>by rw[stepG_enter e h j (c w₁),listed_none (l w₁)]) g
def Fu (hP:S.P=Tryz.prog)(Wm:S.ty=Tryz.link.tWg)(l:T.rT)(h:T.Ok S rs ws i w)(Nv:0<T.N->T.pa=aA ⟨T.bp,T.o,aB⟩)(hi:i<T.N)(hN:T.N<2147483648)(y1 y2 y4 y8 y9 Tn VW Cq Cp Ns Od Oc Ob Oa Nz Ny Z Y X W V U R Q O L K J I H G F E D C:zY)
  (hn:∀(Nt:zP)(w':zW)(k g:Nat)(Wy Wx Ww Wv Wu:zY),T.Ok S rs Nt (i+1) w'->Nt k->Nt g->k<w'.heap.size->g<w'.heap.size->w'.cell? ⟨k,0,aB⟩=aA (.int aD i)->w'.cell? ⟨g,0,aB⟩=aA (T.p0 i)->w'.cell? ⟨g,1,aB⟩=aA (T.p1 i)->
   ∃tr,S.dX St tr 0 rs Nt (Fs S T ds cs y1 y2 y4 (.pointer (aA ⟨k,0,aB⟩)) (.pointer (aA ⟨g,0,aB⟩)) Tn VW Cq Cp Ns i Wy Wx Ww Wv Wu (.func (.func 182) #[] #[.pointer (aA ⟨S.Wg,0,aB⟩),.pointer (aA ⟨T.b5,0,aB⟩),.pointer (aA ⟨k,0,aB⟩),.pointer (aA ⟨T.b3,0,aB⟩),.pointer (aA ⟨g,0,aB⟩)]) Z Y X W V U R Q O L K J I H G F E D C [aM Jt [1],.inBlock 1,.code Wb,.inLoop L0,.inBlock 0,.code K0]) w'):
  ∃tr,S.dX St tr 0 rs ws (Fs S T ds cs y1 y2 y4 y8 y9 Tn VW Cq Cp Ns i Od Oc Ob Oa Nz Ny Z Y X W V U R Q O L K J I H G F E D C [.code L0,.inLoop L0,.inBlock 0,.code K0]) w:=by
 obtain⟨P,ty,Wg,Cr,Cd,n,m0,val,M,Fin,lH,mX⟩:=S
 dsimp only at hP
 subst hP
 have u:=h.live
 simp only[L0,Tryz.f170]
 refine eN u rfl (λ_=>zGn) ?_
 refine eN u rfl (λ_=>zGx) ?_
 simp only[zAl,zAe,zBm,Nat.reduceAdd,zAv,List.range,List.range.loop]
 have Qs:(i:Int)<T.N:=by omega
 refine rQ u (.bool aE) rfl rfl (by simp[base]) (λd r=>by go_simp) (λd r e p=>by simp[go_sem]at p) ?_
 walk_nrm
 refine eN u rfl (λ_=>zGm) ?_
 refine eN u rfl (λ_=>zGn) ?_
 refine eN u rfl (λ_=>stepG_cond (t:=aE) rfl) ?_
 simp only[zDf]
 refine eN u rfl (λ_=>zGu) ?_
 refine eN u rfl (λ_=>zGn) ?_
 refine eN u rfl (λ_=>stepG_block) ?_
 refine eN u rfl (λ_=>zGn) ?_
 refine eN u rfl (λ_=>zGx) ?_
 simp only[zAl,zAe,zBm,Nat.reduceAdd,zAv,List.range,List.range.loop]
 refine rQ u (.int aD i) rfl rfl (by simp[base]) (λd r=>by go_simp) (λd r e p=>by simp[go_sem]at p) ?_
 walk_nrm
 have Qt:¬((i:Int)<0):=by omega
 refine rQ u (.pointer (aA ⟨T.bp,T.o+i*2,aB⟩)) rfl rfl (by simp[base]) (λd r=> ?_) (λd r e p=> ?_) ?_
 .have hp:=Nv (by omega);go_simp
 .have e2:(Instr.indexAt 210 (.slice T.pa T.N T.cp) (.int aD i)).events Tryz.prog d #[]= #[]:=by
   rw[Nv (by omega)];exact events_indexAt_slice 210 ⟨T.bp,T.o,aB⟩ T.N T.cp aD i (by kernel_rfl) ⟨by omega,Qs⟩
  simp[go_sem,e2]at p
 walk_nrm
 refine rQ u (.agg #[T.p0 i,T.p1 i]) rfl rfl (by simp[base]) (λd r=> ?_) (λd r e p=> ?_) ?_
 .have A:=(h.lK l r).q0 i hi;have k1:=(h.lK l r).q1 i hi;go_simp
 .have A:=(h.lK l r).q0 i hi;have k1:=(h.lK l r).q1 i hi;simp[go_sem,A,k1]at p;obtain rfl|rfl:=p
  .exact aG ⟨_,_,_,rfl,aH ⟨rfl,h.rp (by omega)⟩⟩
  .exact aG ⟨_,_,_,rfl,aH ⟨rfl,h.rp (by omega)⟩⟩
 walk_nrm
 refine Bu (λd=> .pointer (aA ⟨d.heap.size,0,aB⟩)) (λd=>d.alloc (aI #[.int aD 0] 3)) rfl rfl (by simp[base]) λd r=>⟨by go_simp,rN ws d _,((h.lK l r).alloc l _).live,λe p=>by simp[go_sem]at p,?_⟩
 walk_nrm
 have h2:=(h.lK l r).alloc l (aI #[.int aD 0] 3)
 have a2:=uY d (aI #[.int aD 0] 3)
 have o2:grown ws d (d.alloc (aI #[.int aD 0] 3)) d.heap.size:=aH ⟨zAa _,by rw[gG];omega⟩
 have l2:d.heap.size<(d.alloc (aI #[.int aD 0] 3)).heap.size:=by rw[gG];omega
 clear r
 generalize grown ws d (d.alloc (aI #[.int aD 0] 3))=v at*
 generalize d.alloc (aI #[.int aD 0] 3)=w2 at*
 generalize d.heap.size=k at*
 clear d h u
 refine Bu (λd=> .pointer (aA ⟨d.heap.size,0,aB⟩)) (λd=>d.alloc (aI #[.int aD 0,.slice aB 0 0] 209)) rfl rfl (by simp[base]) λd r=>⟨by go_simp,rN v d _,((h2.lK l r).alloc l _).live,λe p=>by simp[go_sem]at p,?_⟩
 walk_nrm
 have h3:=(h2.lK l r).alloc l (aI #[.int aD 0,.slice aB 0 0] 209)
 have a3:=uY d (aI #[.int aD 0,.slice aB 0 0] 209)
 have s:grown v d (d.alloc (aI #[.int aD 0,.slice aB 0 0] 209)) d.heap.size:=aH ⟨zAa _,by rw[gG];omega⟩
 have l3:d.heap.size<(d.alloc (aI #[.int aD 0,.slice aB 0 0] 209)).heap.size:=by rw[gG];omega
 have m:grown v d (d.alloc (aI #[.int aD 0,.slice aB 0 0] 209)) k:=aG o2
 have ts:k<d.heap.size:=zAc l2 r.size
 have z:(d.alloc (aI #[.int aD 0,.slice aB 0 0] 209)).heap[k]? =aA (aI #[.int aD 0] 3):=(alloc_old _ _ ts).trans ((r.dF k (aH (aG o2))).trans a2)
 clear r o2 a2 l2 h2
 generalize grown v d (d.alloc (aI #[.int aD 0,.slice aB 0 0] 209))=mc at*
 generalize d.alloc (aI #[.int aD 0,.slice aB 0 0] 209)=w3 at*
 generalize d.heap.size=g at*
 clear d v w2
 refine VC (λd=>d.setCell ⟨k,0,aB⟩ (.int aD i)) rfl rfl (by simp[base]) λd r=>⟨?_,UK mc d _ m,((h3.lK l r).set l _ m).live,?_,?_⟩
 .have x:=(r.dF k (aH (aG m))).trans z;have A:=dC x 0;have k1:=fZ x 0;go_simp
 .intro e p;have x:=(r.dF k (aH (aG m))).trans z;have A:=dC x 0;have k1:=fZ x 0;rw[qH];simp[go_sem,A,k1]at p;subst p;exact aG ⟨_,_,_,rfl,aG m⟩
 walk_nrm
 rw[qH]
 have h4:=(h3.lK l r).set l (a:=⟨k,0,aB⟩) (.int aD i) m
 have a4:=jP ((r.dF k (aH (aG m))).trans z) 0 (.int aD i)
 have a5:(d.setCell ⟨k,0,aB⟩ (.int aD i)).heap[g]? =aA (aI #[.int aD 0,.slice aB 0 0] 209):=(bP _ _ (show g≠k by omega)).trans ((r.dF g (aH (aG s))).trans a3)
 have l4:g<(d.setCell ⟨k,0,aB⟩ (.int aD i)).heap.size:=by rw[fA];exact zAc l3 r.size
 simp only[zCo,zDm,zDg]at a4
 clear r h3 a3 z l3
 generalize d.setCell ⟨k,0,aB⟩ (.int aD i)=w4 at*
 clear d w3
 refine VC (λd=>(d.setCell ⟨g,0,aB⟩ (T.p0 i)).setCell ⟨g,1,aB⟩ (T.p1 i)) rfl rfl (by simp[base]) λd r=>⟨?_,?_,(((h4.lK l r).set l _ s).set l _ s).live,?_,?_⟩
 .have q:=(r.dF g (aH (aG s))).trans a5;have A:=dC q 0;have k1:=fZ q 0;have y:=jP q 0 (T.p0 i);have k2:=dC y 1;have k3:=fZ y 1;go_simp
 .exact⟨λb hb hx=>(bP _ _ λe=>hx (by rw[show b=g from e];exact s)).trans (bP _ _ λe=>hx (by rw[show b=g from e];exact s)),by rw[fA,fA];exact zAa _,by simp[World.setCell],by simp[World.setCell],by simp[World.setCell]⟩
 .intro e p;have q:=(r.dF g (aH (aG s))).trans a5;have A:=dC q 0;have k1:=fZ q 0;have y:=jP q 0 (T.p0 i);have k2:=dC y 1;have k3:=fZ y 1;rw[rJ];have k4:=dC q 1;have k5:=fZ q 1;simp[go_sem,A,k1,k4,k5]at p;obtain rfl|rfl:=p
  .exact aG ⟨_,_,_,rfl,aG s⟩
  .exact aG ⟨_,_,_,rfl,aG s⟩
 walk_nrm
 rw[rJ]
 have B:=((h4.lK l r).set l (a:=⟨g,0,aB⟩) (T.p0 i) s).set l (a:=⟨g,1,aB⟩) (T.p1 i) s
 have a6:=jP (jP ((r.dF g (aH (aG s))).trans a5) 0 (T.p0 i)) 1 (T.p1 i)
 have a7:((d.setCell ⟨g,0,aB⟩ (T.p0 i)).setCell ⟨g,1,aB⟩ (T.p1 i)).heap[k]? =aA (aI #[.int aD i] 3):=(bP _ _ (show k≠g by omega)).trans ((bP _ _ (show k≠g by omega)).trans ((r.dF k (aH (aG m))).trans a4))
 have l5:g<((d.setCell ⟨g,0,aB⟩ (T.p0 i)).setCell ⟨g,1,aB⟩ (T.p1 i)).heap.size:=by rw[fA,fA];exact zAc l4 r.size
 simp only[zCo,zDm,zDg]at a6
 clear r h4 a4 a5 l4
 generalize(d.setCell ⟨g,0,aB⟩ (T.p0 i)).setCell ⟨g,1,aB⟩ (T.p1 i)=w5 at*
 clear d w4
 refine eN B.live rfl (λ_=>zGm) ?_
 refine eN B.live rfl (λ_=>zGn) ?_
 refine eN B.live rfl (λ_=>zGx) ?_
 simp only[zAl,zAe,zBm,Nat.reduceAdd,zAv,List.range,List.range.loop]
 refine Mp (f:=181) (args:= #[.pointer (aA ⟨Wg,0,aB⟩),.int aD 1]) B.live rfl rfl (by simp[base]) (λd=> ?_) (λd=> ?_) ?_
 .simp[aCF,resolve,Deferred.ofValue,invoke,callFunc,Tryz.func181,Tryz.f181,go_sem]
 .simp[aCF,resolve,Deferred.ofValue,invoke,callFunc,Tryz.func181,Tryz.f181,go_sem]
 rw[enter_at (P:=Tryz.prog) (f:=181) (c:=body_add Tryz.link) #[.pointer (aA ⟨Wg,0,aB⟩),.int aD 1] Tryz.func181 rfl]
 refine Vi (S:=⟨Tryz.prog,ty,Wg,Cr,Cd,n,m0,val,M,Fin,lH,mX⟩) rfl Wm (j:=i) (by omega) B.Ul B.wg λw' r hw=> ?_
 have h6:=B.Xl l r (i':=i+1) hw
 have l6:=zAc l5 r.size
 have k8:=dC ((r.dF k (aH m)).trans a7) 0
 have k9:=dC ((r.dF g (aH s)).trans a6) 0
 have fo:=dC ((r.dF g (aH s)).trans a6) 1
 clear r B a6 a7 l5
 refine eN h6.live rfl (λ_=>zGm) ?_
 refine eN h6.live rfl (λ_=>zGx) ?_
 simp only[zAl,zAe,zBm,Nat.reduceAdd,zAv,List.range,List.range.loop]
 walk_nrm
 refine rQ h6.live (.func (.func 182) #[] #[.pointer (aA ⟨Wg,0,aB⟩),.pointer (aA ⟨T.b5,0,aB⟩),.pointer (aA ⟨k,0,aB⟩),.pointer (aA ⟨T.b3,0,aB⟩),.pointer (aA ⟨g,0,aB⟩)]) rfl rfl (by simp[base]) (λd r=>by go_simp) (λd r e p=>by simp[go_sem]at p) ?_
 walk_nrm
 exact hn mc w' k g _ _ _ _ _ h6 m s (by omega) l6 k8 k9 fo
end
end Go.Ga
