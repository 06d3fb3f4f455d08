import Derived.LaidMore
import Derived.Lib.LaidTab
import Derived.OpenShut
import Derived.Stop.Joined
import Derived.Deep.SlicePairs
import Derived.ChangeSlices
import Derived.Test.YtghpcgagijhlaaaGreatDoorCards
import Derived.Test.YtghpcgagijhlaaaGreatDoorTie
import Derived.SevenTiedAt
import Derived.SizedLaws
import Derived.Conc.LeavingOf
import Derived.Test.YtghpcgagijhlaaaGreatDoorL08
set_option linter.all false
set_option maxRecDepth 100000
set_option maxHeartbeats 16000000
open Option renaming some->aA,none->aB
open Bool renaming true->aF,false->aG
open Or renaming inl->aH,inr->aI
open Go.Obj renaming cells->aJ
open Go.IntKind renaming i64->aD,u32->aP,u8->aQ
open Go.Value renaming slice->aK,int->aC
open Array renaming ofFn->aFn,getElem_ofFn->aFo
open Classical renaming choose->aEi
open Go.Proofs.Tryz
namespace Go.Proofs.Zq
open Go.Proofs.YtghpcgagijhlaaaGreatDoor
open Go.ChangeShapes Go.WideShapes Go.ChangeAt Go.RowKit
def LJ:List (String×DataW Unit):=[("thicket/digest.squareRoots",Rows.laid_thicket_digest_squareRoots),("thicket/digest.cubeRoots",Rows.laid_thicket_digest_cubeRoots)]
def own:ownKnob Tryz.prog.godebug=aB:=by kernel_rfl
def Tp:Tryz.prog.globalNamed "thicket/digest.squareRoots"=aA 0:=by kernel_rfl
def gi:Tryz.prog.globalNamed "thicket/digest.cubeRoots"=aA 2:=by kernel_rfl
def Qy:(Tryz.prog.globals[0]?).map (·.type)=aA 136:=by kernel_rfl
def bg:(Tryz.prog.globals[2]?).map (·.type)=aA 157:=by kernel_rfl
def Nv (os:Os)(args:zA):laidMetH Tryz.prog LJ ((World.doorLaid Tryz.prog 400 os).forCall (λ_ _=>0) ⟨#[],args,[]⟩).memory:=
 laidMetH_of_parts3 (fuel:=8) (laidMet_of_run' 8 (by kernel_rfl) (by kernel_rfl)) (by kernel_rfl) (by kernel_rfl)
def iI:List Int:=[1779033703,3144134277,1013904242,2773480762,1359893119,2600822924,528734635,1541459225]
def mF:List Int:=TH.map λ(n:Nat)=>(n:Int)
def MV:(Rows.laid_thicket_digest_squareRoots:DataW Unit)=Lib.tabData aP iI:=rfl
def ZH:(Rows.laid_thicket_digest_cubeRoots:DataW Unit)=Lib.tabData aP mF:=by kernel_rfl
def MS {W}(h:laidMetH Tryz.prog LJ W):fD W:=by
 rw[MakeChecks.laidMetH_plain _ _ _ (by kernel_rfl)]at h;obtain⟨s,⟨g0,t0,q,f0,p0,q0,c,l,i,f,⟨w,t1,p,f1,u,r,b,k,g,d,_,_⟩,_⟩,_,_⟩:=h;obtain rfl:=zAk (Tp.symm.trans c);obtain rfl:=zAk (gi.symm.trans b);obtain rfl:=zAk (Qy.symm.trans l);obtain rfl:=zAk (bg.symm.trans k);rw[MV]at f;rw[ZH]at d;have c0:=Lib.cells_of_tab underlying136 underlying135 (by kernel_rfl) (by kernel_rfl) f;have c1:=Lib.cells_of_tab underlying157 underlying135 (by kernel_rfl) (by kernel_rfl) d;have v0:=World.var?_cell c i;have o:=World.var?_cell b g;have s0:H0.cells.toList=iI.map λz=>Value.int aP z:=by kernel_rfl
 have s1:∀t,t<64->(mF.map λz=>Value.int aP z)[t]? =aA (aC aP (Sha.V (K t))):=by intro t m;have e:(mF.map λz=>Value.int aP z).toArray=row aP K:=by{kernel_rfl};have:=lH aP K t m;rw[<-e]at this;simpa using this
 have a0:∀j v,(iI.map λz=>Value.int aP z)[j]? =aA v->W.cell? ⟨0,j,aB⟩=aA v:=λj v a=>by rw[v0 j];rw[<-c0]at a;simpa using a
 have n:∀t:Nat,t<64->W.cell? ⟨2,t,aB⟩=aA (aC aP (Sha.V (K t))):=λt m=>by rw[o t];have:=s1 t m;rw[<-c1]at this;simpa using this
 refine⟨⟨?_,n⟩,?_,λj v a=> ?_⟩
 .exact World.block_lt_of_cell? W ⟨_,_,aB⟩ (n 0 (by omega))
 .exact World.block_lt_of_cell? W ⟨_,_,aB⟩ (a0 0 (aC aP 1779033703) rfl)
 .rw[s0]at a;rw[zBd];exact a0 j v a
end Go.Proofs.Zq
namespace Go.Ga
open Go.Conc Go.Ren Go.Proofs Go.Tr
def Cq {a b:zA}(hs:a.size=b.size)(h:∀(i:Nat)(v v'),a[i]? =aA v->b[i]? =aA v'->v=v'):a=b:=by
 apply zBz;intro i;by_cases hi:i<a.size
 .have c:i<b.size:=by{omega};have:=h i a[i] b[i] (by simp[hi]) (by simp[c]);simp[hi,c,this]
 .have c:¬i<b.size:=by{omega};simp[hi,c]
def Vo {π ρ}(e:∀b b' d,π b b'->ρ b d->b'=d){a a' c}(h:bU π a a')(k:bU ρ a c):a'=c:=by obtain⟨f,j,i⟩:=h;obtain⟨k1,k2,g⟩:=k;have:=e _ _ _ f k1;cases a';cases c;simp_all
def tf {vb}:¬AJ vb 1000001:=λh=>by have h:(1000001:Nat)=1000000\/(1000001:Nat)=1000002+vb:=h;omega
def te {vb k:Nat}(h:AJ vb (1000002+k)):k=vb:=by have h:(1000002+k:Nat)=1000000\/(1000002+k:Nat)=1000002+vb:=h;omega
def ax {A o:zF}{π ρ}{vb:Nat}(H:¬o 1000001)(G:¬A 1000001)(p:∀k,A (1000002+k)->k=vb)(g:∀k,o (1000002+k)->k=vb)(F:∀b',¬π vb b')(r:∀b',¬ρ vb b')(B:∀b b' m,π b b'->ρ b m->b'=m){x y}(h:bG A π x y):∀{z},bG o ρ x z->y=z:=by
 have d:∀{cs e ds:zA},e.size=cs.size->ds.size=cs.size->(∀(i:Nat)(v f:zY),cs[i]? =aA v->e[i]? =aA f->∀{z:zY},bG o ρ v z->f=z)->(∀(i:Nat)(v f:zY),cs[i]? =aA v->ds[i]? =aA f->bG o ρ v f)->e=ds:=λ{cs e ds} j C J I=>by
  refine Cq (by omega) λi v f p g=> ?_;obtain⟨u,hu⟩:∃u,cs[i]? =aA u:=by have:=(zAa.1 p).1;exact⟨cs[i]'(by omega),zAj (by omega)⟩
  exact J i u v hu p (I i u f hu g)
 induction h with
 |bool b=>intro z k;cases k;rfl
 |int i n=>intro z k;cases k;rfl
 |string s=>intro z k;cases k;rfl
 |pointer h=>
  intro z k;cases k with
  |pointer k=>
   cases h with
   |none=>cases k;rfl
   |some h=>cases k with
    |some k=>rw[Vo B h k]
 |slice h n c=>
  intro z k;cases k with
  |slice k _ _=>
   cases h with
   |none=>cases k;rfl
   |some h=>cases k with
    |some k=>rw[Vo B h k]
  |void w _=>
   cases h with
   |some h=>have:=g _ w;subst this;exact absurd h.1 (F _)
 |func Q j C P _ _ i3 i4=>
  intro z k;cases k with
  |func _ k1 k2 _ E D=>rw[d j k1 i3 E,d C k2 i4 D]
 |nilFunc=>intro z k;cases k;rfl
 |iface t _ l=>
  intro z k;cases k with
  |iface _ k=>rw[l k]
 |nilIface=>intro z k;cases k;rfl
 |iT=>intro z k;cases k;rfl
 |gH=>intro z k;cases k;rfl
 |agg j _ l=>
  intro z k;cases k with
  |agg k1 k2=>rw[d j k1 l k2]
 |tuple j _ l=>
  intro z k;cases k with
  |tuple k1 k2=>rw[d j k1 l k2]
 |junk _ _=>
  intro z k;cases k with
  |junk _ _=>rfl
  |same k _=>exact absurd k H
 |same k _=>exact absurd k G
 |void w a=>
  intro z k;generalize q:(.slice (aA ⟨_,enc a,a.spot⟩) 0 0:zY)=x at k;cases k with
  |slice k _ _=>
   cases k with
   |some k=>cases q;have:=p _ w;subst this;exact absurd k.1 (r _)
   |none=>cases q
  |void _ a2=>injection q with M _ _;injection M with L;injection L with _ K R;obtain⟨O,N⟩:=Ub K;cases a;cases a2;simp_all
  |_=>cases q
def Left.below {R D V W w' I}(A:Start D V W)(M:∀x v,R x v->∀b,b<V.heap.size->v.heap[b]? =V.heap[b]?)(h:Left R D W I w'):Go.RowKit.Below W.heap.size W w':=by
 obtain⟨x,G,U,T,K,w,r,d,P,O,N,l⟩:=h;refine⟨O,P,N,d.size,λb p=> ?_⟩;by_cases B:D b
 .have j:=d.sub b b ⟨rfl,B⟩;have f:(G.re w'.tape w'.drawn).heap[b]? =V.heap[b]? :=M x G K b (by rw[A.size];omega);obtain⟨c,c',t,fr,q,E,e,_⟩|⟨q,o,e,E,C⟩:=A.blk b B
  .obtain⟨c1,n,t1,f1,F,g,m,a,g4,g5⟩|⟨_,o,g,m,a⟩|⟨y,H,g,_,a⟩:=r.blk b b j
   .rw[f,q]at g;cases g;have:=g5.1 (λx=>x);subst this;have L:c'=n:=Cq (by rw[e.size,a.size]) λi v J w s=>by
     obtain⟨u,hu⟩:∃u,c[i]? =aA u:=by have:=(zAa.1 w).1;have:=e.size;exact⟨c[i]'(by omega),zAj (by omega)⟩
     exact ax Qz.ns tf (λk h=>te h) (λk h=>Qz.QB h) (λS h=>absurd (A.lt _ h.2) (zDy _)) l (λb S Q p z=>by rw[<-p.1];exact(r.ok.inj (d.sub b b ⟨rfl,p.2⟩) z).1 rfl) (e.at' i u v hu w) (a.at' i u J hu s)
    rw[m,E,L]
   .rw[f,q]at g;cases g;exact absurd rfl (a.1 _ _ _)
   .rw[f,q]at g;cases g;cases a
  .obtain⟨c1,n,t1,f1,F,g,m,a,g4,g5⟩|⟨_,o,g,m,a⟩|⟨y,H,g,_,a⟩:=r.blk b b j
   .rw[f,e]at g;cases g;exact absurd rfl (C.1 _ _ _)
   .rw[m,<-g,f,e,E]
   .rw[f,e]at g;cases g;cases a with
    |view=>exact absurd rfl (C.2.1 _ _)
    |number=>exact absurd rfl (C.2.2.1 _ _)
 .exact(d.still b p (λX h=>B (by rw[<-h.1];exact h.2)) (λh=>h)).1
def Left.value {R D W w' a y}(e:∀x v,R x v->x= .bool y)(h:Left R D W a w'):a= .bool y:=by obtain⟨x,c,f,S,d,b,_⟩:=h;rw[e x c d]at b;cases b;rfl
def Kept (D:zP)(d x:zY):Prop:=
 (∀k m,d= .int k m->x= .int k m)/\(∀a l c,d= .slice a l c->(∀b,a=aA b->D b.block\/l=0/\c=0)->∃e,x= .slice e l c/\((∀b,a=aA b->D b.block)->e=a))/\∀p,x≠.pointer p
def Kept.self {D x}(c:∀p,x≠.pointer p):Kept D x x:=⟨λ_ _ h=>h,λa _ _ h _=>⟨a,h,λ_=>rfl⟩,c⟩
def Kept.no {D x d}(g:∀k m,d≠.int k m)(f:∀a l c,d≠.slice a l c)(e:∀p,x≠.pointer p):Kept D d x:=⟨λk m h=>absurd h (g k m),λa l c h=>absurd h (f a l c),e⟩
structure It (D:zP)(vb:Nat)(x' x:zY):Prop where
 there:bG (AJ vb) (cC D) x x'
 here:bG AS (cC λz=>D z\/z=vb) x x
 kept:Kept D x' x
 again:∀N,∃y,bG (AB N) (cC D) y x/\Kept D x' y
def It.flat {D vb x}(a:∀p,x≠.pointer p)(h:∀(A)(π),bG A π x x):It D vb x x:=⟨h _ _,h _ _,.self a,λ_=>⟨x,h _ _,.self a⟩⟩
def It.junk {D vb x}(h:Jk x)(a:∀y:zY,(∀p,y≠.pointer p)->Kept D x y):∃y,It D vb x y:=⟨_,.junk (aH rfl) h,.same (show AS 1000001 from rfl) x,a _ (by simp),λ_=>⟨_,.same (aH rfl) x,a _ (by simp)⟩⟩
def mask (D)(vb):∀(n)(x),SizeOf.sizeOf x<=n->∃y,It D vb x y:=by
 intro n;induction n with
 |zero=>intro x h;cases x<;>simp at h
 |succ n B=>
  have o:∀cs:zA,SizeOf.sizeOf cs<=n->∃ds,aZ (AJ vb) (cC D) ds cs/\aZ AS (cC λz=>D z\/z=vb) ds ds/\∀N,∃p,aZ (AB N) (cC D) p ds:=λcs H=>by
   have hi:∀i:Fin cs.size,∃y,It D vb cs[i] y:=λi=>B _ (by have:=Array.sizeOf_lt_of_mem (Array.getElem_mem i.2);have e:cs[i]=cs[i.1]:=rfl;rw[e];omega)
   refine⟨aFn λi=>aEi (hi i),.of (by simp) λi f d=> ?_,.of rfl λi f d=> ?_,λN=>⟨aFn λi=>aEi ((zAw (hi i)).again N),.of (by simp) λi f d=> ?_⟩⟩;{simp only[aFo];exact(zAw (hi ⟨i,d⟩)).there};{simp only[aFo];exact(zAw (hi ⟨i,by simpa using f⟩)).here};{simp only[aFo];exact(zAw ((zAw (hi ⟨i,by simpa using f⟩)).again N)).1}
  intro x h;cases x with
  |bool b=>exact⟨_,.flat (by simp) λ_ _=> .bool b⟩
  |int k m=>exact⟨_,.flat (by simp) λ_ _=> .int k m⟩
  |string s=>exact⟨_,.flat (by simp) λ_ _=> .string s⟩
  |nilFunc=>exact⟨_,.flat (by simp) λ_ _=> .nilFunc⟩
  |nilIface=>exact⟨_,.flat (by simp) λ_ _=> .nilIface⟩
  |map a=>
   cases a with
   |none=>exact⟨_,.flat (by simp) λ_ _=> .iT⟩
   |some a=>exact It.junk trivial λ_ g=> .no (by simp) (by simp) g
  |chan a=>
   cases a with
   |none=>exact⟨_,.flat (by simp) λ_ _=> .gH⟩
   |some a=>exact It.junk trivial λ_ g=> .no (by simp) (by simp) g
  |pointer a=>exact It.junk trivial λ_ g=> .no (by simp) (by simp) g
  |slice a l c=>
   cases a with
   |none=>exact⟨_,.flat (by simp) λ_ _=> .slice .none l c⟩
   |some a=>
    by_cases u:D a.block;{have r:∀{A:zF}{E:zP},(∀b,D b->E b)->bG A (cC E) (.slice (aA a) l c) (.slice (aA a) l c):=λI=> .slice (.some ⟨⟨rfl,I _ u⟩,rfl,rfl⟩) l c;exact⟨_,r λ_ h=>h,r λ_ h=>aH h,.self (by simp),λ_=>⟨_,r λ_ h=>h,.self (by simp)⟩⟩}
    .by_cases F:l=0/\c=0
     .obtain⟨rfl,rfl⟩:=F;have C:∀w,Kept D (.slice (aA a) 0 0) (.slice w 0 0):=λw=>by
       refine⟨λk m h=>(by cases h),λJ l c h _=> ?_,by simp⟩;cases h;exact⟨w,rfl,λh=>absurd (h a rfl) u⟩
      exact⟨_,.void (aI rfl) a,.slice (.some ⟨⟨rfl,aI rfl⟩,rfl,rfl⟩) 0 0,C _,λN=>⟨_,.void (aI rfl) ⟨vb,enc a,a.spot⟩,C _⟩⟩
     .refine It.junk trivial λy g=>⟨λk m h=>(by cases h),λJ K c' h d=> ?_,g⟩;cases h;exact((d a rfl).elim (λj=>u j) λj=>F j).elim
  |iface t v=>obtain⟨y,q⟩:=B v (by simp at h;omega);exact⟨.iface t y,.iface t q.there,.iface t q.here,.no (by simp) (by simp) (by simp),λN=>let⟨z,G,_⟩:=q.again N;⟨.iface t z,.iface t G,.no (by simp) (by simp) (by simp)⟩⟩
  |agg cs=>obtain⟨ds,f,d,j⟩:=o cs (by simp at h;omega);exact⟨.agg ds,.agg f.size f.at',.agg d.size d.at',.no (by simp) (by simp) (by simp),λN=>let⟨p,h⟩:=j N;⟨.agg p,.agg h.size h.at',.no (by simp) (by simp) (by simp)⟩⟩
  |tuple cs=>obtain⟨ds,f,d,j⟩:=o cs (by simp at h;omega);exact⟨.tuple ds,.tuple f.size f.at',.tuple d.size d.at',.no (by simp) (by simp) (by simp),λN=>let⟨p,h⟩:=j N;⟨.tuple p,.tuple h.size h.at',.no (by simp) (by simp) (by simp)⟩⟩
  |_=>exact It.junk trivial λ_ g=> .no (by simp) (by simp) g
def jT (W:zW)(b:Nat):Prop:=(∃c t fr,W.heap[b]? =aA (aJ c t fr))\/b<=Tryz.prog.globals.size
noncomputable def mk (W:zW)(x:zY):zY:=aEi (mask (jT W) W.heap.size _ x (zAb _))
def FA (W)(x):It (jT W) W.heap.size x (mk W x):=zAw (mask (jT W) W.heap.size _ x (zAb _))
noncomputable def Zr (W:zW)(N:Nat)(x:zY):zY:=aEi ((FA W x).again N)
def SU (W)(N)(x):bG (AB N) (cC (jT W)) (Zr W N x) (mk W x)/\Kept (jT W) x (Zr W N x):=zAw ((FA W x).again N)
def onCells (m:zY->zY):Obj->Obj
 |aJ c t fr=>aJ (c.map m) t fr
 |o=>o
def masked (m:zY->zY)(W:zW):zW:={W with heap:=(W.heap.map (onCells m)).push (aJ #[.int aQ 0] 0 (0,0))}
section
variable {m:zY->zY}{W:zW}{b:Nat}
def jR:(masked m W).heap.size=W.heap.size+1:=by simp[masked]
def yT (h:b<W.heap.size):(masked m W).heap[b]? =(W.heap[b]?).map (onCells m):=by show((W.heap.map (onCells m)).push _)[b]? =_;rw[zBk,zAv (by simp;omega),zCg]
def gI {c t fr}(h:W.heap[b]? =aA (aJ c t fr)):(masked m W).heap[b]? =aA (aJ (c.map m) t fr):=by rw[yT (zAa.1 h).1,h];rfl
def sM {o}(h:W.heap[b]? =aA o)(a:BW o):(masked m W).heap[b]? =aA o:=by rw[yT (zAa.1 h).1,h];cases o<;>first|rfl|exact absurd rfl (a.1 _ _ _)
def SV {k x}(h:W.cell? ⟨b,k,aB⟩=aA x):(masked m W).cell? ⟨b,k,aB⟩=aA (m x):=by
 unfold World.cell? at h⊢;dsimp only at h⊢;cases hb:W.heap[b]? with
 |none=>rw[hb]at h;cases h
 |some o=>
  rw[hb]at h;cases o with
  |cells c t fr=>rw[gI hb];simp only[Option.isSome_none,zBe,zDe]at h⊢;rw[zCg,h];rfl
  |_=>cases h
end
def XZ {A π f g}{c:zA}(h:∀x,bG A π (f x) (g x)):aZ A π (c.map f) (c.map g):= .of (by simp) λi d a=>by simp only[Array.getElem_map];exact h _
def QP {W}(e:∀b,b<=Tryz.prog.globals.size->∃o,W.heap[b]? =aA o/\((∃c t fr,o=aJ c t fr)\/BW o)):Start (jT W) (masked (mk W) W) W:=by
 refine⟨λb d=>aI d,λb d=> ?_,jR,?_,rfl,rfl,rfl,rfl,λb d=> ?_⟩
 .obtain⟨c,t,fr,h⟩|h:=d
  .exact(zAa.1 h).1
  .obtain⟨o,a,_⟩:=e b h;exact(zAa.1 a).1
 .show((W.heap.map (onCells (mk W))).push _)[W.heap.size]? =_;rw[zBk,zAz (by simp)]
 .have i:∀c t fr,W.heap[b]? =aA (aJ c t fr)->∃c₁ c' t fr,(masked (mk W) W).heap[b]? =aA (aJ c₁ t fr)/\W.heap[b]? =aA (aJ c' t fr)/\aZ (AJ W.heap.size) (cC (jT W)) c₁ c'/\aZ AS (cC λx=>jT W x\/x=W.heap.size) c₁ c₁:=λc t fr h=>by
   refine⟨_,c,t,fr,gI h,h,?_,XZ λx=>(FA W x).here⟩;have:=XZ (g:=id) (c:=c) λx=>(FA W x).there;rwa [Array.map_id]at this
  obtain⟨c,t,fr,h⟩|h:=d;{exact aH (i c t fr h)}
  .obtain⟨o,a,⟨c,t,fr,rfl⟩|f⟩:=e b h
   .exact aH (i c t fr a)
   .exact aI ⟨h,o,sM a f,a,f⟩
def Hr {W}(f:∀b,b<=Tryz.prog.globals.size->∃o,W.heap[b]? =aA o/\((∃c t fr,o=aJ c t fr)\/BW o))(N):Beside (jT W) N (masked (Zr W N) W) (masked (mk W) W):=by
 refine⟨jR.trans jR.symm,rfl,λb g=> ?_⟩;have e:∀c t fr,W.heap[b]? =aA (aJ c t fr)->∃c₁ c' t fr,(masked (Zr W N) W).heap[b]? =aA (aJ c₁ t fr)/\(masked (mk W) W).heap[b]? =aA (aJ c' t fr)/\aZ (AB N) (cC (jT W)) c₁ c':=λc t fr h=>⟨_,_,t,fr,gI h,gI h,XZ λx=>(SU W N x).1⟩;obtain⟨c,t,fr,h⟩|h:=g
 .exact aH (e c t fr h)
 .obtain⟨o,a,⟨c,t,fr,rfl⟩|d⟩:=f b h
  .exact aH (e c t fr a)
  .exact aI ⟨h,o,sM a d,sM a d,d⟩
end Go.Ga
namespace Go.Proofs.Zq
open Go.Proofs.YtghpcgagijhlaaaGreatDoor
open Go Go.RowKit Go.ChangeShapes Go.WideShapes Go.Ga Go.Ren Go.Deep
def qW {W a v}(h:W.cell? a=aA v):a.spot=aB/\jT W a.block/\a.block<W.heap.size:=by
 unfold World.cell? at h;cases hb:W.heap[a.block]? with
 |none=>rw[hb]at h;cases h
 |some o=>
  have bT:=(zAa.1 hb).1;rw[hb]at h;cases o with
  |cells c t fr=>
   dsimp only at h;cases b:a.spot with
   |none=>exact⟨rfl,aH ⟨c,t,fr,hb⟩,bT⟩
   |some s=>rw[b]at h;simp at h
  |_=>cases h
def Lj {W:zW}{f:Nat}{t e:zD}(d:Tryz.prog.underlying t=aA (.slice e)){a:Addr}{l c:Nat}(h:Value.okWide Tryz.prog W .any f t (aK (aA a) l c)):jT W a.block:=by
 simp only[Value.okWide,Cell.okWide,Cell.ok,d]at h;obtain⟨_,_,_,_,row,cells,b,_⟩:=h;unfold World.shape? at b;cases hb:W.heap[a.block]? with
 |none=>rw[hb]at b;cases b
 |some o=>
  rw[hb]at b;cases o with
  |cells c t fr=>exact aH ⟨c,t,fr,hb⟩
  |_=>cases b
def Ct {H:Type}{P:zZ}{e:zD}:∀{ds:List (DataW H)}{d:DataW H},d∈ds->∀n∈d.weights P e,n∈DataW.weightsAll P e ds
 |d0::ds,d,h,n,a=>by simp only[DataW.weightsAll,zAh];obtain rfl|h:=zAg.1 h;{exact aH a};{exact aI (Ct h n a)}
def Ag {n}(h:(Lit.int aD n).wf=aF): -9223372036854775808<=n/\n<=9223372036854775807:=by simpa [Lit.wf,IntKind.min,IntKind.max,IntKind.signed,IntKind.bits]using h
def num:zY->Int
 | .int _ n=>n
 |_=>0
def lj (W:zW)(e:zY)(l:zII):Prop:=uP W e l/\∃o cap,e=aK o l.length cap/\∀b,o=aA b->jT W b.block\/l.length=0/\cap=0
section
variable {H:Type}{enc:zD×zY->H}{W:zW}
def XQ {fuel u x}(h:DataW.trod enc Tryz.prog W 0 (λ_=>aF) aF fuel 45 [u]=aA x)(B:∀n∈x.1.weights Tryz.prog 45,n<=reachBytes):
  ∃l,lj W u l/\l.length<=4611686018427387904:=by
 have p:Tryz.prog.cellsOf 3=1:=by kernel_rfl
 have z:Tryz.prog.cellsOf 88=2:=by kernel_rfl
 have q:Tryz.prog.bytesOf 88=16:=by kernel_rfl
 obtain⟨y,_⟩|⟨a,len,cap,m,n,t,V,D0,D1,O,P,y,_,F,I,hm,D,d⟩:=open_slice_pairs underlying45 underlying88 z rfl rfl p p h
 .obtain rfl:u=aK aB 0 0:=(zEi y).1;exact⟨[],⟨⟨by simp,aH ⟨rfl,aB,0,rfl⟩⟩,aB,0,rfl,λb A=>by cases A⟩,by simp⟩
 .obtain rfl:u=aK (aA a) len cap:=(zEi y).1;simp only[zCs]at hm;replace hm:=hm.symm;subst hm;have c:∀i,i<cap->W.cell? (a.add (i*2))=aA (aC aD (num (t i)))/\W.cell? (a.add (i*2+1))=aA (aC aD (num (V i)))/\(-9223372036854775808<=num (t i)/\num (t i)<=9223372036854775807)/\-9223372036854775808<=num (V i)/\num (V i)<=9223372036854775807:=λi hi=>by
   obtain⟨e,C,t0,t1⟩:=d i hi;obtain⟨N,g0,_,w0⟩:=DataW.trod_int underlying3 t0;obtain⟨M,J,_,w1⟩:=DataW.trod_int underlying3 t1;have L:=(zEi g0).1;have K:=(zEi J).1;rw[L]at e⊢;rw[K]at C⊢;exact⟨e,C,Ag w0,Ag w1⟩
  have hlen:((List.range len).map λi=>(num (t i),num (V i))).length=len:=by{simp};refine⟨(List.range len).map λi=>(num (t i),num (V i)),⟨⟨λr f=> ?_,?_⟩,aA a,cap,by rw[hlen],λb A=> ?_⟩,?_⟩;{obtain⟨i,hi,rfl⟩:=zBl.1 f;have:=c i (by have:=zCi.1 hi;omega);exact⟨this.2.2.1.1,this.2.2.1.2,this.2.2.2.1,this.2.2.2.2⟩}
  .by_cases e:len=0
   .subst e;exact aH ⟨rfl,aA a,cap,rfl⟩
   .right;obtain⟨E,_,bT⟩:=qW (c 0 (by omega)).1;obtain⟨g,o,s⟩:=a;have v:s=aB:=by
     cases s with
     |none=>rfl
     |some s=>simp[Addr.add]at E
    subst v;refine⟨g,o,cap,by rw[hlen],by simpa [Addr.add]using bT,λi r f=> ?_⟩;rw[zDi]at f;obtain⟨k,G,rfl⟩:=zBp.1 f;obtain⟨w,j⟩:=zBa.1 G;simp at w j;subst j;have:=c i (by omega);rw[add_plain,add_plain]at this;exact⟨this.1,by rw[zCh];exact this.2.1⟩
  .cases A;by_cases e:cap=0
   .right;rw[hlen];exact⟨by omega,e⟩
   .left;have:=(qW (c 0 (by omega)).1).2.1;unfold Addr.add at this;split at this<;>exact this
  .rw[hlen];have f:=reachBytes_lt;rw[D]at B;have:=B ((len+(cap-len))*16) (by simp[DataW.weights,underlying45,q]);omega
structure uc (W:zW)(va:zO)(E:List (zII)):Prop where
 bu:∀b,va=aA b->jT W b.block
 TA:∀i l,E[i]? =aA l->∃g o ev,va=aA ⟨g,o,aB⟩/\g<W.heap.size/\W.cell? ⟨g,o+i,aB⟩=aA ev/\lj W ev l/\l.length<=4611686018427387904
def SJ {R:Nat}{v:zY}{d:DataW H}{J:List MemPlace}(e:Value.okWide Tryz.prog W .any R 28 v)(h:DataW.Trod enc Tryz.prog W 0 (λ_=>aF) aF 28 v d J)(y:∀n∈d.weights Tryz.prog 28,n<=reachBytes):
  ∃F I E,v=aK F E.length I/\uc W F E/\E.length<=4611686018427387904:=by
 obtain⟨fuel,G⟩:=h;have B:Tryz.prog.cellsOf 45=1:=by kernel_rfl
 have u:Tryz.prog.bytesOf 45=24:=by kernel_rfl
 have p:v.cells.toList=[v]:=by simp only[Value.okWide,Cell.okWide,Cell.ok,underlying28]at e;cases v<;>first|rfl|exact e.elim
 rw[p]at G;obtain⟨A,_⟩|⟨a,len,cap,m,n,V,D,T,A,_,N,Q,hm,K,c⟩:=open_slice1 underlying28 B G
 .obtain rfl:v=aK aB 0 0:=(zEi A).1;exact⟨aB,0,[],rfl,⟨λb C=>by(cases C),λi l hi=>by simp at hi⟩,by simp⟩
 .obtain rfl:v=aK (aA a) len cap:=(zEi A).1;simp only[zCs]at hm;replace hm:=hm.symm;subst hm;have P:d= .slice ((List.range len).map D) ((List.range (cap-len)).map λj=>D (len+j)):=congrArg Prod.fst K;rw[P]at y;have w:∀i,i<len->∀n∈(D i).weights Tryz.prog 45,n<=reachBytes:=λi hi n M=>y n (by
   simp only[DataW.weights,underlying28,zAg,zAh];exact aI (aH (Ct (zBl.2 ⟨i,zCi.2 hi,rfl⟩) n M)))
  have f:∀i,∃l,i<len->lj W (V i) l/\l.length<=4611686018427387904:=λi=>by by_cases hi:i<len;{obtain⟨l,hl⟩:=XQ (c i (by omega)).2 (w i hi);exact⟨l,λ_=>hl⟩};{exact⟨[],λh=>absurd h hi⟩}
  have hlen:((List.range len).map λi=>aEi (f i)).length=len:=by{simp};refine⟨aA a,cap,(List.range len).map λi=>aEi (f i),by rw[hlen],⟨λb C=> ?_,λi l hi=> ?_⟩,?_⟩;{cases C;exact Lj underlying28 e}
  .rw[zDi]at hi;obtain⟨k,O,rfl⟩:=zBp.1 hi;obtain⟨r,q⟩:=zBa.1 O;simp at r q;subst q;have t:=(c i (by omega)).1;obtain⟨L,_,bT⟩:=qW (c 0 (by omega)).1;obtain⟨g,o,s⟩:=a;have z:s=aB:=by
    cases s with
    |none=>rfl
    |some s=>simp[Addr.add]at L
   subst z;rw[add_plain]at t;have:=zAw (f i) r;exact⟨g,o,V i,rfl,by simpa [Addr.add]using bT,t,this.1,this.2⟩
  .rw[hlen];have S:=reachBytes_lt;have:=y ((len+(cap-len))*24) (by simp[DataW.weights,underlying28,u]);omega
end
section
variable {W X:zW}{m:zY->zY}(hX:X.heap=(masked m W).heap)(hm:∀x,Kept (jT W) x (m x))
include hX
def MG {b k x}(h:W.cell? ⟨b,k,aB⟩=aA x):X.cell? ⟨b,k,aB⟩=aA (m x):=by
 have e:X.cell? ⟨b,k,aB⟩=(masked m W).cell? ⟨b,k,aB⟩:=by unfold World.cell?;rw[hX]
 rw[e,SV h]
def tK {b}(h:b<W.heap.size):b<X.heap.size:=by rw[hX,jR];omega
include hm
def xS {b k kd n}(h:W.cell? ⟨b,k,aB⟩=aA (.int kd n)):X.cell? ⟨b,k,aB⟩=aA (.int kd n):=by rw[MG hX h,(hm _).1 _ _ rfl]
def ZU {q l}(h:lj W q l):uP X (m q) l:=by
 obtain⟨k,o,cap,rfl,w⟩:=h;obtain⟨s,j,A⟩:=(hm (aK o l.length cap)).2.1 _ _ _ rfl w;refine⟨k.fits,?_⟩;obtain⟨hl,_⟩|⟨g,p,c,v,y,a⟩:=k.TA
 .subst hl;exact aH ⟨rfl,s,cap,j⟩
 .by_cases n:l=[]
  .subst n;exact aH ⟨rfl,s,cap,j⟩
  .obtain⟨r,f⟩:∃r,l[0]? =aA r:=⟨l[0]'(zCt.2 n),zAi _⟩;injection v with d u t;subst d;have e:=(qW (a 0 r f).1).2.1;have:=A λb z=>by{cases z;exact e};subst this;exact aI ⟨g,p,cap,j,tK hX y,λi r hi=>⟨xS hX hm (a i r hi).1,xS hX hm (a i r hi).2⟩⟩
def ZA {v E}(h:uc W v E):IF X v E:=⟨λi l hi=>by obtain⟨g,o,f,e,d,c,b,a⟩:=h.TA i l hi;exact⟨g,o,m f,e,tK hX d,MG hX c,ZU hX hm b,a⟩⟩
def uJ:∀x,¬dD X x:=λx ⟨z,o,i,v,g,n,k⟩=>by
 obtain⟨fr,h⟩:=k.at';rw[hX]at h;have bT:=(zAa.1 h).1;rw[jR]at bT;by_cases j:x<W.heap.size
 .rw[yT j]at h;obtain⟨f,p,b⟩:=zBp.1 h;cases f with
  |cells c t l=>
   simp only[onCells,Obj.cells.injEq]at b;have a:(c.map m)[0]? =aA (ptr z):=by{rw[b.1];rfl};rw[zCg]at a;obtain⟨y,_,d⟩:=zBp.1 a;cases z with
   |none=>exact(hm y).2.2 _ d
   |some z=>exact(hm y).2.2 _ d
  |_=>cases b
 .obtain rfl:x=W.heap.size:=by omega
  have:(masked m W).heap[W.heap.size]? =aA (aJ #[aC aQ 0] 0 (0,0)):=by have e:(W.heap.map (onCells m)).size=W.heap.size:=Array.size_map ..;show((W.heap.map (onCells m)).push _)[W.heap.size]? =_;rw[<-e];exact Array.getElem?_push_size
  rw[this]at h;injection h with h;injection h with _ a;revert a;decide
def QI (h:fD W):fD X:=by
 have s0:H0.cells.toList=iI.map λz=>Value.int aP z:=by kernel_rfl
 refine⟨⟨tK hX h.mF.1,λt c=>xS hX hm (h.mF.2 t c)⟩,tK hX h.lt,λj v b=> ?_⟩;have a:=b;rw[s0,zDi]at a;obtain⟨z,_,rfl⟩:=zBp.1 a;exact xS hX hm (h.iI j _ b)
end
structure Uj (W:zW):Prop where
 rows:∀b,b<3->∃c t,W.heap[b]? =aA (aJ c t (0,0))/\∀(i:Nat) v,c[i]? =aA v->∃k n,v= .int k n/\k≠aQ
 last:∃c t fr,W.heap[3]? =aA (aJ c t fr)/\(∀(i:Nat) v,c[i]? =aA v->∃k n,v= .int k n/\k≠aQ)/\fr.2<=c.size
def EL {W t u n k c}(d:Tryz.prog.cellTypes Tryz.prog.depth t=aA (List.replicate n u))(j:Tryz.prog.underlying u=aA (.int k))(h:Row.ok Tryz.prog W .any 0 t c)(i:Nat)(v)(g:c[i]? =aA v):∃m,v= .int k m:=by
 obtain⟨o,e,_,l⟩:=h;rw[d]at e;obtain rfl:=zAk e;obtain⟨f,a,b⟩:=l i v g;have:f=u:=by rw[List.getElem?_replicate]at a;split at a;{exact(zAk a).symm};{cases a}
 subst this;simp only[Cell.ok,j]at b;cases v<;>first|exact b.elim|exact⟨_,by rw[b.1]⟩
open Go Go.RowKit Go.ChangeShapes Go.WideShapes Go.ChangeAt Go.Ga Go.Ren Go.Conc
def de:zY->Bool
 | .int k _=>k !=aQ
 |_=>aG
def Xe:Obj->Bool
 |aJ c _ fr=>c.all de&&decide (fr.2<=c.size)
 |_=>aG
def Xd {o}(h:Xe o=aF):∃c t fr,o=aJ c t fr/\(∀(i:Nat) v,c[i]? =aA v->∃k n,v= .int k n/\k≠aQ)/\fr.2<=c.size:=by
 cases o with
 |cells c t fr=>simp only[Xe,zBh,zCm]at h;refine⟨c,t,fr,rfl,λi v a=> ?_,h.2⟩;have:=Array.all_eq_true'.1 h.1 v (zBj a);cases v<;>first|(cases this;done)|exact⟨_,_,rfl,by simpa [de]using this⟩
 |_=>cases h
noncomputable def w0:zW:=(begin Tryz.prog (λ_ _=>0) default).world
def TS:Tryz.prog.globals.size=3:=by kernel_rfl
def mb:((w0.heap[0]?).bind Obj.row?).map (·.2)=aA 136:=by kernel_rfl
def ma:((w0.heap[1]?).bind Obj.row?).map (·.2)=aA 3:=by kernel_rfl
def lz:((w0.heap[2]?).bind Obj.row?).map (·.2)=aA 157:=by kernel_rfl
def lu:(w0.heap[3]?).map Xe=aA aF:=by kernel_rfl
def Qp {W}(h:W.ShapedOpen Tryz.prog):Uj W:=by
 obtain⟨K,J⟩:=h;have k:∀g t,g<3->((w0.heap[g]?).bind Obj.row?).map (·.2)=aA t->Tryz.prog.buildable t=aF->∃c,W.heap[g]? =aA (aJ c t)/\Row.ok Tryz.prog W .any 0 t c:=λg t E D j=>by obtain⟨⟨z,y⟩,C,rfl⟩:=zBp.1 D;obtain⟨cs,d,_,a⟩:=K g z y (by rw[TS];exact E) C;exact⟨cs,d,a j⟩
 refine⟨λb j=> ?_,?_⟩
 .match b,j with
  |0,_=>obtain⟨c,d,a⟩:=k 0 _ (by omega) mb (by kernel_rfl);exact⟨c,_,d,λi v f=>let⟨m,hm⟩:=EL (n:=8) (u:=135) (by kernel_rfl) underlying135 a i v f;⟨_,m,hm,by simp⟩⟩
  |1,_=>obtain⟨c,d,a⟩:=k 1 _ (by omega) ma (by kernel_rfl);exact⟨c,_,d,λi v f=>let⟨m,hm⟩:=EL (n:=1) (u:=3) (by kernel_rfl) underlying3 a i v f;⟨_,m,hm,by simp⟩⟩
  |2,_=>obtain⟨c,d,a⟩:=k 2 _ (by omega) lz (by kernel_rfl);exact⟨c,_,d,λi v f=>let⟨m,hm⟩:=EL (n:=64) (u:=135) (by kernel_rfl) underlying135 a i v f;⟨_,m,hm,by simp⟩⟩
  |b+3,j=>exact absurd j (by omega)
 .obtain⟨x,s,F⟩:=zBp.1 lu;have bT:3<w0.heap.size:=(zAa.1 s).1;obtain⟨o,r,B,A,p⟩:=J 3 (by rw[TS];omega) bT;have e:(3:Nat)-Tryz.prog.globals.size=0:=by{rw[TS]};rw[e]at p;have l:o=r:=p;have q:w0.heap[3]? =aA r:=A;rw[s]at q;obtain rfl:=zAk q;subst l;obtain⟨c,t,fr,rfl,I,G⟩:=Xd F;exact⟨c,t,fr,B,I,G⟩
def Uj.cF {W}(h:Uj W)(b)(d:b<=Tryz.prog.globals.size):∃o,W.heap[b]? =aA o/\((∃c t fr,o=aJ c t fr)\/BW o):=by
 rw[TS]at d;by_cases e:b<3
 .obtain⟨c,t,a,_⟩:=h.rows b e;exact⟨_,a,aH ⟨c,t,_,rfl⟩⟩
 .obtain rfl:b=3:=by{omega};obtain⟨c,t,fr,a,_⟩:=h.last;exact⟨_,a,aH ⟨c,t,fr,rfl⟩⟩
def VE {W X:zW}{m:zY->zY}(o:X.heap=(masked m W).heap)(q:∀x,Kept (jT W) x (m x))(s:Uj W)(A:fD W):Base X:=by
 have u:zq.globals.size=3:=Qz.gK.trans TS;have l:=uJ o q;refine⟨λb z=> ?_,QI o q A,?_⟩
 .rw[u]at z;rw[o];have d:∀c t fr,W.heap[b]? =aA (aJ c t fr)->(∀(i:Nat) v,c[i]? =aA v->∃k n,v= .int k n/\k≠aQ)->fr.2<=c.size->¬VN (masked m W).heap[b]?/\(∃c t fr,(masked m W).heap[b]? =aA (aJ c t fr)/\(∀D:zP,(∀x,x<=zq.globals.size->D x)->aZ Qw.Al (cC D) c c)/\(∀(i:Nat) m,c[i]?≠aA (aC aQ m))/\fr.2<=c.size):=λc t fr a hi p=>by
   have h:∀(i:Nat) v,(c.map m)[i]? =aA v->∃k n,v= .int k n/\k≠aQ:=λi v j=>by rw[zCg]at j;obtain⟨x,f,rfl⟩:=zBp.1 j;obtain⟨k,n,rfl,r⟩:=hi i x f;exact⟨k,n,(q _).1 _ _ rfl,r⟩
   refine⟨λ⟨x,f⟩=> ?_,_,t,_,gI a,λD _=>⟨rfl,λi v C j g=> ?_⟩,λi n y=> ?_,by simpa using p⟩;{rw[gI a]at f;(iterate 2 (injection f with f));obtain⟨k,n,e,_⟩:=h 0 (.bool x) (by rw[f];rfl);cases e};{rw[j]at g;cases g;obtain⟨k,n,rfl,_⟩:=h i v j;exact .int k n};{obtain⟨k,E,e,r⟩:=h i _ y;cases e;exact r rfl}
  by_cases B:b<3;{obtain⟨c,t,a,hi⟩:=s.rows b B;exact⟨(d c t _ a hi (zBu _)).1,⟨l b,λe=>by subst e;unfold World.frozen?;dsimp only;rw[o,gI a];rfl⟩,aH (d c t _ a hi (zBu _)).2⟩};{obtain rfl:b=3:=by{omega};obtain⟨c,t,fr,a,hi,p⟩:=s.last;exact⟨(d c t fr a hi p).1,⟨l 3,λe=>by cases e⟩,aH (d c t fr a hi p).2⟩}
 .rw[u,o,jR];obtain⟨c,t,fr,a,_⟩:=s.last;have:=(zAa.1 a).1;omega
def SY {W:zW}(hs:W.ShapedOpen Tryz.prog)(K:laidMetH Tryz.prog LJ W){k:zO}{vc:Nat}{E:List (zII)}{j:Int}(A:uc W k E)(y:E.length<=4611686018427387904)
  (O: -9223372036854775808<=j) (L:j<=9223372036854775807):
  ∃N last o i t,runNT Tryz.prog (N+1) (solo (G (Frame.enter Tryz.prog 7 #[aK k E.length vc,aC aD j] .normal) []) W) #[]=(.ended o i,t)/\runN Tryz.prog N (solo (G (Frame.enter Tryz.prog 7 #[aK k E.length vc,aC aD j] .normal) []) W)= .next last/\
   step Tryz.prog last= .ended o i/\Conc.Good Tryz.prog (λv Q=>v= .bool aF/\zb W Q) last o i t:=by
 have z:=Qp hs;have J:=MS K;have r:=z.cF;have B:∀(m:zY->zY),(∀x,Kept (jT W) x (m x))->∀g d,Calls zq 7 #[aK k E.length vc,aC aD j] ((masked m W).re g d) (RF λx i=>x= .bool aF/\Below (masked m W).heap.size ((masked m W).re g d) i):=λm q g d=>
  SZ k vc E j ((masked m W).re g d) (VE (X:=(masked m W).re g d) rfl q z J) (uJ (X:=(masked m W).re g d) rfl q) (ZA (X:=(masked m W).re g d) rfl q A) y O L
 have p:∀(a:zO)(l c:Nat),(∀b,a=aA b->jT W b.block)->bG (λ_=>False) (cC (jT W)) (aK a l c) (aK a l c):=λa l c h=>by
  cases a with
  |none=>exact .slice .none l c
  |some a=>exact .slice (.some ⟨⟨rfl,h a rfl⟩,rfl,rfl⟩) l c
 have I:aZ (λ_=>False) (cC (jT W)) #[aK k E.length vc,aC aD j] #[aK k E.length vc,aC aD j]:=
  VW (p k _ vc A.bu) (bG.int aD j)
 obtain⟨M,last,o,i,t,r1,r2,r3,n⟩:=Rq (R:=λx v=>x= .bool aF/\∀b,b<(masked (mk W) W).heap.size->v.heap[b]? =(masked (mk W) W).heap[b]?) Bz (f:=7) (by show(Qm.ck (·==1000001)).al 7=aF;kernel_rfl) (by decide) (by decide) I (QP r) (λx u g d h=>h)
  (λg d=>(B (mk W) (λx=>(FA W x).kept) g d).mono λe i h=>h.imp (λ⟨x,D,C,F⟩=>⟨x,D,C,λb s=>F.block b s⟩) id)
  λN _=>⟨masked (Zr W N) W,λe _=>e≠.outgrown,Hr r N,λi h=>h rfl,λg d=>(B (Zr W N) (λx=>(SU W N x).2) g d).mono λe i h=>by obtain⟨_,rfl,_⟩|⟨_,rfl,_⟩:=h<;>simp⟩
 exact⟨M,last,o,i,t,r1,r2,r3,n.mono λv hl=>⟨Left.value (λx v h=>h.1) hl,Left.below (QP r) (λx v h=>h.2) hl⟩⟩
section
variable {H:Type}{enc:zD×zY->H}{P:zZ}{w:zW}{base:Nat}{spare:Nat->Bool}{held:Bool}
def WC {t0 t1:zD}{args:zA}{ds:List (DataW H)}{b:List MemPlace}(h:DataW.TrodAll enc P w base spare held [t0,t1] args.toList ds b):
  ∃v0 v d0 d1 p0 p,args= #[v0,v]/\ds=[d0,d1]/\b=p0++p/\DataW.Trod enc P w base spare held t0 v0 d0 p0/\DataW.Trod enc P w base spare held t1 v d1 p:=by
 obtain⟨v0,r0,d0,c,p0,q0,a,rfl,rfl,g0,f0⟩:=trodAll_cons h;obtain⟨v,r1,d1,e,p,q,rfl,rfl,rfl,g,f1⟩:=trodAll_cons f0;obtain⟨rfl,rfl,rfl⟩:=trodAll_nil f1;exact⟨v0,v,d0,d1,p0,p,by cases args;simp_all,rfl,by simp,g0,g⟩
end
def JC (os:Os)(started:os.Started)(H:Type)(enc:zD×zY->H):
  ReturnsInLeavingWide {} Tryz.checked os 7 .any (λw args=>(Rows.littleSpec.pre enc Tryz.prog f7 [] aG w args/\laidMetH Tryz.prog LJ w)/\sizedMet enc Tryz.prog f7 (OpenSpec.ofChange Rows.littleSpec) aG w args)
   (Rows.littleSpec.post enc Tryz.prog f7 aG aF aG aG):=by
 refine returnsInLeavingWide_of_good (C:=Tryz.checked) own started
  (ChangeSpec.witness_shaped (enc:=enc) (C:=Tryz.checked) (os:=os) (X:=λw _=>laidMetH Tryz.prog LJ w) aG (World.doorLaid Tryz.prog 400 os) #[aK aB 0 0,aC aD 0] 8 rfl (World.shaped_of_RefB (by kernel_rfl) (by kernel_rfl)) (by kernel_rfl) (by kernel_rfl) (by kernel_rfl) (Nv os _)) ?_
 intro w tape i _ k _ B l _;obtain⟨_,_,_,F,m,_,_,_,_,a⟩:=B;obtain rfl:F=f7:=zAk (m.symm.trans func7);obtain⟨⟨⟨ds,gs,before,A,_⟩,hl⟩,J⟩:=l;have c:=J.weights A;have f:=DataW.Whole.of_heap (w':=w.forCall tape i) (by rfl) A;have L:laidMetH Tryz.prog LJ (w.forCall tape i):=hl.of_heap (by rfl);obtain⟨blocks,args,vars⟩:=i;dsimp only at a f c L k⊢;generalize w.forCall tape ⟨blocks,args,vars⟩=W at*;clear hl J A;have b:∀(j:Nat) t v,f7.params[j]? =aA t->args[j]? =aA v->Value.okWide Tryz.prog W .any w.heap.size t v:=a;have g:(DataW.weightsEach Tryz.prog (f7.params.toList++Rows.littleSpec.plain.varTypes Tryz.prog) (ds++gs)).all (·<=reachBytes)=aF:=c;have r:=f;obtain⟨p,q,s,Z,rfl,U,S⟩:=f;have N:DataW.TrodAll enc Tryz.prog W 0 (λ_=>aF) aF f7.params.toList args.toList ds p:=s;rw[params7]at N b g;obtain⟨v0,O,d0,d1,p0,p1,rfl,rfl,rfl,t0,t1⟩:=WC N;obtain⟨rfl,rfl⟩:=trodVars_none Z;have z:∀(j:Nat) t d,([28,3]:List zD)[j]? =aA t->[d0,d1][j]? =aA d->∀n∈d.weights Tryz.prog t,n<=reachBytes:=λj t d K Y n T=>by have:=zCb.1 g n (DataW.weights_mem_each (j:=j) (t:=t) (d:=d) (by rw[zCj (zBa.1 K).1];exact K) (by rw[zAq];exact Y) n T);simpa using this
 obtain⟨va,I,E,rfl,hE,D⟩:=SJ (b 0 28 v0 rfl rfl) t0 (z 0 _ _ rfl rfl);obtain⟨wi,rfl,rfl,rfl,w1⟩:=open_int underlying3 (b 1 3 O rfl rfl) t1;have y:∀x∈p0,x.block<W.heap.size:=by obtain⟨fuel,V⟩:=t0;exact DataW.trod_lt fuel _ _ _ V
 clear s a c;obtain⟨M,last,o,G,Q,r1,r2,r3,e⟩:=SY k L (vc:=I) hE D (Ag w1).1 (Ag w1).2;refine⟨M,last,o,G,Q,r1,r2,r3,e.mono λv R=> ?_⟩;obtain⟨rfl,u⟩:=R;simp only[zAq]at r;exact ChangeSpec.post_blind ⟨_,_,_,[],_,[],r,trodAll_mk1 (shut_bool underlying4 _),trodAll_mk2 (u.trod (by kernel_rfl) (by kernel_rfl) (of_decide_eq_true (by kernel_rfl)) t0 y) (shut_int underlying3 w1),rfl,u.frame _,λh=>by cases h⟩
def YD:Rows.LittleSaid:=
 OpenClaim.holds_of_wide_leaving 7 f7 rfl rfl rfl rfl rfl rfl rfl ⟨rfl,rfl,rfl,rfl,rfl⟩ rfl rfl rfl rfl rfl (by kernel_rfl) func7 (by kernel_rfl)
  (of_decide_eq_true (by kernel_rfl)) (by unfold Func.isWrapper;first|(rw[zAz (by decide+kernel)];kernel_rfl)|(rw[zAv (by decide+kernel)];exact⟨rfl,rfl⟩))
  (λos started H enc _=>JC os started H enc)
theorem little_holds:Rows.LittleCardSaid:=
 ⟨Claim7.tied_new_at .later [.data,.data] aF (Claim7.new_of_sixth YD (aF,"33411e03c5f2884f9bb58066ffa33b407d3d92d55cca09c31043876e27824a14") aG rfl ⟨rfl,rfl⟩ (by kernel_rfl) rfl
  (λf fn e b=>by
   obtain rfl:f=7:=zAk ((show Tryz.prog.funcNamed "thicket/thicketkeep.Little"=aA 7 by kernel_rfl).symm.trans e)|>.symm;obtain rfl:fn=f7:=(zAk (func7.symm.trans b)).symm;exact⟨by kernel_rfl,λj t c=>by
    rw[params7]at c;have d:t∈[28,3]:=by{simpa using zBj c};have a:([28,3].all λu=> !Tryz.prog.wantsStandIn u)=aF:=by kernel_rfl
    exact(show Tryz.prog.wantsStandIn t=aG by simpa using zCb.1 a t d)⟩)) (by kernel_rfl),λD g=>by(cases g),little_row_tie,λh=>by(cases h),by kernel_rfl⟩
end Go.Proofs.Zq
