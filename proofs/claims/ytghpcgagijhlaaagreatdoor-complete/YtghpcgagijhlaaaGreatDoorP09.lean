import Derived.LaidMore
import Derived.Lib.LaidTab
import Derived.OpenShut
import Derived.Stop.Joined
import Derived.Deep.SlicePairs
import Derived.ChangeSlices
import Derived.Test.YtghpcgagijhlaaaGreatDoorCards
import Derived.Test.YtghpcgagijhlaaaGreatDoorTie
import Derived.SevenTiedAt
import Derived.SizedLaws
import Derived.Conc.LeavingOf
import Derived.Test.YtghpcgagijhlaaaGreatDoorP08
set_option linter.all false
set_option maxRecDepth 100000
set_option maxHeartbeats 16000000
open Option renaming some->aA,none->aB
open Bool renaming true->aE,false->aF
open Or renaming inl->aG,inr->aH
open Go.Obj renaming cells->aI
open Go.IntKind renaming i64->aD,u32->aO,u8->aP
open Go.Value renaming slice->aJ,int->aC
open Array renaming ofFn->aHI,getElem_ofFn->aHJ
open Classical renaming choose->aGn
open Go.Proofs.Tryz
namespace Go.Proofs.Zq
open Go.Proofs.YtghpcgagijhlaaaGreatDoor
open Go.ChangeShapes Go.WideShapes Go.ChangeAt Go.RowKit
def NV:List (String×DataW Unit):=[("thicket/digest.squareRoots",Rows.laid_thicket_digest_squareRoots),("thicket/digest.cubeRoots",Rows.laid_thicket_digest_cubeRoots)]
def own:ownKnob Tryz.prog.godebug=aB:=by kernel_rfl
def Wu:Tryz.prog.globalNamed "thicket/digest.squareRoots"=aA 0:=by kernel_rfl
def mb:Tryz.prog.globalNamed "thicket/digest.cubeRoots"=aA 2:=by kernel_rfl
def Uu:(Tryz.prog.globals[0]?).map (·.type)=aA 136:=by kernel_rfl
def ik:(Tryz.prog.globals[2]?).map (·.type)=aA 157:=by kernel_rfl
def Rx (os:Os)(args:zA):laidMetH Tryz.prog NV ((World.doorLaid Tryz.prog 400 os).forCall (λ_ _=>0) ⟨#[],args,[]⟩).memory:=
 laidMetH_of_parts3 (fuel:=8) (laidMet_of_run' 8 (by kernel_rfl) (by kernel_rfl)) (by kernel_rfl) (by kernel_rfl)
def jY:List Int:=[1779033703,3144134277,1013904242,2773480762,1359893119,2600822924,528734635,1541459225]
def nL:List Int:=VZ.map λ(n:Nat)=>(n:Int)
def PL:(Rows.laid_thicket_digest_squareRoots:DataW Unit)=Lib.tabData aO jY:=rfl
def Cv:(Rows.laid_thicket_digest_cubeRoots:DataW Unit)=Lib.tabData aO nL:=by kernel_rfl
def PG {W}(h:laidMetH Tryz.prog NV W):fJ W:=by
 rw[MakeChecks.laidMetH_plain _ _ _ (by kernel_rfl)]at h;obtain⟨s,⟨g0,t0,q,f0,p0,q0,c,l,i,f,⟨w,t1,p,f1,u,r,b,k,g,d,_,_⟩,_⟩,_,_⟩:=h;obtain rfl:=zAm (Wu.symm.trans c);obtain rfl:=zAm (mb.symm.trans b);obtain rfl:=zAm (Uu.symm.trans l);obtain rfl:=zAm (ik.symm.trans k);rw[PL]at f;rw[Cv]at d;have c0:=Lib.cells_of_tab underlying136 underlying135 (by kernel_rfl) (by kernel_rfl) f;have c1:=Lib.cells_of_tab underlying157 underlying135 (by kernel_rfl) (by kernel_rfl) d;have v0:=World.var?_cell c i;have o:=World.var?_cell b g;have s0:H0.cells.toList=jY.map λz=>Value.int aO z:=by kernel_rfl
 have s1:∀t,t<64->(nL.map λz=>Value.int aO z)[t]? =aA (aC aO (Sha.V (K t))):=by intro t m;have e:(nL.map λz=>Value.int aO z).toArray=row aO K:=by{kernel_rfl};have:=mF aO K t m;rw[<-e]at this;simpa using this
 have a0:∀j v,(jY.map λz=>Value.int aO z)[j]? =aA v->W.cell? ⟨0,j,aB⟩=aA v:=λj v a=>by rw[v0 j];rw[<-c0]at a;simpa using a
 have n:∀t:Nat,t<64->W.cell? ⟨2,t,aB⟩=aA (aC aO (Sha.V (K t))):=λt m=>by rw[o t];have:=s1 t m;rw[<-c1]at this;simpa using this
 refine⟨⟨?_,n⟩,?_,λj v a=> ?_⟩
 .exact World.block_lt_of_cell? W ⟨_,_,aB⟩ (n 0 (by omega))
 .exact World.block_lt_of_cell? W ⟨_,_,aB⟩ (a0 0 (aC aO 1779033703) rfl)
 .rw[s0]at a;rw[zAz];exact a0 j v a
end Go.Proofs.Zq
namespace Go.Ga
open Go.Conc Go.Ren Go.Proofs Go.Tr
def Gf {a b:zA}(hs:a.size=b.size)(h:∀(i:Nat)(v v'),a[i]? =aA v->b[i]? =aA v'->v=v'):a=b:=by
 apply zBu;intro i;by_cases hi:i<a.size
 .have c:i<b.size:=by{omega};have:=h i a[i] b[i] (by simp[hi]) (by simp[c]);simp[hi,c,this]
 .have c:¬i<b.size:=by{omega};simp[hi,c]
def Yo {π ρ}(e:∀b b' d,π b b'->ρ b d->b'=d){a a' c}(h:bY π a a')(k:bY ρ a c):a'=c:=by obtain⟨f,j,i⟩:=h;obtain⟨k1,k2,g⟩:=k;have:=e _ _ _ f k1;cases a';cases c;simp_all
def ya {vb}:¬AJ vb 1000001:=λh=>by have h:(1000001:Nat)=1000000\/(1000001:Nat)=1000002+vb:=h;omega
def xz {vb k:Nat}(h:AJ vb (1000002+k)):k=vb:=by have h:(1000002+k:Nat)=1000000\/(1000002+k:Nat)=1000002+vb:=h;omega
def gu {A o:zF}{π ρ}{vb:Nat}(H:¬o 1000001)(G:¬A 1000001)(p:∀k,A (1000002+k)->k=vb)(g:∀k,o (1000002+k)->k=vb)(F:∀b',¬π vb b')(r:∀b',¬ρ vb b')(B:∀b b' m,π b b'->ρ b m->b'=m){x y}(h:bE A π x y):∀{z},bE o ρ x z->y=z:=by
 have d:∀{cs e ds:zA},e.size=cs.size->ds.size=cs.size->(∀(i:Nat)(v f:zY),cs[i]? =aA v->e[i]? =aA f->∀{z:zY},bE o ρ v z->f=z)->(∀(i:Nat)(v f:zY),cs[i]? =aA v->ds[i]? =aA f->bE o ρ v f)->e=ds:=λ{cs e ds} j C J I=>by
  refine Gf (by omega) λi v f p g=> ?_;obtain⟨u,hu⟩:∃u,cs[i]? =aA u:=by have:=(zAb.1 p).1;exact⟨cs[i]'(by omega),zAk (by omega)⟩
  exact J i u v hu p (I i u f hu g)
 induction h with
 |bool b=>intro z k;cases k;rfl
 |int i n=>intro z k;cases k;rfl
 |string s=>intro z k;cases k;rfl
 |pointer h=>
  intro z k;cases k with
  |pointer k=>
   cases h with
   |none=>cases k;rfl
   |some h=>cases k with
    |some k=>rw[Yo B h k]
 |slice h n c=>
  intro z k;cases k with
  |slice k _ _=>
   cases h with
   |none=>cases k;rfl
   |some h=>cases k with
    |some k=>rw[Yo B h k]
  |void w _=>
   cases h with
   |some h=>have:=g _ w;subst this;exact absurd h.1 (F _)
 |func Q j C P _ _ i3 i4=>
  intro z k;cases k with
  |func _ k1 k2 _ E D=>rw[d j k1 i3 E,d C k2 i4 D]
 |nilFunc=>intro z k;cases k;rfl
 |iface t _ l=>
  intro z k;cases k with
  |iface _ k=>rw[l k]
 |nilIface=>intro z k;cases k;rfl
 |jQ=>intro z k;cases k;rfl
 |gY=>intro z k;cases k;rfl
 |agg j _ l=>
  intro z k;cases k with
  |agg k1 k2=>rw[d j k1 l k2]
 |tuple j _ l=>
  intro z k;cases k with
  |tuple k1 k2=>rw[d j k1 l k2]
 |junk _ _=>
  intro z k;cases k with
  |junk _ _=>rfl
  |same k _=>exact absurd k H
 |same k _=>exact absurd k G
 |void w a=>
  intro z k;generalize q:(.slice (aA ⟨_,enc a,a.spot⟩) 0 0:zY)=x at k;cases k with
  |slice k _ _=>
   cases k with
   |some k=>cases q;have:=p _ w;subst this;exact absurd k.1 (r _)
   |none=>cases q
  |void _ a2=>injection q with M _ _;injection M with L;injection L with _ K R;obtain⟨O,N⟩:=Xd K;cases a;cases a2;simp_all
  |_=>cases q
def Left.below {R D V W w' I}(A:Start D V W)(M:∀x v,R x v->∀b,b<V.heap.size->v.heap[b]? =V.heap[b]?)(h:Left R D W I w'):Go.RowKit.Below W.heap.size W w':=by
 obtain⟨x,G,U,T,K,w,r,d,P,O,N,l⟩:=h;refine⟨O,P,N,d.size,λb p=> ?_⟩;by_cases B:D b
 .have j:=d.sub b b ⟨rfl,B⟩;have f:(G.re w'.tape w'.drawn).heap[b]? =V.heap[b]? :=M x G K b (by rw[A.size];omega);obtain⟨c,c',t,fr,q,E,e,_⟩|⟨q,o,e,E,C⟩:=A.blk b B
  .obtain⟨c1,n,t1,f1,F,g,m,a,g4,g5⟩|⟨_,o,g,m,a⟩|⟨y,H,g,_,a⟩:=r.blk b b j
   .rw[f,q]at g;cases g;have:=g5.1 (λx=>x);subst this;have L:c'=n:=Gf (by rw[e.size,a.size]) λi v J w s=>by
     obtain⟨u,hu⟩:∃u,c[i]? =aA u:=by have:=(zAb.1 w).1;have:=e.size;exact⟨c[i]'(by omega),zAk (by omega)⟩
     exact gu Qz.ns ya (λk h=>xz h) (λk h=>Qz.SP h) (λS h=>absurd (A.lt _ h.2) (zFf _)) l (λb S Q p z=>by rw[<-p.1];exact(r.ok.inj (d.sub b b ⟨rfl,p.2⟩) z).1 rfl) (e.at' i u v hu w) (a.at' i u J hu s)
    rw[m,E,L]
   .rw[f,q]at g;cases g;exact absurd rfl (a.1 _ _ _)
   .rw[f,q]at g;cases g;cases a
  .obtain⟨c1,n,t1,f1,F,g,m,a,g4,g5⟩|⟨_,o,g,m,a⟩|⟨y,H,g,_,a⟩:=r.blk b b j
   .rw[f,e]at g;cases g;exact absurd rfl (C.1 _ _ _)
   .rw[m,<-g,f,e,E]
   .rw[f,e]at g;cases g;cases a with
    |view=>exact absurd rfl (C.2.1 _ _)
    |number=>exact absurd rfl (C.2.2.1 _ _)
 .exact(d.still b p (λX h=>B (by rw[<-h.1];exact h.2)) (λh=>h)).1
def Left.value {R D W w' a y}(e:∀x v,R x v->x= .bool y)(h:Left R D W a w'):a= .bool y:=by obtain⟨x,c,f,S,d,b,_⟩:=h;rw[e x c d]at b;cases b;rfl
def Kept (D:zP)(d x:zY):Prop:=
 (∀k m,d= .int k m->x= .int k m)/\(∀a l c,d= .slice a l c->(∀b,a=aA b->D b.block\/l=0/\c=0)->∃e,x= .slice e l c/\((∀b,a=aA b->D b.block)->e=a))/\∀p,x≠.pointer p
def Kept.self {D x}(c:∀p,x≠.pointer p):Kept D x x:=⟨λ_ _ h=>h,λa _ _ h _=>⟨a,h,λ_=>rfl⟩,c⟩
def Kept.no {D x d}(g:∀k m,d≠.int k m)(f:∀a l c,d≠.slice a l c)(e:∀p,x≠.pointer p):Kept D d x:=⟨λk m h=>absurd h (g k m),λa l c h=>absurd h (f a l c),e⟩
structure Mm (D:zP)(vb:Nat)(x' x:zY):Prop where
 there:bE (AJ vb) (cL D) x x'
 here:bE AS (cL λz=>D z\/z=vb) x x
 kept:Kept D x' x
 again:∀N,∃y,bE (AB N) (cL D) y x/\Kept D x' y
def Mm.flat {D vb x}(a:∀p,x≠.pointer p)(h:∀(A)(π),bE A π x x):Mm D vb x x:=⟨h _ _,h _ _,.self a,λ_=>⟨x,h _ _,.self a⟩⟩
def Mm.junk {D vb x}(h:Jk x)(a:∀y:zY,(∀p,y≠.pointer p)->Kept D x y):∃y,Mm D vb x y:=⟨_,.junk (aG rfl) h,.same (show AS 1000001 from rfl) x,a _ (by simp),λ_=>⟨_,.same (aG rfl) x,a _ (by simp)⟩⟩
def mask (D)(vb):∀(n)(x),SizeOf.sizeOf x<=n->∃y,Mm D vb x y:=by
 intro n;induction n with
 |zero=>intro x h;cases x<;>simp at h
 |succ n B=>
  have o:∀cs:zA,SizeOf.sizeOf cs<=n->∃ds,aY (AJ vb) (cL D) ds cs/\aY AS (cL λz=>D z\/z=vb) ds ds/\∀N,∃p,aY (AB N) (cL D) p ds:=λcs H=>by
   have hi:∀i:Fin cs.size,∃y,Mm D vb cs[i] y:=λi=>B _ (by have:=Array.sizeOf_lt_of_mem (Array.getElem_mem i.2);have e:cs[i]=cs[i.1]:=rfl;rw[e];omega)
   refine⟨aHI λi=>aGn (hi i),.of (by simp) λi f d=> ?_,.of rfl λi f d=> ?_,λN=>⟨aHI λi=>aGn ((zAw (hi i)).again N),.of (by simp) λi f d=> ?_⟩⟩;{simp only[aHJ];exact(zAw (hi ⟨i,d⟩)).there};{simp only[aHJ];exact(zAw (hi ⟨i,by simpa using f⟩)).here};{simp only[aHJ];exact(zAw ((zAw (hi ⟨i,by simpa using f⟩)).again N)).1}
  intro x h;cases x with
  |bool b=>exact⟨_,.flat (by simp) λ_ _=> .bool b⟩
  |int k m=>exact⟨_,.flat (by simp) λ_ _=> .int k m⟩
  |string s=>exact⟨_,.flat (by simp) λ_ _=> .string s⟩
  |nilFunc=>exact⟨_,.flat (by simp) λ_ _=> .nilFunc⟩
  |nilIface=>exact⟨_,.flat (by simp) λ_ _=> .nilIface⟩
  |map a=>
   cases a with
   |none=>exact⟨_,.flat (by simp) λ_ _=> .jQ⟩
   |some a=>exact Mm.junk trivial λ_ g=> .no (by simp) (by simp) g
  |chan a=>
   cases a with
   |none=>exact⟨_,.flat (by simp) λ_ _=> .gY⟩
   |some a=>exact Mm.junk trivial λ_ g=> .no (by simp) (by simp) g
  |pointer a=>exact Mm.junk trivial λ_ g=> .no (by simp) (by simp) g
  |slice a l c=>
   cases a with
   |none=>exact⟨_,.flat (by simp) λ_ _=> .slice .none l c⟩
   |some a=>
    by_cases u:D a.block;{have r:∀{A:zF}{E:zP},(∀b,D b->E b)->bE A (cL E) (.slice (aA a) l c) (.slice (aA a) l c):=λI=> .slice (.some ⟨⟨rfl,I _ u⟩,rfl,rfl⟩) l c;exact⟨_,r λ_ h=>h,r λ_ h=>aG h,.self (by simp),λ_=>⟨_,r λ_ h=>h,.self (by simp)⟩⟩}
    .by_cases F:l=0/\c=0
     .obtain⟨rfl,rfl⟩:=F;have C:∀w,Kept D (.slice (aA a) 0 0) (.slice w 0 0):=λw=>by
       refine⟨λk m h=>(by cases h),λJ l c h _=> ?_,by simp⟩;cases h;exact⟨w,rfl,λh=>absurd (h a rfl) u⟩
      exact⟨_,.void (aH rfl) a,.slice (.some ⟨⟨rfl,aH rfl⟩,rfl,rfl⟩) 0 0,C _,λN=>⟨_,.void (aH rfl) ⟨vb,enc a,a.spot⟩,C _⟩⟩
     .refine Mm.junk trivial λy g=>⟨λk m h=>(by cases h),λJ K c' h d=> ?_,g⟩;cases h;exact((d a rfl).elim (λj=>u j) λj=>F j).elim
  |iface t v=>obtain⟨y,q⟩:=B v (by simp at h;omega);exact⟨.iface t y,.iface t q.there,.iface t q.here,.no (by simp) (by simp) (by simp),λN=>let⟨z,G,_⟩:=q.again N;⟨.iface t z,.iface t G,.no (by simp) (by simp) (by simp)⟩⟩
  |agg cs=>obtain⟨ds,f,d,j⟩:=o cs (by simp at h;omega);exact⟨.agg ds,.agg f.size f.at',.agg d.size d.at',.no (by simp) (by simp) (by simp),λN=>let⟨p,h⟩:=j N;⟨.agg p,.agg h.size h.at',.no (by simp) (by simp) (by simp)⟩⟩
  |tuple cs=>obtain⟨ds,f,d,j⟩:=o cs (by simp at h;omega);exact⟨.tuple ds,.tuple f.size f.at',.tuple d.size d.at',.no (by simp) (by simp) (by simp),λN=>let⟨p,h⟩:=j N;⟨.tuple p,.tuple h.size h.at',.no (by simp) (by simp) (by simp)⟩⟩
  |_=>exact Mm.junk trivial λ_ g=> .no (by simp) (by simp) g
def jW (W:zW)(b:Nat):Prop:=(∃c t fr,W.heap[b]? =aA (aI c t fr))\/b<=Tryz.prog.globals.size
noncomputable def mk (W:zW)(x:zY):zY:=aGn (mask (jW W) W.heap.size _ x (zAa _))
def IQ (W)(x):Mm (jW W) W.heap.size x (mk W x):=zAw (mask (jW W) W.heap.size _ x (zAa _))
noncomputable def fb (W:zW)(N:Nat)(x:zY):zY:=aGn ((IQ W x).again N)
def VO (W)(N)(x):bE (AB N) (cL (jW W)) (fb W N x) (mk W x)/\Kept (jW W) x (fb W N x):=zAw ((IQ W x).again N)
def onCells (m:zY->zY):Obj->Obj
 |aI c t fr=>aI (c.map m) t fr
 |o=>o
def masked (m:zY->zY)(W:zW):zW:={W with heap:=(W.heap.map (onCells m)).push (aI #[.int aP 0] 0 (0,0))}
section
variable {m:zY->zY}{W:zW}{b:Nat}
def kP:(masked m W).heap.size=W.heap.size+1:=by simp[masked]
def BS (h:b<W.heap.size):(masked m W).heap[b]? =(W.heap[b]?).map (onCells m):=by show((W.heap.map (onCells m)).push _)[b]? =_;rw[zBk,zAj (by simp;omega),zCj]
def jF {c t fr}(h:W.heap[b]? =aA (aI c t fr)):(masked m W).heap[b]? =aA (aI (c.map m) t fr):=by rw[BS (zAb.1 h).1,h];rfl
def tW {o}(h:W.heap[b]? =aA o)(a:EU o):(masked m W).heap[b]? =aA o:=by rw[BS (zAb.1 h).1,h];cases o<;>first|rfl|exact absurd rfl (a.1 _ _ _)
def VP {k x}(h:W.cell? ⟨b,k,aB⟩=aA x):(masked m W).cell? ⟨b,k,aB⟩=aA (m x):=by
 unfold World.cell? at h⊢;dsimp only at h⊢;cases hb:W.heap[b]? with
 |none=>rw[hb]at h;cases h
 |some o=>
  rw[hb]at h;cases o with
  |cells c t fr=>rw[jF hb];simp only[Option.isSome_none,zBa,zDg]at h⊢;rw[zCj,h];rfl
  |_=>cases h
end
def Bd {A π f g}{c:zA}(h:∀x,bE A π (f x) (g x)):aY A π (c.map f) (c.map g):= .of (by simp) λi d a=>by simp only[Array.getElem_map];exact h _
def TD {W}(e:∀b,b<=Tryz.prog.globals.size->∃o,W.heap[b]? =aA o/\((∃c t fr,o=aI c t fr)\/EU o)):Start (jW W) (masked (mk W) W) W:=by
 refine⟨λb d=>aH d,λb d=> ?_,kP,?_,rfl,rfl,rfl,rfl,λb d=> ?_⟩
 .obtain⟨c,t,fr,h⟩|h:=d
  .exact(zAb.1 h).1
  .obtain⟨o,a,_⟩:=e b h;exact(zAb.1 a).1
 .show((W.heap.map (onCells (mk W))).push _)[W.heap.size]? =_;rw[zBk,zAl (by simp)]
 .have i:∀c t fr,W.heap[b]? =aA (aI c t fr)->∃c₁ c' t fr,(masked (mk W) W).heap[b]? =aA (aI c₁ t fr)/\W.heap[b]? =aA (aI c' t fr)/\aY (AJ W.heap.size) (cL (jW W)) c₁ c'/\aY AS (cL λx=>jW W x\/x=W.heap.size) c₁ c₁:=λc t fr h=>by
   refine⟨_,c,t,fr,jF h,h,?_,Bd λx=>(IQ W x).here⟩;have:=Bd (g:=id) (c:=c) λx=>(IQ W x).there;rwa [Array.map_id]at this
  obtain⟨c,t,fr,h⟩|h:=d;{exact aG (i c t fr h)}
  .obtain⟨o,a,⟨c,t,fr,rfl⟩|f⟩:=e b h
   .exact aG (i c t fr a)
   .exact aH ⟨h,o,tW a f,a,f⟩
def Lo {W}(f:∀b,b<=Tryz.prog.globals.size->∃o,W.heap[b]? =aA o/\((∃c t fr,o=aI c t fr)\/EU o))(N):Beside (jW W) N (masked (fb W N) W) (masked (mk W) W):=by
 refine⟨kP.trans kP.symm,rfl,λb g=> ?_⟩;have e:∀c t fr,W.heap[b]? =aA (aI c t fr)->∃c₁ c' t fr,(masked (fb W N) W).heap[b]? =aA (aI c₁ t fr)/\(masked (mk W) W).heap[b]? =aA (aI c' t fr)/\aY (AB N) (cL (jW W)) c₁ c':=λc t fr h=>⟨_,_,t,fr,jF h,jF h,Bd λx=>(VO W N x).1⟩;obtain⟨c,t,fr,h⟩|h:=g
 .exact aG (e c t fr h)
 .obtain⟨o,a,⟨c,t,fr,rfl⟩|d⟩:=f b h
  .exact aG (e c t fr a)
  .exact aH ⟨h,o,tW a d,tW a d,d⟩
end Go.Ga
namespace Go.Proofs.Zq
open Go.Proofs.YtghpcgagijhlaaaGreatDoor
open Go Go.RowKit Go.ChangeShapes Go.WideShapes Go.Ga Go.Ren Go.Deep
def sG {W a v}(h:W.cell? a=aA v):a.spot=aB/\jW W a.block/\a.block<W.heap.size:=by
 unfold World.cell? at h;cases hb:W.heap[a.block]? with
 |none=>rw[hb]at h;cases h
 |some o=>
  have bX:=(zAb.1 hb).1;rw[hb]at h;cases o with
  |cells c t fr=>
   dsimp only at h;cases b:a.spot with
   |none=>exact⟨rfl,aG ⟨c,t,fr,hb⟩,bX⟩
   |some s=>rw[b]at h;simp at h
  |_=>cases h
def VC {W:zW}{f:Nat}{t e:zD}(d:Tryz.prog.underlying t=aA (.slice e)){a:Addr}{l c:Nat}(h:Value.okWide Tryz.prog W .any f t (aJ (aA a) l c)):jW W a.block:=by
 simp only[Value.okWide,Cell.okWide,Cell.ok,d]at h;obtain⟨_,_,_,_,row,cells,b,_⟩:=h;unfold World.shape? at b;cases hb:W.heap[a.block]? with
 |none=>rw[hb]at b;cases b
 |some o=>
  rw[hb]at b;cases o with
  |cells c t fr=>exact aG ⟨c,t,fr,hb⟩
  |_=>cases b
def Gh {H:Type}{P:zZ}{e:zD}:∀{ds:List (DataW H)}{d:DataW H},d∈ds->∀n∈d.weights P e,n∈DataW.weightsAll P e ds
 |d0::ds,d,h,n,a=>by simp only[DataW.weightsAll,zAh];obtain rfl|h:=zAf.1 h;{exact aG a};{exact aH (Gh h n a)}
def FQ {n}(h:(Lit.int aD n).wf=aE): -9223372036854775808<=n/\n<=9223372036854775807:=by simpa [Lit.wf,IntKind.min,IntKind.max,IntKind.signed,IntKind.bits]using h
def num:zY->Int
 | .int _ n=>n
 |_=>0
def ra (W:zW)(e:zY)(l:zII):Prop:=wI W e l/\∃o cap,e=aJ o l.length cap/\∀b,o=aA b->jW W b.block\/l.length=0/\cap=0
section
variable {H:Type}{enc:zD×zY->H}{W:zW}
def Ap {fuel v x}(h:DataW.trod enc Tryz.prog W 0 (λ_=>aE) aE fuel 45 [v]=aA x)(C:∀n∈x.1.weights Tryz.prog 45,n<=reachBytes):
  ∃l,ra W v l/\l.length<=4611686018427387904:=by
 have q:Tryz.prog.cellsOf 3=1:=by kernel_rfl
 have A:Tryz.prog.cellsOf 88=2:=by kernel_rfl
 have t:Tryz.prog.bytesOf 88=16:=by kernel_rfl
 obtain⟨z,_⟩|⟨a,len,cap,m,n,u,V,D0,D1,Q,P,z,_,G,J,hm,E,e⟩:=open_slice_pairs underlying45 underlying88 A rfl rfl q q h
 .obtain rfl:v=aJ aB 0 0:=(zFg z).1;exact⟨[],⟨⟨by simp,aG ⟨rfl,aB,0,rfl⟩⟩,aB,0,rfl,λb B=>by cases B⟩,by simp⟩
 .obtain rfl:v=aJ (aA a) len cap:=(zFg z).1;simp only[zCy]at hm;replace hm:=hm.symm;subst hm;have d:∀i,i<cap->W.cell? (a.add (i*2))=aA (aC aD (num (u i)))/\W.cell? (a.add (i*2+1))=aA (aC aD (num (V i)))/\(-9223372036854775808<=num (u i)/\num (u i)<=9223372036854775807)/\-9223372036854775808<=num (V i)/\num (V i)<=9223372036854775807:=λi hi=>by
   obtain⟨f,D,t0,t1⟩:=e i hi;obtain⟨O,g0,_,w0⟩:=DataW.trod_int underlying3 t0;obtain⟨N,K,_,w1⟩:=DataW.trod_int underlying3 t1;have M:=(zFg g0).1;have L:=(zFg K).1;rw[M]at f⊢;rw[L]at D⊢;exact⟨f,D,FQ w0,FQ w1⟩
  have c:((List.range len).map λi=>(num (u i),num (V i))).length=len:=by{simp};refine⟨(List.range len).map λi=>(num (u i),num (V i)),⟨⟨λr j=> ?_,?_⟩,aA a,cap,by rw[c],λb B=> ?_⟩,?_⟩;{obtain⟨i,hi,rfl⟩:=zCh.1 j;have:=d i (by have:=zBs.1 hi;omega);exact⟨this.2.2.1.1,this.2.2.1.2,this.2.2.2.1,this.2.2.2.2⟩}
  .by_cases f:len=0
   .subst f;exact aG ⟨rfl,aA a,cap,rfl⟩
   .right;obtain⟨F,_,bX⟩:=sG (d 0 (by omega)).1;obtain⟨g,o,s⟩:=a;have w:s=aB:=by
     cases s with
     |none=>rfl
     |some s=>simp[Addr.add]at F
    subst w;refine⟨g,o,cap,by rw[c],by simpa [Addr.add]using bX,λi r j=> ?_⟩;rw[zDr]at j;obtain⟨k,I,rfl⟩:=zBp.1 j;obtain⟨y,p⟩:=zAp.1 I;simp at y p;subst p;have:=d i (by omega);rw[add_plain,add_plain]at this;exact⟨this.1,by rw[zCi];exact this.2.1⟩
  .cases B;by_cases f:cap=0
   .right;rw[c];exact⟨by omega,f⟩
   .left;have:=(sG (d 0 (by omega)).1).2.1;unfold Addr.add at this;split at this<;>exact this
  .rw[c];have j:=reachBytes_lt;rw[E]at C;have:=C ((len+(cap-len))*16) (by simp[DataW.weights,underlying45,t]);omega
structure yy (W:zW)(va:zO)(E:List (zII)):Prop where
 Ol:∀b,va=aA b->jW W b.block
 EM:∀i l,E[i]? =aA l->∃g o ev,va=aA ⟨g,o,aB⟩/\g<W.heap.size/\W.cell? ⟨g,o+i,aB⟩=aA ev/\ra W ev l/\l.length<=4611686018427387904
structure ep (W:zW)(aa:zO)(L:List Int):Prop where
 Ol:∀b,aa=aA b->jW W b.block
 at':SE W aa L
def UZ {S:Nat}{v:zY}{d:DataW H}{K:List MemPlace}(e:Value.okWide Tryz.prog W .any S 28 v)(h:DataW.Trod enc Tryz.prog W 0 (λ_=>aE) aE 28 v d K)(z:∀n∈d.weights Tryz.prog 28,n<=reachBytes):
  ∃G J E,v=aJ G E.length J/\yy W G E/\E.length<=4611686018427387904:=by
 obtain⟨fuel,I⟩:=h;have C:Tryz.prog.cellsOf 45=1:=by kernel_rfl
 have w:Tryz.prog.bytesOf 45=24:=by kernel_rfl
 have q:v.cells.toList=[v]:=by simp only[Value.okWide,Cell.okWide,Cell.ok,underlying28]at e;cases v<;>first|rfl|exact e.elim
 rw[q]at I;obtain⟨B,_⟩|⟨a,len,cap,m,n,V,D,U,B,_,O,R,hm,L,c⟩:=open_slice1 underlying28 C I
 .obtain rfl:v=aJ aB 0 0:=(zFg B).1;exact⟨aB,0,[],rfl,⟨λb F=>by(cases F),λi l hi=>by simp at hi⟩,by simp⟩
 .obtain rfl:v=aJ (aA a) len cap:=(zFg B).1;simp only[zCy]at hm;replace hm:=hm.symm;subst hm;have Q:d= .slice ((List.range len).map D) ((List.range (cap-len)).map λj=>D (len+j)):=congrArg Prod.fst L;rw[Q]at z;have y:∀i,i<len->∀n∈(D i).weights Tryz.prog 45,n<=reachBytes:=λi hi n N=>z n (by
   simp only[DataW.weights,underlying28,zAf,zAh];exact aH (aG (Gh (zCh.2 ⟨i,zBs.2 hi,rfl⟩) n N)))
  have f:∀i,∃l,i<len->ra W (V i) l/\l.length<=4611686018427387904:=λi=>by by_cases hi:i<len;{obtain⟨l,hl⟩:=Ap (c i (by omega)).2 (y i hi);exact⟨l,λ_=>hl⟩};{exact⟨[],λh=>absurd h hi⟩}
  have p:((List.range len).map λi=>aGn (f i)).length=len:=by{simp};refine⟨aA a,cap,(List.range len).map λi=>aGn (f i),by rw[p],⟨λb F=> ?_,λi l hi=> ?_⟩,?_⟩;{cases F;exact VC underlying28 e}
  .rw[zDr]at hi;obtain⟨k,P,rfl⟩:=zBp.1 hi;obtain⟨t,r⟩:=zAp.1 P;simp at t r;subst r;have u:=(c i (by omega)).1;obtain⟨M,_,bX⟩:=sG (c 0 (by omega)).1;obtain⟨g,o,s⟩:=a;have A:s=aB:=by
    cases s with
    |none=>rfl
    |some s=>simp[Addr.add]at M
   subst A;rw[add_plain]at u;have:=zAw (f i) t;exact⟨g,o,V i,rfl,by simpa [Addr.add]using bX,u,this.1,this.2⟩
  .rw[p];have T:=reachBytes_lt;have:=z ((len+(cap-len))*24) (by simp[DataW.weights,underlying28,w]);omega
def Jh {I:Nat}{v:zY}{d:DataW H}{B:List MemPlace}(c:Value.okWide Tryz.prog W .any I 29 v)(h:DataW.Trod enc Tryz.prog W 0 (λ_=>aE) aE 29 v d B)(y:∀n∈d.weights Tryz.prog 29,n<=reachBytes):
  ∃A ac L,v=aJ A L.length ac/\ep W A L/\L.length<=4611686018427387904:=by
 obtain⟨fuel,z⟩:=h;have s:Tryz.prog.cellsOf 3=1:=by kernel_rfl
 have t:Tryz.prog.bytesOf 3=8:=by kernel_rfl
 have j:v.cells.toList=[v]:=by simp only[Value.okWide,Cell.okWide,Cell.ok,underlying29]at c;cases v<;>first|rfl|exact c.elim
 rw[j]at z;obtain⟨q,_⟩|⟨a,len,cap,zs,q,_,D,G,o,C,g,p⟩:=open_ints underlying29 underlying3 s z
 .obtain rfl:v=aJ aB 0 0:=(zFg q).1;exact⟨aB,0,[],rfl,⟨λb u=>by(cases u),⟨λi l hi=>by simp at hi⟩⟩,by simp⟩
 .obtain rfl:v=aJ (aA a) len cap:=(zFg q).1;have w:zs.length=cap:=by{simpa using o};have e:(zs.take len).length=len:=by{rw[zBg];omega};have F:d= .slice (lits aD (zs.take len)) (lits aD (zs.drop len)):=congrArg Prod.fst C;rw[F]at y;refine⟨aA a,cap,zs.take len,by rw[e],⟨λb u=> ?_,⟨λi n hi=> ?_⟩⟩,?_⟩;{cases u;exact VC underlying29 c};{have k:=(zAp.1 hi).1;rw[e]at k;obtain⟨b,off,rfl,r⟩:=ints_at g (by omega);rw[zCo,zAl k]at hi;have E:zs.getD i 0=n:=by{rw[zBe,hi];rfl};have f:=r i (by omega);rw[E]at f;exact⟨b,off,rfl,World.block_lt_of_cell? W ⟨_,_,aB⟩ f,f,FQ (p n (zCr hi))⟩};{rw[e];have J:=reachBytes_lt;have:=y (((lits aD (zs.take len):List (DataW H)).length+(lits aD (zs.drop len):List (DataW H)).length)*8) (by simp[DataW.weights,underlying29,t]);simp[lits]at this;omega}
end
section
variable {W X:zW}{m:zY->zY}(hX:X.heap=(masked m W).heap)(hm:∀x,Kept (jW W) x (m x))
include hX
def OP {b k x}(h:W.cell? ⟨b,k,aB⟩=aA x):X.cell? ⟨b,k,aB⟩=aA (m x):=by
 have e:X.cell? ⟨b,k,aB⟩=(masked m W).cell? ⟨b,k,aB⟩:=by unfold World.cell?;rw[hX]
 rw[e,VP h]
def rA {b}(h:b<W.heap.size):b<X.heap.size:=by rw[hX,kP];omega
include hm
def uK {b k kd n}(h:W.cell? ⟨b,k,aB⟩=aA (.int kd n)):X.cell? ⟨b,k,aB⟩=aA (.int kd n):=by rw[OP hX h,(hm _).1 _ _ rfl]
def Dl {q l}(h:ra W q l):wI X (m q) l:=by
 obtain⟨k,o,cap,rfl,w⟩:=h;obtain⟨s,j,A⟩:=(hm (aJ o l.length cap)).2.1 _ _ _ rfl w;refine⟨k.fits,?_⟩;obtain⟨hl,_⟩|⟨g,p,c,v,y,a⟩:=k.EM
 .subst hl;exact aG ⟨rfl,s,cap,j⟩
 .by_cases n:l=[]
  .subst n;exact aG ⟨rfl,s,cap,j⟩
  .obtain⟨r,f⟩:∃r,l[0]? =aA r:=⟨l[0]'(List.length_pos_iff.2 n),zAe _⟩;injection v with d u t;subst d;have e:=(sG (a 0 r f).1).2.1;have:=A λb z=>by{cases z;exact e};subst this;exact aH ⟨g,p,cap,j,rA hX y,λi r hi=>⟨uK hX hm (a i r hi).1,uK hX hm (a i r hi).2⟩⟩
def Cm {v E}(h:yy W v E):KS X v E:=⟨λi l hi=>by obtain⟨g,o,f,e,d,c,b,a⟩:=h.EM i l hi;exact⟨g,o,m f,e,rA hX d,OP hX c,Dl hX hm b,a⟩⟩
def YC {a L}(h:ep W a L):SE X a L:=⟨λi n hi=>by obtain⟨g,o,e,d,c,b⟩:=h.at'.EM i n hi;exact⟨g,o,e,rA hX d,uK hX hm c,b⟩⟩
def vZ:∀x,¬fK X x:=λx ⟨z,o,i,v,g,n,k⟩=>by
 obtain⟨fr,h⟩:=k.at';rw[hX]at h;have bX:=(zAb.1 h).1;rw[kP]at bX;by_cases j:x<W.heap.size
 .rw[BS j]at h;obtain⟨f,p,b⟩:=zBp.1 h;cases f with
  |cells c t l=>
   simp only[onCells,Obj.cells.injEq]at b;have a:(c.map m)[0]? =aA (ptr z):=by{rw[b.1];rfl};rw[zCj]at a;obtain⟨y,_,d⟩:=zBp.1 a;cases z with
   |none=>exact(hm y).2.2 _ d
   |some z=>exact(hm y).2.2 _ d
  |_=>cases b
 .obtain rfl:x=W.heap.size:=by omega
  have:(masked m W).heap[W.heap.size]? =aA (aI #[aC aP 0] 0 (0,0)):=by have e:(W.heap.map (onCells m)).size=W.heap.size:=Array.size_map ..;show((W.heap.map (onCells m)).push _)[W.heap.size]? =_;rw[<-e];exact Array.getElem?_push_size
  rw[this]at h;injection h with h;injection h with _ a;revert a;decide
def SW (h:fJ W):fJ X:=by
 have s0:H0.cells.toList=jY.map λz=>Value.int aO z:=by kernel_rfl
 refine⟨⟨rA hX h.nL.1,λt c=>uK hX hm (h.nL.2 t c)⟩,rA hX h.lt,λj v b=> ?_⟩;have a:=b;rw[s0,zDr]at a;obtain⟨z,_,rfl⟩:=zBp.1 a;exact uK hX hm (h.jY j _ b)
end
structure Xl (W:zW):Prop where
 rows:∀b,b<3->∃c t,W.heap[b]? =aA (aI c t (0,0))/\∀(i:Nat) v,c[i]? =aA v->∃k n,v= .int k n/\k≠aP
 last:∃c t fr,W.heap[3]? =aA (aI c t fr)/\(∀(i:Nat) v,c[i]? =aA v->∃k n,v= .int k n/\k≠aP)/\fr.2<=c.size
def IA {W t u n k c}(d:Tryz.prog.cellTypes Tryz.prog.depth t=aA (List.replicate n u))(j:Tryz.prog.underlying u=aA (.int k))(h:Row.ok Tryz.prog W .any 0 t c)(i:Nat)(v)(g:c[i]? =aA v):∃m,v= .int k m:=by
 obtain⟨o,e,_,l⟩:=h;rw[d]at e;obtain rfl:=zAm e;obtain⟨f,a,b⟩:=l i v g;have:f=u:=by rw[zFv]at a;split at a;{exact(zAm a).symm};{cases a}
 subst this;simp only[Cell.ok,j]at b;cases v<;>first|exact b.elim|exact⟨_,by rw[b.1]⟩
open Go Go.RowKit Go.ChangeShapes Go.WideShapes Go.ChangeAt Go.Ga Go.Ren Go.Conc
def je:zY->Bool
 | .int k _=>k !=aP
 |_=>aF
def af:Obj->Bool
 |aI c _ fr=>c.all je&&decide (fr.2<=c.size)
 |_=>aF
def ae {o}(h:af o=aE):∃c t fr,o=aI c t fr/\(∀(i:Nat) v,c[i]? =aA v->∃k n,v= .int k n/\k≠aP)/\fr.2<=c.size:=by
 cases o with
 |cells c t fr=>simp only[af,zBc,zBo]at h;refine⟨c,t,fr,rfl,λi v a=> ?_,h.2⟩;have:=Array.all_eq_true'.1 h.1 v (zBi a);cases v<;>first|(cases this;done)|exact⟨_,_,rfl,by simpa [je]using this⟩
 |_=>cases h
noncomputable def w0:zW:=(begin Tryz.prog (λ_ _=>0) default).world
def WM:Tryz.prog.globals.size=3:=by kernel_rfl
def rq:((w0.heap[0]?).bind Obj.row?).map (·.2)=aA 136:=by kernel_rfl
def rn:((w0.heap[1]?).bind Obj.row?).map (·.2)=aA 3:=by kernel_rfl
def rl:((w0.heap[2]?).bind Obj.row?).map (·.2)=aA 157:=by kernel_rfl
def rk:(w0.heap[3]?).map af=aA aE:=by kernel_rfl
def Un {W}(h:W.ShapedOpen Tryz.prog):Xl W:=by
 obtain⟨K,J⟩:=h;have k:∀g t,g<3->((w0.heap[g]?).bind Obj.row?).map (·.2)=aA t->Tryz.prog.buildable t=aE->∃c,W.heap[g]? =aA (aI c t)/\Row.ok Tryz.prog W .any 0 t c:=λg t E D j=>by obtain⟨⟨z,y⟩,C,rfl⟩:=zBp.1 D;obtain⟨cs,d,_,a⟩:=K g z y (by rw[WM];exact E) C;exact⟨cs,d,a j⟩
 refine⟨λb j=> ?_,?_⟩
 .match b,j with
  |0,_=>obtain⟨c,d,a⟩:=k 0 _ (by omega) rq (by kernel_rfl);exact⟨c,_,d,λi v f=>let⟨m,hm⟩:=IA (n:=8) (u:=135) (by kernel_rfl) underlying135 a i v f;⟨_,m,hm,by simp⟩⟩
  |1,_=>obtain⟨c,d,a⟩:=k 1 _ (by omega) rn (by kernel_rfl);exact⟨c,_,d,λi v f=>let⟨m,hm⟩:=IA (n:=1) (u:=3) (by kernel_rfl) underlying3 a i v f;⟨_,m,hm,by simp⟩⟩
  |2,_=>obtain⟨c,d,a⟩:=k 2 _ (by omega) rl (by kernel_rfl);exact⟨c,_,d,λi v f=>let⟨m,hm⟩:=IA (n:=64) (u:=135) (by kernel_rfl) underlying135 a i v f;⟨_,m,hm,by simp⟩⟩
  |b+3,j=>exact absurd j (by omega)
 .obtain⟨x,s,F⟩:=zBp.1 rk;have bX:3<w0.heap.size:=(zAb.1 s).1;obtain⟨o,r,B,A,p⟩:=J 3 (by rw[WM];omega) bX;have e:(3:Nat)-Tryz.prog.globals.size=0:=by{rw[WM]};rw[e]at p;have l:o=r:=p;have q:w0.heap[3]? =aA r:=A;rw[s]at q;obtain rfl:=zAm q;subst l;obtain⟨c,t,fr,rfl,I,G⟩:=ae F;exact⟨c,t,fr,B,I,G⟩
def Xl.cU {W}(h:Xl W)(b)(d:b<=Tryz.prog.globals.size):∃o,W.heap[b]? =aA o/\((∃c t fr,o=aI c t fr)\/EU o):=by
 rw[WM]at d;by_cases e:b<3
 .obtain⟨c,t,a,_⟩:=h.rows b e;exact⟨_,a,aG ⟨c,t,_,rfl⟩⟩
 .obtain rfl:b=3:=by{omega};obtain⟨c,t,fr,a,_⟩:=h.last;exact⟨_,a,aG ⟨c,t,fr,rfl⟩⟩
def YA {W X m}(p:X.heap=(masked m W).heap)(q:∀x,Kept (jW W) x (m x))(s:Xl W)(A:fJ W):Base X:=by
 have u:=Qz.iH.trans WM;have l:=vZ p q;refine⟨λb z=> ?_,SW p q A,?_⟩
 .rw[u]at z;rw[p];have d:∀c t fr,W.heap[b]? =aA (aI c t fr)->(∀(i:Nat) v,c[i]? =aA v->∃k n,v= .int k n/\k≠aP)->fr.2<=c.size->¬YN (masked m W).heap[b]?/\(∃c t fr,(masked m W).heap[b]? =aA (aI c t fr)/\(∀D:zP,(∀x,x<=zq.globals.size->D x)->aY Qw.Al (cL D) c c)/\(∀(i:Nat) m,c[i]?≠aA (aC aP m))/\fr.2<=c.size):=λc t fr a hi o=>by
   have h:∀(i:Nat) v,(c.map m)[i]? =aA v->∃k n,v= .int k n/\k≠aP:=λi v j=>by rw[zCj]at j;obtain⟨x,f,rfl⟩:=zBp.1 j;obtain⟨k,n,rfl,r⟩:=hi i x f;exact⟨k,n,(q _).1 _ _ rfl,r⟩
   refine⟨λ⟨x,f⟩=> ?_,_,t,_,jF a,λD _=>⟨rfl,λi v C j g=> ?_⟩,λi n y=> ?_,by simpa using o⟩;{rw[jF a]at f;(iterate 2 (injection f with f));obtain⟨k,n,e,_⟩:=h 0 (.bool x) (by rw[f];rfl);cases e};{rw[j]at g;cases g;obtain⟨k,n,rfl,_⟩:=h i v j;exact .int k n};{obtain⟨k,E,e,r⟩:=h i _ y;cases e;exact r rfl}
  by_cases B:b<3;{obtain⟨c,t,a,hi⟩:=s.rows b B;exact⟨(d c t _ a hi (zBq _)).1,l b,aG (d c t _ a hi (zBq _)).2⟩};{obtain rfl:b=3:=by{omega};obtain⟨c,t,fr,a,hi,o⟩:=s.last;exact⟨(d c t fr a hi o).1,l 3,aG (d c t fr a hi o).2⟩}
 .rw[u,p,kP];obtain⟨c,t,fr,a,_⟩:=s.last;have:=(zAb.1 a).1;omega
def LX {W}(hs:W.ShapedOpen Tryz.prog)(S:laidMetH Tryz.prog NV W){k n vc ac E L j wo}(C:yy W k E)(A:E.length<=4611686018427387904)(F:ep W n L)(z:L.length<=4611686018427387904)
  (Y: -9223372036854775808<=j) (V:j<=9223372036854775807) (U: -9223372036854775808<=wo) (T:wo<=9223372036854775807):
  ∃M last o i t,runNT Tryz.prog (M+1) (solo (G (Frame.enter Tryz.prog 4 #[aJ k E.length vc,aC aD j,aC aD wo,aJ n L.length ac] .normal) []) W) #[]=(.ended o i,t)/\runN Tryz.prog M (solo (G (Frame.enter Tryz.prog 4 #[aJ k E.length vc,aC aD j,aC aD wo,aJ n L.length ac] .normal) []) W)= .next last/\
   step Tryz.prog last= .ended o i/\Conc.Good Tryz.prog (λv Z=>v= .bool aE/\zb W Z) last o i t:=by
 have B:=Un hs;have Q:=PG S;have s:=B.cU;have D:∀(m:zY->zY),(∀x,Kept (jW W) x (m x))->∀g d,Calls zq 4 #[aJ k E.length vc,aC aD j,aC aD wo,aJ n L.length ac] ((masked m W).re g d) (RF λx i=>x= .bool aE/\Below (masked m W).heap.size ((masked m W).re g d) i):=λm r g d=>
  LW k vc E j wo n ac L ((masked m W).re g d) (YA rfl r B Q) (vZ (X:=(masked m W).re g d) rfl r) (Cm (X:=(masked m W).re g d) rfl r C) A (YC (X:=(masked m W).re g d) rfl r F) z Y V U T
 have q:∀(a:zO)(l c:Nat),(∀b,a=aA b->jW W b.block)->bE (λ_=>False) (cL (jW W)) (aJ a l c) (aJ a l c):=λa l c h=>by
  cases a with
  |none=>exact .slice .none l c
  |some a=>exact .slice (.some ⟨⟨rfl,h a rfl⟩,rfl,rfl⟩) l c
 have O:aY (λ_=>False) (cL (jW W)) #[aJ k E.length vc,aC aD j,aC aD wo,aJ n L.length ac] #[aJ k E.length vc,aC aD j,aC aD wo,aJ n L.length ac]:=
  (OX (q k _ vc C.Ol) (bE.int aD j)).append (OX (bE.int aD wo) (q n _ ac F.Ol))
 obtain⟨M,last,o,i,t,r1,r2,r3,p⟩:=Vj (R:=λx v=>x= .bool aE/\∀b,b<(masked (mk W) W).heap.size->v.heap[b]? =(masked (mk W) W).heap[b]?) Fp (f:=4) (by show(Qm.ck (·==1000001)).al 4=aE;kernel_rfl) (by decide) (by decide) O (TD s) (λx u g d h=>h)
  (λg d=>(D (mk W) (λx=>(IQ W x).kept) g d).mono λe i h=>h.imp (λ⟨x,J,I,K⟩=>⟨x,J,I,λb y=>K.block b y⟩) id)
  λN _=>⟨masked (fb W N) W,λe _=>e≠.outgrown,Lo s N,λi h=>h rfl,λg d=>(D (fb W N) (λx=>(VO W N x).2) g d).mono λe i h=>by obtain⟨_,rfl,_⟩|⟨_,rfl,_⟩:=h<;>simp⟩
 exact⟨M,last,o,i,t,r1,r2,r3,p.mono λv hl=>⟨Left.value (λx v h=>h.1) hl,Left.below (TD s) (λx v h=>h.2) hl⟩⟩
section
variable {H:Type}{enc:zD×zY->H}{P:zZ}{w:zW}{base:Nat}{spare:Nat->Bool}{held:Bool}
def Gz {t0 t1 t2 t3 args ds b}(h:DataW.TrodAll enc P w base spare held [t0,t1,t2,t3] args.toList ds b):
  ∃v0 v v2 v3 d0 d1 d d3 p0 p p2 p3,args= #[v0,v,v2,v3]/\ds=[d0,d1,d,d3]/\b=p0++(p++(p2++p3))/\DataW.Trod enc P w base spare held t0 v0 d0 p0/\DataW.Trod enc P w base spare held t1 v d1 p/\DataW.Trod enc P w base spare held t2 v2 d p2/\DataW.Trod enc P w base spare held t3 v3 d3 p3:=by
 obtain⟨v0,r0,d0,m,p0,q0,a,rfl,rfl,g0,f0⟩:=trodAll_cons h;obtain⟨v,r1,d1,l,p,i,rfl,rfl,rfl,e,f1⟩:=trodAll_cons f0;obtain⟨v2,r2,d,k,p2,f,rfl,rfl,rfl,c,f2⟩:=trodAll_cons f1;obtain⟨v3,r3,d3,j,p3,q,rfl,rfl,rfl,g,f3⟩:=trodAll_cons f2;obtain⟨rfl,rfl,rfl⟩:=trodAll_nil f3;exact⟨v0,v,v2,v3,d0,d1,d,d3,p0,p,p2,p3,by cases args;simp_all,rfl,by simp,g0,e,c,g⟩
end
def ES (os:Os)(started:os.Started)(H:Type)(enc:zD×zY->H):
  ReturnsInLeavingWide {} Tryz.checked os 4 .any (λw args=>(Rows.completeSpec.pre enc Tryz.prog f4 [] aF w args/\laidMetH Tryz.prog NV w)/\sizedMet enc Tryz.prog f4 (OpenSpec.ofChange Rows.completeSpec) aF w args)
   (Rows.completeSpec.post enc Tryz.prog f4 aF aE aF aF):=by
 refine returnsInLeavingWide_of_good own started
  (ChangeSpec.witness_shaped (os:=os) (X:=λw _=>laidMetH Tryz.prog NV w) aF (World.doorLaid Tryz.prog 400 os) #[aJ aB 0 0,aC aD 0,aC aD 0,aJ aB 0 0] 8 rfl (World.shaped_of_RefB (by kernel_rfl) (by kernel_rfl)) (by kernel_rfl) (by kernel_rfl) (by kernel_rfl) (Rx os _)) ?_
 intro w tape i _ m _ C r _;obtain⟨_,_,_,I,s,_,_,_,_,b⟩:=C;obtain rfl:I=f4:=zAm (s.symm.trans func4);obtain⟨⟨⟨ds,gs,before,B,_⟩,hl⟩,N⟩:=r;have c:=N.weights B;have f:=DataW.Whole.of_heap (w':=w.forCall tape i) (by rfl) B;have Q:laidMetH Tryz.prog NV (w.forCall tape i):=hl.of_heap (by rfl);obtain⟨blocks,args,vars⟩:=i;dsimp only at b f c Q m⊢;generalize w.forCall tape ⟨blocks,args,vars⟩=W at*;clear hl N B;have a:=b;have l:=c;have u:=f;obtain⟨p,q,y,hV,rfl,Z,V⟩:=f;have R:=y;rw[params4]at R a l;obtain⟨v0,S,v2,v3,d0,d1,d2,d3,p0,p1,p2,p3,rfl,rfl,rfl,t0,t1,t2,t3⟩:=Gz R;obtain⟨rfl,rfl⟩:=trodVars_none hV;have k:∀(j:Nat) t d,([28,3,3,29]:List zD)[j]? =aA t->[d0,d1,d2,d3][j]? =aA d->∀n∈d.weights Tryz.prog t,n<=reachBytes:=λj t d O hd n Y=>by have:=zBt.1 l n (DataW.weights_mem_each (j:=j) (t:=t) (d:=d) (by rw[zCn (zAp.1 O).1];exact O) (by rw[zAy];exact hd) n Y);simpa using this
 obtain⟨va,K,E,rfl,hE,G⟩:=UZ (a 0 28 v0 rfl rfl) t0 (k 0 _ _ rfl rfl);obtain⟨wi,rfl,rfl,rfl,w1⟩:=open_int underlying3 (a 1 3 S rfl rfl) t1;obtain⟨wo,rfl,rfl,rfl,w2⟩:=open_int underlying3 (a 2 3 v2 rfl rfl) t2;obtain⟨aa,ac,L,rfl,hK,F⟩:=Jh (a 3 29 v3 rfl rfl) t3 (k 3 _ _ rfl rfl);have A:∀x∈p0,x.block<W.heap.size:=by obtain⟨fuel,D⟩:=t0;exact DataW.trod_lt fuel _ _ _ D
 have z:∀x∈p3,x.block<W.heap.size:=by obtain⟨fuel,D⟩:=t3;exact DataW.trod_lt fuel _ _ _ D
 clear y b c;obtain⟨M,last,o,J,T,r1,r2,r3,e⟩:=LX m Q (vc:=K) (ac:=ac) hE G hK F (FQ w1).1 (FQ w1).2 (FQ w2).1 (FQ w2).2;refine⟨M,last,o,J,T,r1,r2,r3,e.mono λv U=> ?_⟩;obtain⟨rfl,g⟩:=U;simp only[zAy]at u;exact ChangeSpec.post_blind ⟨_,_,_,[],_,[],u,trodAll_mk1 (shut_bool underlying4 _),trodAll_mk4 (g.trod (by kernel_rfl) (by kernel_rfl) (of_decide_eq_true (by kernel_rfl)) t0 A) (shut_int underlying3 w1) (shut_int underlying3 w2) (g.trod (by kernel_rfl) (by kernel_rfl) (of_decide_eq_true (by kernel_rfl)) t3 z),rfl,g.frame _,λh=>by cases h⟩
def RE:Rows.CompleteSaid:=
 OpenClaim.holds_of_wide_leaving 4 f4 rfl rfl rfl rfl rfl rfl rfl ⟨rfl,rfl,rfl,rfl,rfl⟩ rfl rfl rfl rfl rfl (by kernel_rfl) func4 (by kernel_rfl)
  (of_decide_eq_true (by kernel_rfl)) (by unfold Func.isWrapper;first|(rw[zAl (by decide+kernel)];kernel_rfl)|(rw[zAj (by decide+kernel)];exact⟨rfl,rfl⟩))
  (λos started H enc _=>ES os started H enc)
theorem complete_holds:Rows.CompleteCardSaid:=
 ⟨Claim7.tied_new_at .later [.data,.data] aE (Claim7.new_of_sixth RE (aE,"33411e03c5f2884f9bb58066ffa33b407d3d92d55cca09c31043876e27824a14") aF rfl ⟨rfl,rfl⟩ (by kernel_rfl) rfl
  (λf fn e b=>by
   obtain rfl:f=4:=zAm ((show Tryz.prog.funcNamed "thicket/thicketkeep.Complete"=aA 4 by kernel_rfl).symm.trans e)|>.symm;obtain rfl:fn=f4:=(zAm (func4.symm.trans b)).symm;exact⟨by kernel_rfl,λj t c=>by
    rw[params4]at c;have d:t∈[28,3,3,29]:=by{simpa using zBi c};have a:([28,3,3,29].all λu=> !Tryz.prog.wantsStandIn u)=aE:=by kernel_rfl
    exact(show Tryz.prog.wantsStandIn t=aF by simpa using zBt.1 a t d)⟩)) (by kernel_rfl),λD g=>by(cases g),complete_row_tie,λh=>by(cases h),by kernel_rfl⟩
end Go.Proofs.Zq
