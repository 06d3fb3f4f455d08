import Derived.LaidMore
import Derived.Lib.LaidTab
import Derived.OpenShut
import Derived.Stop.Joined
import Derived.Deep.SlicePairs
import Derived.ChangeSlices
import Derived.Test.YtghpcgagijhlaaaGreatDoorCards
import Derived.Test.YtghpcgagijhlaaaGreatDoorTie
import Derived.SevenTiedAt
import Derived.SizedLaws
import Derived.Conc.LeavingOf
import Derived.Test.YtghpcgagijhlaaaGreatDoorT08
set_option linter.all false
set_option maxRecDepth 100000
set_option maxHeartbeats 16000000
open Option renaming some->aA,none->aB
open Bool renaming true->aE,false->aF
open Or renaming inl->aG,inr->aH
open Go.Obj renaming cells->aI
open Go.IntKind renaming i64->aD,u32->aO,u8->aP
open Go.Value renaming slice->aJ,int->aC
open Array renaming ofFn->aF6,getElem_ofFn->aF7
open Classical renaming choose->aEM
open Go.Proofs.Tryz
namespace Go.Proofs.Zq
open Go.Proofs.YtghpcgagijhlaaaGreatDoor
open Go.ChangeShapes Go.WideShapes Go.ChangeAt Go.RowKit
def MB:List (String×DataW Unit):=[("thicket/digest.squareRoots",Rows.laid_thicket_digest_squareRoots),("thicket/digest.cubeRoots",Rows.laid_thicket_digest_cubeRoots)]
def own:ownKnob Tryz.prog.godebug=aB:=by kernel_rfl
def Tv:Tryz.prog.globalNamed "thicket/digest.squareRoots"=aA 0:=by kernel_rfl
def gf:Tryz.prog.globalNamed "thicket/digest.cubeRoots"=aA 2:=by kernel_rfl
def Ru:(Tryz.prog.globals[0]?).map (·.type)=aA 136:=by kernel_rfl
def bd:(Tryz.prog.globals[2]?).map (·.type)=aA 157:=by kernel_rfl
def Oy (os:Os)(args:zA):laidMetH Tryz.prog MB ((World.doorLaid Tryz.prog 400 os).forCall (λ_ _=>0) ⟨#[],args,[]⟩).memory:=
 laidMetH_of_parts3 (fuel:=8) (laidMet_of_run' 8 (by kernel_rfl) (by kernel_rfl)) (by kernel_rfl) (by kernel_rfl)
def jK:List Int:=[1779033703,3144134277,1013904242,2773480762,1359893119,2600822924,528734635,1541459225]
def mV:List Int:=UE.map λ(n:Nat)=>(n:Int)
def NO:(Rows.laid_thicket_digest_squareRoots:DataW Unit)=Lib.tabData aO jK:=rfl
def An:(Rows.laid_thicket_digest_cubeRoots:DataW Unit)=Lib.tabData aO mV:=by kernel_rfl
def NJ {W}(h:laidMetH Tryz.prog MB W):fF W:=by
 rw[MakeChecks.laidMetH_plain _ _ _ (by kernel_rfl)]at h;obtain⟨s,⟨g0,t0,q,f0,p0,q0,c,l,i,f,⟨w,t1,p,f1,u,r,b,k,g,d,_,_⟩,_⟩,_,_⟩:=h;obtain rfl:=zAk (Tv.symm.trans c);obtain rfl:=zAk (gf.symm.trans b);obtain rfl:=zAk (Ru.symm.trans l);obtain rfl:=zAk (bd.symm.trans k);rw[NO]at f;rw[An]at d;have c0:=Lib.cells_of_tab underlying136 underlying135 (by kernel_rfl) (by kernel_rfl) f;have c1:=Lib.cells_of_tab underlying157 underlying135 (by kernel_rfl) (by kernel_rfl) d;have v0:=World.var?_cell c i;have o:=World.var?_cell b g;have s0:H0.cells.toList=jK.map λz=>Value.int aO z:=by kernel_rfl
 have s1:∀t,t<64->(mV.map λz=>Value.int aO z)[t]? =aA (aC aO (Sha.V (K t))):=by intro t m;have e:(mV.map λz=>Value.int aO z).toArray=row aO K:=by{kernel_rfl};have:=lS aO K t m;rw[<-e]at this;simpa using this
 have a0:∀j v,(jK.map λz=>Value.int aO z)[j]? =aA v->W.cell? ⟨0,j,aB⟩=aA v:=λj v a=>by rw[v0 j];rw[<-c0]at a;simpa using a
 have n:∀t:Nat,t<64->W.cell? ⟨2,t,aB⟩=aA (aC aO (Sha.V (K t))):=λt m=>by rw[o t];have:=s1 t m;rw[<-c1]at this;simpa using this
 refine⟨⟨?_,n⟩,?_,λj v a=> ?_⟩
 .exact World.block_lt_of_cell? W ⟨_,_,aB⟩ (n 0 (by omega))
 .exact World.block_lt_of_cell? W ⟨_,_,aB⟩ (a0 0 (aC aO 1779033703) rfl)
 .rw[s0]at a;rw[zAx];exact a0 j v a
end Go.Proofs.Zq
namespace Go.Ga
open Go.Conc Go.Ren Go.Proofs Go.Tr
def Dy {a b:zA}(hs:a.size=b.size)(h:∀(i:Nat)(v v'),a[i]? =aA v->b[i]? =aA v'->v=v'):a=b:=by
 apply zBy;intro i;by_cases hi:i<a.size
 .have c:i<b.size:=by{omega};have:=h i a[i] b[i] (by simp[hi]) (by simp[c]);simp[hi,c,this]
 .have c:¬i<b.size:=by{omega};simp[hi,c]
def Vr {π ρ}(e:∀b b' d,π b b'->ρ b d->b'=d){a a' c}(h:bT π a a')(k:bT ρ a c):a'=c:=by obtain⟨f,j,i⟩:=h;obtain⟨k1,k2,g⟩:=k;have:=e _ _ _ f k1;cases a';cases c;simp_all
def te {vb}:¬AJ vb 1000001:=λh=>by have h:(1000001:Nat)=1000000\/(1000001:Nat)=1000002+vb:=h;omega
def td {vb k:Nat}(h:AJ vb (1000002+k)):k=vb:=by have h:(1000002+k:Nat)=1000000\/(1000002+k:Nat)=1000002+vb:=h;omega
def aw {A o:zF}{π ρ}{vb:Nat}(H:¬o 1000001)(G:¬A 1000001)(p:∀k,A (1000002+k)->k=vb)(g:∀k,o (1000002+k)->k=vb)(F:∀b',¬π vb b')(r:∀b',¬ρ vb b')(B:∀b b' m,π b b'->ρ b m->b'=m){x y}(h:bF A π x y):∀{z},bF o ρ x z->y=z:=by
 have d:∀{cs e ds:zA},e.size=cs.size->ds.size=cs.size->(∀(i:Nat)(v f:zY),cs[i]? =aA v->e[i]? =aA f->∀{z:zY},bF o ρ v z->f=z)->(∀(i:Nat)(v f:zY),cs[i]? =aA v->ds[i]? =aA f->bF o ρ v f)->e=ds:=λ{cs e ds} j C J I=>by
  refine Dy (by omega) λi v f p g=> ?_;obtain⟨u,hu⟩:∃u,cs[i]? =aA u:=by have:=(zAa.1 p).1;exact⟨cs[i]'(by omega),zAj (by omega)⟩
  exact J i u v hu p (I i u f hu g)
 induction h with
 |bool b=>intro z k;cases k;rfl
 |int i n=>intro z k;cases k;rfl
 |string s=>intro z k;cases k;rfl
 |pointer h=>
  intro z k;cases k with
  |pointer k=>
   cases h with
   |none=>cases k;rfl
   |some h=>cases k with
    |some k=>rw[Vr B h k]
 |slice h n c=>
  intro z k;cases k with
  |slice k _ _=>
   cases h with
   |none=>cases k;rfl
   |some h=>cases k with
    |some k=>rw[Vr B h k]
  |void w _=>
   cases h with
   |some h=>have:=g _ w;subst this;exact absurd h.1 (F _)
 |func Q j C P _ _ i3 i4=>
  intro z k;cases k with
  |func _ k1 k2 _ E D=>rw[d j k1 i3 E,d C k2 i4 D]
 |nilFunc=>intro z k;cases k;rfl
 |iface t _ l=>
  intro z k;cases k with
  |iface _ k=>rw[l k]
 |nilIface=>intro z k;cases k;rfl
 |jC=>intro z k;cases k;rfl
 |gL=>intro z k;cases k;rfl
 |agg j _ l=>
  intro z k;cases k with
  |agg k1 k2=>rw[d j k1 l k2]
 |tuple j _ l=>
  intro z k;cases k with
  |tuple k1 k2=>rw[d j k1 l k2]
 |junk _ _=>
  intro z k;cases k with
  |junk _ _=>rfl
  |same k _=>exact absurd k H
 |same k _=>exact absurd k G
 |void w a=>
  intro z k;generalize q:(.slice (aA ⟨_,enc a,a.spot⟩) 0 0:zY)=x at k;cases k with
  |slice k _ _=>
   cases k with
   |some k=>cases q;have:=p _ w;subst this;exact absurd k.1 (r _)
   |none=>cases q
  |void _ a2=>injection q with M _ _;injection M with L;injection L with _ K R;obtain⟨O,N⟩:=Ue K;cases a;cases a2;simp_all
  |_=>cases q
def Left.below {R D V W w' I}(A:Start D V W)(M:∀x v,R x v->∀b,b<V.heap.size->v.heap[b]? =V.heap[b]?)(h:Left R D W I w'):Go.RowKit.Below W.heap.size W w':=by
 obtain⟨x,G,U,T,K,w,r,d,P,O,N,l⟩:=h;refine⟨O,P,N,d.size,λb p=> ?_⟩;by_cases B:D b
 .have j:=d.sub b b ⟨rfl,B⟩;have f:(G.re w'.tape w'.drawn).heap[b]? =V.heap[b]? :=M x G K b (by rw[A.size];omega);obtain⟨c,c',t,fr,q,E,e,_⟩|⟨q,o,e,E,C⟩:=A.blk b B
  .obtain⟨c1,n,t1,f1,F,g,m,a,g4,g5⟩|⟨_,o,g,m,a⟩|⟨y,H,g,_,a⟩:=r.blk b b j
   .rw[f,q]at g;cases g;have:=g5.1 (λx=>x);subst this;have L:c'=n:=Dy (by rw[e.size,a.size]) λi v J w s=>by
     obtain⟨u,hu⟩:∃u,c[i]? =aA u:=by have:=(zAa.1 w).1;have:=e.size;exact⟨c[i]'(by omega),zAj (by omega)⟩
     exact aw Qz.ns te (λk h=>td h) (λk h=>Qz.QT h) (λS h=>absurd (A.lt _ h.2) (zEz _)) l (λb S Q p z=>by rw[<-p.1];exact(r.ok.inj (d.sub b b ⟨rfl,p.2⟩) z).1 rfl) (e.at' i u v hu w) (a.at' i u J hu s)
    rw[m,E,L]
   .rw[f,q]at g;cases g;exact absurd rfl (a.1 _ _ _)
   .rw[f,q]at g;cases g;cases a
  .obtain⟨c1,n,t1,f1,F,g,m,a,g4,g5⟩|⟨_,o,g,m,a⟩|⟨y,H,g,_,a⟩:=r.blk b b j
   .rw[f,e]at g;cases g;exact absurd rfl (C.1 _ _ _)
   .rw[m,<-g,f,e,E]
   .rw[f,e]at g;cases g;cases a with
    |view=>exact absurd rfl (C.2.1 _ _)
    |number=>exact absurd rfl (C.2.2.1 _ _)
 .exact(d.still b p (λX h=>B (by rw[<-h.1];exact h.2)) (λh=>h)).1
def Left.value {R D W w' a y}(e:∀x v,R x v->x= .bool y)(h:Left R D W a w'):a= .bool y:=by obtain⟨x,c,f,S,d,b,_⟩:=h;rw[e x c d]at b;cases b;rfl
def Kept (D:zP)(d x:zY):Prop:=
 (∀k m,d= .int k m->x= .int k m)/\(∀a l c,d= .slice a l c->(∀b,a=aA b->D b.block\/l=0/\c=0)->∃e,x= .slice e l c/\((∀b,a=aA b->D b.block)->e=a))/\∀p,x≠.pointer p
def Kept.self {D x}(c:∀p,x≠.pointer p):Kept D x x:=⟨λ_ _ h=>h,λa _ _ h _=>⟨a,h,λ_=>rfl⟩,c⟩
def Kept.no {D x d}(g:∀k m,d≠.int k m)(f:∀a l c,d≠.slice a l c)(e:∀p,x≠.pointer p):Kept D d x:=⟨λk m h=>absurd h (g k m),λa l c h=>absurd h (f a l c),e⟩
structure Ju (D:zP)(vb:Nat)(x' x:zY):Prop where
 there:bF (AJ vb) (cH D) x x'
 here:bF AS (cH λz=>D z\/z=vb) x x
 kept:Kept D x' x
 again:∀N,∃y,bF (AB N) (cH D) y x/\Kept D x' y
def Ju.flat {D vb x}(a:∀p,x≠.pointer p)(h:∀(A)(π),bF A π x x):Ju D vb x x:=⟨h _ _,h _ _,.self a,λ_=>⟨x,h _ _,.self a⟩⟩
def Ju.junk {D vb x}(h:Jk x)(a:∀y:zY,(∀p,y≠.pointer p)->Kept D x y):∃y,Ju D vb x y:=⟨_,.junk (aG rfl) h,.same (show AS 1000001 from rfl) x,a _ (by simp),λ_=>⟨_,.same (aG rfl) x,a _ (by simp)⟩⟩
def mask (D)(vb):∀(n)(x),SizeOf.sizeOf x<=n->∃y,Ju D vb x y:=by
 intro n;induction n with
 |zero=>intro x h;cases x<;>simp at h
 |succ n B=>
  have o:∀cs:zA,SizeOf.sizeOf cs<=n->∃ds,aY (AJ vb) (cH D) ds cs/\aY AS (cH λz=>D z\/z=vb) ds ds/\∀N,∃p,aY (AB N) (cH D) p ds:=λcs H=>by
   have hi:∀i:Fin cs.size,∃y,Ju D vb cs[i] y:=λi=>B _ (by have:=Array.sizeOf_lt_of_mem (Array.getElem_mem i.2);have e:cs[i]=cs[i.1]:=rfl;rw[e];omega)
   refine⟨aF6 λi=>aEM (hi i),.of (by simp) λi f d=> ?_,.of rfl λi f d=> ?_,λN=>⟨aF6 λi=>aEM ((zAv (hi i)).again N),.of (by simp) λi f d=> ?_⟩⟩;{simp only[aF7];exact(zAv (hi ⟨i,d⟩)).there};{simp only[aF7];exact(zAv (hi ⟨i,by simpa using f⟩)).here};{simp only[aF7];exact(zAv ((zAv (hi ⟨i,by simpa using f⟩)).again N)).1}
  intro x h;cases x with
  |bool b=>exact⟨_,.flat (by simp) λ_ _=> .bool b⟩
  |int k m=>exact⟨_,.flat (by simp) λ_ _=> .int k m⟩
  |string s=>exact⟨_,.flat (by simp) λ_ _=> .string s⟩
  |nilFunc=>exact⟨_,.flat (by simp) λ_ _=> .nilFunc⟩
  |nilIface=>exact⟨_,.flat (by simp) λ_ _=> .nilIface⟩
  |map a=>
   cases a with
   |none=>exact⟨_,.flat (by simp) λ_ _=> .jC⟩
   |some a=>exact Ju.junk trivial λ_ g=> .no (by simp) (by simp) g
  |chan a=>
   cases a with
   |none=>exact⟨_,.flat (by simp) λ_ _=> .gL⟩
   |some a=>exact Ju.junk trivial λ_ g=> .no (by simp) (by simp) g
  |pointer a=>exact Ju.junk trivial λ_ g=> .no (by simp) (by simp) g
  |slice a l c=>
   cases a with
   |none=>exact⟨_,.flat (by simp) λ_ _=> .slice .none l c⟩
   |some a=>
    by_cases u:D a.block;{have r:∀{A:zF}{E:zP},(∀b,D b->E b)->bF A (cH E) (.slice (aA a) l c) (.slice (aA a) l c):=λI=> .slice (.some ⟨⟨rfl,I _ u⟩,rfl,rfl⟩) l c;exact⟨_,r λ_ h=>h,r λ_ h=>aG h,.self (by simp),λ_=>⟨_,r λ_ h=>h,.self (by simp)⟩⟩}
    .by_cases F:l=0/\c=0
     .obtain⟨rfl,rfl⟩:=F;have C:∀w,Kept D (.slice (aA a) 0 0) (.slice w 0 0):=λw=>by
       refine⟨λk m h=>(by cases h),λJ l c h _=> ?_,by simp⟩;cases h;exact⟨w,rfl,λh=>absurd (h a rfl) u⟩
      exact⟨_,.void (aH rfl) a,.slice (.some ⟨⟨rfl,aH rfl⟩,rfl,rfl⟩) 0 0,C _,λN=>⟨_,.void (aH rfl) ⟨vb,enc a,a.spot⟩,C _⟩⟩
     .refine Ju.junk trivial λy g=>⟨λk m h=>(by cases h),λJ K c' h d=> ?_,g⟩;cases h;exact((d a rfl).elim (λj=>u j) λj=>F j).elim
  |iface t v=>obtain⟨y,q⟩:=B v (by simp at h;omega);exact⟨.iface t y,.iface t q.there,.iface t q.here,.no (by simp) (by simp) (by simp),λN=>let⟨z,G,_⟩:=q.again N;⟨.iface t z,.iface t G,.no (by simp) (by simp) (by simp)⟩⟩
  |agg cs=>obtain⟨ds,f,d,j⟩:=o cs (by simp at h;omega);exact⟨.agg ds,.agg f.size f.at',.agg d.size d.at',.no (by simp) (by simp) (by simp),λN=>let⟨p,h⟩:=j N;⟨.agg p,.agg h.size h.at',.no (by simp) (by simp) (by simp)⟩⟩
  |tuple cs=>obtain⟨ds,f,d,j⟩:=o cs (by simp at h;omega);exact⟨.tuple ds,.tuple f.size f.at',.tuple d.size d.at',.no (by simp) (by simp) (by simp),λN=>let⟨p,h⟩:=j N;⟨.tuple p,.tuple h.size h.at',.no (by simp) (by simp) (by simp)⟩⟩
  |_=>exact Ju.junk trivial λ_ g=> .no (by simp) (by simp) g
def kE (W:zW)(b:Nat):Prop:=(∃c t fr,W.heap[b]? =aA (aI c t fr))\/b<=Tryz.prog.globals.size
noncomputable def mk (W:zW)(x:zY):zY:=aEM (mask (kE W) W.heap.size _ x (zAb _))
def FV (W)(x):Ju (kE W) W.heap.size x (mk W x):=zAv (mask (kE W) W.heap.size _ x (zAb _))
noncomputable def Zs (W:zW)(N:Nat)(x:zY):zY:=aEM ((FV W x).again N)
def TU (W)(N)(x):bF (AB N) (cH (kE W)) (Zs W N x) (mk W x)/\Kept (kE W) x (Zs W N x):=zAv ((FV W x).again N)
def onCells (m:zY->zY):Obj->Obj
 |aI c t fr=>aI (c.map m) t fr
 |o=>o
def masked (m:zY->zY)(W:zW):zW:={W with heap:=(W.heap.map (onCells m)).push (aI #[.int aP 0] 0 (0,0))}
section
variable {m:zY->zY}{W:zW}{b:Nat}
def kD:(masked m W).heap.size=W.heap.size+1:=by simp[masked]
def AL (h:b<W.heap.size):(masked m W).heap[b]? =(W.heap[b]?).map (onCells m):=by show((W.heap.map (onCells m)).push _)[b]? =_;rw[zBg,zAn (by simp;omega),zCd]
def iR {c t fr}(h:W.heap[b]? =aA (aI c t fr)):(masked m W).heap[b]? =aA (aI (c.map m) t fr):=by rw[AL (zAa.1 h).1,h];rfl
def sW {o}(h:W.heap[b]? =aA o)(a:CX o):(masked m W).heap[b]? =aA o:=by rw[AL (zAa.1 h).1,h];cases o<;>first|rfl|exact absurd rfl (a.1 _ _ _)
def TV {k x}(h:W.cell? ⟨b,k,aB⟩=aA x):(masked m W).cell? ⟨b,k,aB⟩=aA (m x):=by
 unfold World.cell? at h⊢;dsimp only at h⊢;cases hb:W.heap[b]? with
 |none=>rw[hb]at h;cases h
 |some o=>
  rw[hb]at h;cases o with
  |cells c t fr=>rw[iR hb];simp only[Option.isSome_none,zAz,zDc]at h⊢;rw[zCd,h];rfl
  |_=>cases h
end
def ZB {A π f g}{c:zA}(h:∀x,bF A π (f x) (g x)):aY A π (c.map f) (c.map g):= .of (by simp) λi d a=>by simp only[Array.getElem_map];exact h _
def RJ {W}(e:∀b,b<=Tryz.prog.globals.size->∃o,W.heap[b]? =aA o/\((∃c t fr,o=aI c t fr)\/CX o)):Start (kE W) (masked (mk W) W) W:=by
 refine⟨λb d=>aH d,λb d=> ?_,kD,?_,rfl,rfl,rfl,rfl,λb d=> ?_⟩
 .obtain⟨c,t,fr,h⟩|h:=d
  .exact(zAa.1 h).1
  .obtain⟨o,a,_⟩:=e b h;exact(zAa.1 a).1
 .show((W.heap.map (onCells (mk W))).push _)[W.heap.size]? =_;rw[zBg,zAq (by simp)]
 .have i:∀c t fr,W.heap[b]? =aA (aI c t fr)->∃c₁ c' t fr,(masked (mk W) W).heap[b]? =aA (aI c₁ t fr)/\W.heap[b]? =aA (aI c' t fr)/\aY (AJ W.heap.size) (cH (kE W)) c₁ c'/\aY AS (cH λx=>kE W x\/x=W.heap.size) c₁ c₁:=λc t fr h=>by
   refine⟨_,c,t,fr,iR h,h,?_,ZB λx=>(FV W x).here⟩;have:=ZB (g:=id) (c:=c) λx=>(FV W x).there;rwa [Array.map_id]at this
  obtain⟨c,t,fr,h⟩|h:=d;{exact aG (i c t fr h)}
  .obtain⟨o,a,⟨c,t,fr,rfl⟩|f⟩:=e b h
   .exact aG (i c t fr a)
   .exact aH ⟨h,o,sW a f,a,f⟩
def Ja {W}(f:∀b,b<=Tryz.prog.globals.size->∃o,W.heap[b]? =aA o/\((∃c t fr,o=aI c t fr)\/CX o))(N):Beside (kE W) N (masked (Zs W N) W) (masked (mk W) W):=by
 refine⟨kD.trans kD.symm,rfl,λb g=> ?_⟩;have e:∀c t fr,W.heap[b]? =aA (aI c t fr)->∃c₁ c' t fr,(masked (Zs W N) W).heap[b]? =aA (aI c₁ t fr)/\(masked (mk W) W).heap[b]? =aA (aI c' t fr)/\aY (AB N) (cH (kE W)) c₁ c':=λc t fr h=>⟨_,_,t,fr,iR h,iR h,ZB λx=>(TU W N x).1⟩;obtain⟨c,t,fr,h⟩|h:=g
 .exact aG (e c t fr h)
 .obtain⟨o,a,⟨c,t,fr,rfl⟩|d⟩:=f b h
  .exact aG (e c t fr a)
  .exact aH ⟨h,o,sW a d,sW a d,d⟩
end Go.Ga
namespace Go.Proofs.Zq
open Go.Proofs.YtghpcgagijhlaaaGreatDoor
open Go Go.RowKit Go.ChangeShapes Go.WideShapes Go.Ga Go.Ren Go.Deep
def rD {W a v}(h:W.cell? a=aA v):a.spot=aB/\kE W a.block/\a.block<W.heap.size:=by
 unfold World.cell? at h;cases hb:W.heap[a.block]? with
 |none=>rw[hb]at h;cases h
 |some o=>
  have bW:=(zAa.1 hb).1;rw[hb]at h;cases o with
  |cells c t fr=>
   dsimp only at h;cases b:a.spot with
   |none=>exact⟨rfl,aG ⟨c,t,fr,hb⟩,bW⟩
   |some s=>rw[b]at h;simp at h
  |_=>cases h
def Ml {W:zW}{f:Nat}{t e:zD}(d:Tryz.prog.underlying t=aA (.slice e)){a:Addr}{l c:Nat}(h:Value.okWide Tryz.prog W .any f t (aJ (aA a) l c)):kE W a.block:=by
 simp only[Value.okWide,Cell.okWide,Cell.ok,d]at h;obtain⟨_,_,_,_,row,cells,b,_⟩:=h;unfold World.shape? at b;cases hb:W.heap[a.block]? with
 |none=>rw[hb]at b;cases b
 |some o=>
  rw[hb]at b;cases o with
  |cells c t fr=>exact aG ⟨c,t,fr,hb⟩
  |_=>cases b
def Ea {H:Type}{P:zZ}{e:zD}:∀{ds:List (DataW H)}{d:DataW H},d∈ds->∀n∈d.weights P e,n∈DataW.weightsAll P e ds
 |d0::ds,d,h,n,a=>by simp only[DataW.weightsAll,zAg];obtain rfl|h:=zAe.1 h;{exact aG a};{exact aH (Ea h n a)}
def BH {n}(h:(Lit.int aD n).wf=aE): -9223372036854775808<=n/\n<=9223372036854775807:=by simpa [Lit.wf,IntKind.min,IntKind.max,IntKind.signed,IntKind.bits]using h
def num:zY->Int
 | .int _ n=>n
 |_=>0
def lu (W:zW)(e:zY)(l:zII):Prop:=tO W e l/\∃o cap,e=aJ o l.length cap/\∀b,o=aA b->kE W b.block\/l.length=0/\cap=0
section
variable {H:Type}{enc:zD×zY->H}{W:zW}
def YP {fuel u x}(h:DataW.trod enc Tryz.prog W 0 (λ_=>aE) aE fuel 45 [u]=aA x)(B:∀n∈x.1.weights Tryz.prog 45,n<=reachBytes):
  ∃l,lu W u l/\l.length<=4611686018427387904:=by
 have p:Tryz.prog.cellsOf 3=1:=by kernel_rfl
 have z:Tryz.prog.cellsOf 88=2:=by kernel_rfl
 have q:Tryz.prog.bytesOf 88=16:=by kernel_rfl
 obtain⟨y,_⟩|⟨a,len,cap,m,n,t,V,D0,D1,O,P,y,_,F,I,hm,D,d⟩:=open_slice_pairs underlying45 underlying88 z rfl rfl p p h
 .obtain rfl:u=aJ aB 0 0:=(zFr y).1;exact⟨[],⟨⟨by simp,aG ⟨rfl,aB,0,rfl⟩⟩,aB,0,rfl,λb A=>by cases A⟩,by simp⟩
 .obtain rfl:u=aJ (aA a) len cap:=(zFr y).1;simp only[zCq]at hm;replace hm:=hm.symm;subst hm;have c:∀i,i<cap->W.cell? (a.add (i*2))=aA (aC aD (num (t i)))/\W.cell? (a.add (i*2+1))=aA (aC aD (num (V i)))/\(-9223372036854775808<=num (t i)/\num (t i)<=9223372036854775807)/\-9223372036854775808<=num (V i)/\num (V i)<=9223372036854775807:=λi hi=>by
   obtain⟨e,C,t0,t1⟩:=d i hi;obtain⟨N,g0,_,w0⟩:=DataW.trod_int underlying3 t0;obtain⟨M,J,_,w1⟩:=DataW.trod_int underlying3 t1;have L:=(zFr g0).1;have K:=(zFr J).1;rw[L]at e⊢;rw[K]at C⊢;exact⟨e,C,BH w0,BH w1⟩
  have hlen:((List.range len).map λi=>(num (t i),num (V i))).length=len:=by{simp};refine⟨(List.range len).map λi=>(num (t i),num (V i)),⟨⟨λr f=> ?_,?_⟩,aA a,cap,by rw[hlen],λb A=> ?_⟩,?_⟩;{obtain⟨i,hi,rfl⟩:=zCg.1 f;have:=c i (by have:=zBu.1 hi;omega);exact⟨this.2.2.1.1,this.2.2.1.2,this.2.2.2.1,this.2.2.2.2⟩}
  .by_cases e:len=0
   .subst e;exact aG ⟨rfl,aA a,cap,rfl⟩
   .right;obtain⟨E,_,bW⟩:=rD (c 0 (by omega)).1;obtain⟨g,o,s⟩:=a;have v:s=aB:=by
     cases s with
     |none=>rfl
     |some s=>simp[Addr.add]at E
    subst v;refine⟨g,o,cap,by rw[hlen],by simpa [Addr.add]using bW,λi r f=> ?_⟩;rw[zDo]at f;obtain⟨k,G,rfl⟩:=zBm.1 f;obtain⟨w,j⟩:=zAu.1 G;simp at w j;subst j;have:=c i (by omega);rw[add_plain,add_plain]at this;exact⟨this.1,by rw[zCc];exact this.2.1⟩
  .cases A;by_cases e:cap=0
   .right;rw[hlen];exact⟨by omega,e⟩
   .left;have:=(rD (c 0 (by omega)).1).2.1;unfold Addr.add at this;split at this<;>exact this
  .rw[hlen];have f:=reachBytes_lt;rw[D]at B;have:=B ((len+(cap-len))*16) (by simp[DataW.weights,underlying45,q]);omega
structure lp (W:zW)(va:zO)(E:List (zII)):Prop where
 Uu:∀b,va=aA b->kE W b.block
 OP:∀i l,E[i]? =aA l->∃g o ev,va=aA ⟨g,o,aB⟩/\g<W.heap.size/\W.cell? ⟨g,o+i,aB⟩=aA ev/\lu W ev l/\l.length<=4611686018427387904
def BZ {R:Nat}{v:zY}{d:DataW H}{J:List MemPlace}(e:Value.okWide Tryz.prog W .any R 28 v)(h:DataW.Trod enc Tryz.prog W 0 (λ_=>aE) aE 28 v d J)(y:∀n∈d.weights Tryz.prog 28,n<=reachBytes):
  ∃F I E,v=aJ F E.length I/\lp W F E/\E.length<=4611686018427387904:=by
 obtain⟨fuel,G⟩:=h;have B:Tryz.prog.cellsOf 45=1:=by kernel_rfl
 have u:Tryz.prog.bytesOf 45=24:=by kernel_rfl
 have p:v.cells.toList=[v]:=by simp only[Value.okWide,Cell.okWide,Cell.ok,underlying28]at e;cases v<;>first|rfl|exact e.elim
 rw[p]at G;obtain⟨A,_⟩|⟨a,len,cap,m,n,V,D,T,A,_,N,Q,hm,K,c⟩:=open_slice1 underlying28 B G
 .obtain rfl:v=aJ aB 0 0:=(zFr A).1;exact⟨aB,0,[],rfl,⟨λb C=>by(cases C),λi l hi=>by simp at hi⟩,by simp⟩
 .obtain rfl:v=aJ (aA a) len cap:=(zFr A).1;simp only[zCq]at hm;replace hm:=hm.symm;subst hm;have P:d= .slice ((List.range len).map D) ((List.range (cap-len)).map λj=>D (len+j)):=congrArg Prod.fst K;rw[P]at y;have w:∀i,i<len->∀n∈(D i).weights Tryz.prog 45,n<=reachBytes:=λi hi n M=>y n (by
   simp only[DataW.weights,underlying28,zAe,zAg];exact aH (aG (Ea (zCg.2 ⟨i,zBu.2 hi,rfl⟩) n M)))
  have f:∀i,∃l,i<len->lu W (V i) l/\l.length<=4611686018427387904:=λi=>by by_cases hi:i<len;{obtain⟨l,hl⟩:=YP (c i (by omega)).2 (w i hi);exact⟨l,λ_=>hl⟩};{exact⟨[],λh=>absurd h hi⟩}
  have hlen:((List.range len).map λi=>aEM (f i)).length=len:=by{simp};refine⟨aA a,cap,(List.range len).map λi=>aEM (f i),by rw[hlen],⟨λb C=> ?_,λi l hi=> ?_⟩,?_⟩;{cases C;exact Ml underlying28 e}
  .rw[zDo]at hi;obtain⟨k,O,rfl⟩:=zBm.1 hi;obtain⟨r,q⟩:=zAu.1 O;simp at r q;subst q;have t:=(c i (by omega)).1;obtain⟨L,_,bW⟩:=rD (c 0 (by omega)).1;obtain⟨g,o,s⟩:=a;have z:s=aB:=by
    cases s with
    |none=>rfl
    |some s=>simp[Addr.add]at L
   subst z;rw[add_plain]at t;have:=zAv (f i) r;exact⟨g,o,V i,rfl,by simpa [Addr.add]using bW,t,this.1,this.2⟩
  .rw[hlen];have S:=reachBytes_lt;have:=y ((len+(cap-len))*24) (by simp[DataW.weights,underlying28,u]);omega
end
section
variable {W X:zW}{m:zY->zY}(hX:X.heap=(masked m W).heap)(hm:∀x,Kept (kE W) x (m x))
include hX
def MU {b k x}(h:W.cell? ⟨b,k,aB⟩=aA x):X.cell? ⟨b,k,aB⟩=aA (m x):=by
 have e:X.cell? ⟨b,k,aB⟩=(masked m W).cell? ⟨b,k,aB⟩:=by unfold World.cell?;rw[hX]
 rw[e,TV h]
def tY {b}(h:b<W.heap.size):b<X.heap.size:=by rw[hX,kD];omega
include hm
def yH {b k kd n}(h:W.cell? ⟨b,k,aB⟩=aA (.int kd n)):X.cell? ⟨b,k,aB⟩=aA (.int kd n):=by rw[MU hX h,(hm _).1 _ _ rfl]
def Bd {q l}(h:lu W q l):tO X (m q) l:=by
 obtain⟨k,o,cap,rfl,w⟩:=h;obtain⟨s,j,A⟩:=(hm (aJ o l.length cap)).2.1 _ _ _ rfl w;refine⟨k.fits,?_⟩;obtain⟨hl,_⟩|⟨g,p,c,v,y,a⟩:=k.OP
 .subst hl;exact aG ⟨rfl,s,cap,j⟩
 .by_cases n:l=[]
  .subst n;exact aG ⟨rfl,s,cap,j⟩
  .obtain⟨r,f⟩:∃r,l[0]? =aA r:=⟨l[0]'(List.length_pos_iff.2 n),zAf _⟩;injection v with d u t;subst d;have e:=(rD (a 0 r f).1).2.1;have:=A λb z=>by{cases z;exact e};subst this;exact aH ⟨g,p,cap,j,tY hX y,λi r hi=>⟨yH hX hm (a i r hi).1,yH hX hm (a i r hi).2⟩⟩
def GV {v E}(h:lp W v E):tS X v E:=⟨λi l hi=>by obtain⟨g,o,f,e,d,c,b,a⟩:=h.OP i l hi;exact⟨g,o,m f,e,tY hX d,MU hX c,Bd hX hm b,a⟩⟩
def uW:∀x,¬eM X x:=λx ⟨z,o,i,v,g,n,k⟩=>by
 obtain⟨fr,h⟩:=k.at';rw[hX]at h;have bW:=(zAa.1 h).1;rw[kD]at bW;by_cases j:x<W.heap.size
 .rw[AL j]at h;obtain⟨f,p,b⟩:=zBm.1 h;cases f with
  |cells c t l=>
   simp only[onCells,Obj.cells.injEq]at b;have a:(c.map m)[0]? =aA (ptr z):=by{rw[b.1];rfl};rw[zCd]at a;obtain⟨y,_,d⟩:=zBm.1 a;cases z with
   |none=>exact(hm y).2.2 _ d
   |some z=>exact(hm y).2.2 _ d
  |_=>cases b
 .obtain rfl:x=W.heap.size:=by omega
  have:(masked m W).heap[W.heap.size]? =aA (aI #[aC aP 0] 0 (0,0)):=by have e:(W.heap.map (onCells m)).size=W.heap.size:=Array.size_map ..;show((W.heap.map (onCells m)).push _)[W.heap.size]? =_;rw[<-e];exact Array.getElem?_push_size
  rw[this]at h;injection h with h;injection h with _ a;revert a;decide
def RA (h:fF W):fF X:=by
 have s0:H0.cells.toList=jK.map λz=>Value.int aO z:=by kernel_rfl
 refine⟨⟨tY hX h.mV.1,λt c=>yH hX hm (h.mV.2 t c)⟩,tY hX h.lt,λj v b=> ?_⟩;have a:=b;rw[s0,zDo]at a;obtain⟨z,_,rfl⟩:=zBm.1 a;exact yH hX hm (h.jK j _ b)
end
structure Um (W:zW):Prop where
 rows:∀b,b<3->∃c t,W.heap[b]? =aA (aI c t (0,0))/\∀(i:Nat) v,c[i]? =aA v->∃k n,v= .int k n/\k≠aP
 last:∃c t fr,W.heap[3]? =aA (aI c t fr)/\(∀(i:Nat) v,c[i]? =aA v->∃k n,v= .int k n/\k≠aP)/\fr.2<=c.size
def FG {W t u n k c}(d:Tryz.prog.cellTypes Tryz.prog.depth t=aA (List.replicate n u))(j:Tryz.prog.underlying u=aA (.int k))(h:Row.ok Tryz.prog W .any 0 t c)(i:Nat)(v)(g:c[i]? =aA v):∃m,v= .int k m:=by
 obtain⟨o,e,_,l⟩:=h;rw[d]at e;obtain rfl:=zAk e;obtain⟨f,a,b⟩:=l i v g;have:f=u:=by rw[List.getElem?_replicate]at a;split at a;{exact(zAk a).symm};{cases a}
 subst this;simp only[Cell.ok,j]at b;cases v<;>first|exact b.elim|exact⟨_,by rw[b.1]⟩
open Go Go.RowKit Go.ChangeShapes Go.WideShapes Go.ChangeAt Go.Ga Go.Ren Go.Conc
def cg:zY->Bool
 | .int k _=>k !=aP
 |_=>aF
def Xg:Obj->Bool
 |aI c _ fr=>c.all cg&&decide (fr.2<=c.size)
 |_=>aF
def Xf {o}(h:Xg o=aE):∃c t fr,o=aI c t fr/\(∀(i:Nat) v,c[i]? =aA v->∃k n,v= .int k n/\k≠aP)/\fr.2<=c.size:=by
 cases o with
 |cells c t fr=>simp only[Xg,zBc,zBl]at h;refine⟨c,t,fr,rfl,λi v a=> ?_,h.2⟩;have:=Array.all_eq_true'.1 h.1 v (zBf a);cases v<;>first|(cases this;done)|exact⟨_,_,rfl,by simpa [cg]using this⟩
 |_=>cases h
noncomputable def w0:zW:=(begin Tryz.prog (λ_ _=>0) default).world
def UO:Tryz.prog.globals.size=3:=by kernel_rfl
def mg:((w0.heap[0]?).bind Obj.row?).map (·.2)=aA 136:=by kernel_rfl
def mf:((w0.heap[1]?).bind Obj.row?).map (·.2)=aA 3:=by kernel_rfl
def me:((w0.heap[2]?).bind Obj.row?).map (·.2)=aA 157:=by kernel_rfl
def mc:(w0.heap[3]?).map Xg=aA aE:=by kernel_rfl
def Rm {W}(h:W.ShapedOpen Tryz.prog):Um W:=by
 obtain⟨K,J⟩:=h;have k:∀g t,g<3->((w0.heap[g]?).bind Obj.row?).map (·.2)=aA t->Tryz.prog.buildable t=aE->∃c,W.heap[g]? =aA (aI c t)/\Row.ok Tryz.prog W .any 0 t c:=λg t E D j=>by obtain⟨⟨z,y⟩,C,rfl⟩:=zBm.1 D;obtain⟨cs,d,_,a⟩:=K g z y (by rw[UO];exact E) C;exact⟨cs,d,a j⟩
 refine⟨λb j=> ?_,?_⟩
 .match b,j with
  |0,_=>obtain⟨c,d,a⟩:=k 0 _ (by omega) mg (by kernel_rfl);exact⟨c,_,d,λi v f=>let⟨m,hm⟩:=FG (n:=8) (u:=135) (by kernel_rfl) underlying135 a i v f;⟨_,m,hm,by simp⟩⟩
  |1,_=>obtain⟨c,d,a⟩:=k 1 _ (by omega) mf (by kernel_rfl);exact⟨c,_,d,λi v f=>let⟨m,hm⟩:=FG (n:=1) (u:=3) (by kernel_rfl) underlying3 a i v f;⟨_,m,hm,by simp⟩⟩
  |2,_=>obtain⟨c,d,a⟩:=k 2 _ (by omega) me (by kernel_rfl);exact⟨c,_,d,λi v f=>let⟨m,hm⟩:=FG (n:=64) (u:=135) (by kernel_rfl) underlying135 a i v f;⟨_,m,hm,by simp⟩⟩
  |b+3,j=>exact absurd j (by omega)
 .obtain⟨x,s,F⟩:=zBm.1 mc;have bW:3<w0.heap.size:=(zAa.1 s).1;obtain⟨o,r,B,A,p⟩:=J 3 (by rw[UO];omega) bW;have e:(3:Nat)-Tryz.prog.globals.size=0:=by{rw[UO]};rw[e]at p;have l:o=r:=p;have q:w0.heap[3]? =aA r:=A;rw[s]at q;obtain rfl:=zAk q;subst l;obtain⟨c,t,fr,rfl,I,G⟩:=Xf F;exact⟨c,t,fr,B,I,G⟩
def Um.cO {W}(h:Um W)(b)(d:b<=Tryz.prog.globals.size):∃o,W.heap[b]? =aA o/\((∃c t fr,o=aI c t fr)\/CX o):=by
 rw[UO]at d;by_cases e:b<3
 .obtain⟨c,t,a,_⟩:=h.rows b e;exact⟨_,a,aG ⟨c,t,_,rfl⟩⟩
 .obtain rfl:b=3:=by{omega};obtain⟨c,t,fr,a,_⟩:=h.last;exact⟨_,a,aG ⟨c,t,fr,rfl⟩⟩
def WA {W X m}(p:X.heap=(masked m W).heap)(q:∀x,Kept (kE W) x (m x))(s:Um W)(A:fF W):Base X:=by
 have u:=Qz.gW.trans UO;have l:=uW p q;refine⟨λb z=> ?_,RA p q A,?_⟩
 .rw[u]at z;rw[p];have d:∀c t fr,W.heap[b]? =aA (aI c t fr)->(∀(i:Nat) v,c[i]? =aA v->∃k n,v= .int k n/\k≠aP)->fr.2<=c.size->¬WO (masked m W).heap[b]?/\(∃c t fr,(masked m W).heap[b]? =aA (aI c t fr)/\(∀D:zP,(∀x,x<=zq.globals.size->D x)->aY Qw.Al (cH D) c c)/\(∀(i:Nat) m,c[i]?≠aA (aC aP m))/\fr.2<=c.size):=λc t fr a hi o=>by
   have h:∀(i:Nat) v,(c.map m)[i]? =aA v->∃k n,v= .int k n/\k≠aP:=λi v j=>by rw[zCd]at j;obtain⟨x,f,rfl⟩:=zBm.1 j;obtain⟨k,n,rfl,r⟩:=hi i x f;exact⟨k,n,(q _).1 _ _ rfl,r⟩
   refine⟨λ⟨x,f⟩=> ?_,_,t,_,iR a,λD _=>⟨rfl,λi v C j g=> ?_⟩,λi n y=> ?_,by simpa using o⟩;{rw[iR a]at f;(iterate 2 (injection f with f));obtain⟨k,n,e,_⟩:=h 0 (.bool x) (by rw[f];rfl);cases e};{rw[j]at g;cases g;obtain⟨k,n,rfl,_⟩:=h i v j;exact .int k n};{obtain⟨k,E,e,r⟩:=h i _ y;cases e;exact r rfl}
  by_cases B:b<3;{obtain⟨c,t,a,hi⟩:=s.rows b B;exact⟨(d c t _ a hi (zBr _)).1,l b,aG (d c t _ a hi (zBr _)).2⟩};{obtain rfl:b=3:=by{omega};obtain⟨c,t,fr,a,hi,o⟩:=s.last;exact⟨(d c t fr a hi o).1,l 3,aG (d c t fr a hi o).2⟩}
 .rw[u,p,kD];obtain⟨c,t,fr,a,_⟩:=s.last;have:=(zAa.1 a).1;omega
def XH {W:zW}(hs:W.ShapedOpen Tryz.prog)(O:laidMetH Tryz.prog MB W){k vb:zO}{vc vd:Nat}{E M:List (zII)}{j wo wp:Int}(B:lp W k E)(z:E.length<=4611686018427387904)(D:lp W vb M)(y:M.length<=4611686018427387904)
  (Y: -9223372036854775808<=j) (V:j<=9223372036854775807) (U: -9223372036854775808<=wo) (T:wo<=9223372036854775807) (S: -9223372036854775808<=wp) (Q:wp<=9223372036854775807):
  ∃N last o i t,runNT Tryz.prog (N+1) (solo (G (Frame.enter Tryz.prog 6 #[aJ k E.length vc,aJ vb M.length vd,aC aD j,aC aD wo,aC aD wp] .normal) []) W) #[]=(.ended o i,t)/\runN Tryz.prog N (solo (G (Frame.enter Tryz.prog 6 #[aJ k E.length vc,aJ vb M.length vd,aC aD j,aC aD wo,aC aD wp] .normal) []) W)= .next last/\
   step Tryz.prog last= .ended o i/\Conc.Good Tryz.prog (λv Z=>v= .bool aE/\zb W Z) last o i t:=by
 have A:=Rm hs;have L:=NJ O;have r:=A.cO;have C:∀(m:zY->zY),(∀x,Kept (kE W) x (m x))->∀g d,Calls zq 6 #[aJ k E.length vc,aJ vb M.length vd,aC aD j,aC aD wo,aC aD wp] ((masked m W).re g d) (RF λx i=>x= .bool aE/\Below (masked m W).heap.size ((masked m W).re g d) i):=λm q g d=>
  Ey k vc E vb vd M j wo wp ((masked m W).re g d) (WA (X:=(masked m W).re g d) rfl q A L) (uW (X:=(masked m W).re g d) rfl q) (GV (X:=(masked m W).re g d) rfl q B) z (GV (X:=(masked m W).re g d) rfl q D) y Y V U T S Q
 have p:∀(a:zO)(l c:Nat),(∀b,a=aA b->kE W b.block)->bF (λ_=>False) (cH (kE W)) (aJ a l c) (aJ a l c):=λa l c h=>by
  cases a with
  |none=>exact .slice .none l c
  |some a=>exact .slice (.some ⟨⟨rfl,h a rfl⟩,rfl,rfl⟩) l c
 have K:aY (λ_=>False) (cH (kE W)) #[aJ k E.length vc,aJ vb M.length vd,aC aD j,aC aD wo,aC aD wp] #[aJ k E.length vc,aJ vb M.length vd,aC aD j,aC aD wo,aC aD wp]:=
  ((NB (p k _ vc B.Uu) (p vb _ vd D.Uu)).append (NB (bF.int aD j) (bF.int aD wo))).append (aY.one (bF.int aD wp))
 obtain⟨M,last,o,i,t,r1,r2,r3,n⟩:=Sk (R:=λx v=>x= .bool aE/\∀b,b<(masked (mk W) W).heap.size->v.heap[b]? =(masked (mk W) W).heap[b]?) Dl (f:=6) (by show(Qm.ck (·==1000001)).al 6=aE;kernel_rfl) (by decide) (by decide) K (RJ r) (λx u g d h=>h)
  (λg d=>(C (mk W) (λx=>(FV W x).kept) g d).mono λe i h=>h.imp (λ⟨x,I,F,J⟩=>⟨x,I,F,λb s=>J.block b s⟩) id)
  λN _=>⟨masked (Zs W N) W,λe _=>e≠.outgrown,Ja r N,λi h=>h rfl,λg d=>(C (Zs W N) (λx=>(TU W N x).2) g d).mono λe i h=>by obtain⟨_,rfl,_⟩|⟨_,rfl,_⟩:=h<;>simp⟩
 exact⟨M,last,o,i,t,r1,r2,r3,n.mono λv hl=>⟨Left.value (λx v h=>h.1) hl,Left.below (RJ r) (λx v h=>h.2) hl⟩⟩
section
variable {H:Type}{enc:zD×zY->H}{P:zZ}{w:zW}{base:Nat}{spare:Nat->Bool}{held:Bool}
def QY {t0 t1 t2 t3 t4:zD}{v0 v1 v2 v3 v4:zY}{d0 d1 d d3 d4:DataW H}{p0 p p2 p3 p4:List MemPlace}(e:DataW.Trod enc P w base spare held t0 v0 d0 p0)(c:DataW.Trod enc P w base spare held t1 v1 d1 p)(b:DataW.Trod enc P w base spare held t2 v2 d p2)(a:DataW.Trod enc P w base spare held t3 v3 d3 p3)(h:DataW.Trod enc P w base spare held t4 v4 d4 p4):
  DataW.TrodAll enc P w base spare held [t0,t1,t2,t3,t4] [v0,v1,v2,v3,v4] [d0,d1,d,d3,d4] (p0++(p++(p2++(p3++p4)))):=⟨p0,p++(p2++(p3++p4)),e,trodAll_mk4 c b a h,rfl⟩
def Em {t0 t1 t2 t3 t4:zD}{args:zA}{ds:List (DataW H)}{b:List MemPlace}(h:DataW.TrodAll enc P w base spare held [t0,t1,t2,t3,t4] args.toList ds b):
  ∃v0 v v2 v3 v4 d0 d1 d d3 d4 p0 p p2 p3 p4,args= #[v0,v,v2,v3,v4]/\ds=[d0,d1,d,d3,d4]/\b=p0++(p++(p2++(p3++p4)))/\DataW.Trod enc P w base spare held t0 v0 d0 p0/\DataW.Trod enc P w base spare held t1 v d1 p/\DataW.Trod enc P w base spare held t2 v2 d p2/\DataW.Trod enc P w base spare held t3 v3 d3 p3/\DataW.Trod enc P w base spare held t4 v4 d4 p4:=by
 obtain⟨v0,r0,d0,o,p0,q0,a,rfl,rfl,g0,f0⟩:=trodAll_cons h;obtain⟨v,r1,d1,n,p,j,rfl,rfl,rfl,e,f1⟩:=trodAll_cons f0;obtain⟨v2,r2,d,m,p2,i,rfl,rfl,rfl,c,f2⟩:=trodAll_cons f1;obtain⟨v3,r3,d3,l,p3,f,rfl,rfl,rfl,g,f3⟩:=trodAll_cons f2;obtain⟨v4,r4,d4,k,p4,q,rfl,rfl,rfl,g4,f4⟩:=trodAll_cons f3;obtain⟨rfl,rfl,rfl⟩:=trodAll_nil f4;exact⟨v0,v,v2,v3,v4,d0,d1,d,d3,d4,p0,p,p2,p3,p4,by cases args;simp_all,rfl,by simp,g0,e,c,g,g4⟩
end
def NN (os:Os)(started:os.Started)(H:Type)(enc:zD×zY->H):
  ReturnsInLeavingWide {} Tryz.checked os 6 .any (λw args=>(Rows.stillSpec.pre enc Tryz.prog f6 [] aF w args/\laidMetH Tryz.prog MB w)/\sizedMet enc Tryz.prog f6 (OpenSpec.ofChange Rows.stillSpec) aF w args)
   (Rows.stillSpec.post enc Tryz.prog f6 aF aE aF aF):=by
 refine returnsInLeavingWide_of_good (C:=Tryz.checked) own started
  (ChangeSpec.witness_shaped (enc:=enc) (C:=Tryz.checked) (os:=os) (X:=λw _=>laidMetH Tryz.prog MB w) aF (World.doorLaid Tryz.prog 400 os) #[aJ aB 0 0,aJ aB 0 0,aC aD 0,aC aD 0,aC aD 0] 8 rfl (World.shaped_of_RefB (by kernel_rfl) (by kernel_rfl)) (by kernel_rfl) (by kernel_rfl) (by kernel_rfl) (Oy os _)) ?_
 intro w tape i _ m _ D r _;obtain⟨_,_,_,J,s,_,_,_,_,b⟩:=D;obtain rfl:J=f6:=zAk (s.symm.trans func6);obtain⟨⟨⟨ds,gs,before,B,_⟩,hl⟩,Q⟩:=r;have c:=Q.weights B;have f:=DataW.Whole.of_heap (w':=w.forCall tape i) (by rfl) B;have S:laidMetH Tryz.prog MB (w.forCall tape i):=hl.of_heap (by rfl);obtain⟨blocks,args,vars⟩:=i;dsimp only at b f c S m⊢;generalize w.forCall tape ⟨blocks,args,vars⟩=W at*;clear hl Q B;have a:∀(j:Nat) t v,f6.params[j]? =aA t->args[j]? =aA v->Value.okWide Tryz.prog W .any w.heap.size t v:=b;have l:(DataW.weightsEach Tryz.prog (f6.params.toList++Rows.stillSpec.plain.varTypes Tryz.prog) (ds++gs)).all (·<=reachBytes)=aE:=c;have u:=f;obtain⟨p,q,y,hV,rfl,hfz,qf⟩:=f;have T:DataW.TrodAll enc Tryz.prog W 0 (λ_=>aE) aE f6.params.toList args.toList ds p:=y;rw[params6]at T a l;obtain⟨v0,U,v2,v3,v4,d0,d1,d2,d3,d4,p0,Y,p2,p3,p4,rfl,rfl,rfl,t0,t1,t2,t3,t4⟩:=Em T;obtain⟨rfl,rfl⟩:=trodVars_none hV;have k:∀(j:Nat) t d,([28,28,3,3,3]:List zD)[j]? =aA t->[d0,d1,d2,d3,d4][j]? =aA d->∀n∈d.weights Tryz.prog t,n<=reachBytes:=λj t d R hd n hn=>by have:=zBq.1 l n (DataW.weights_mem_each (j:=j) (t:=t) (d:=d) (by rw[zCz (zAu.1 R).1];exact R) (by rw[zAy];exact hd) n hn);simpa using this
 obtain⟨va,O,E,rfl,hE,I⟩:=BZ (a 0 28 v0 rfl rfl) t0 (k 0 _ _ rfl rfl);obtain⟨vb,N,L,rfl,hK,G⟩:=BZ (a 1 28 U rfl rfl) t1 (k 1 _ _ rfl rfl);obtain⟨wi,rfl,rfl,rfl,w1⟩:=open_int underlying3 (a 2 3 v2 rfl rfl) t2;obtain⟨wo,rfl,rfl,rfl,w2⟩:=open_int underlying3 (a 3 3 v3 rfl rfl) t3;obtain⟨wp,rfl,rfl,rfl,w3⟩:=open_int underlying3 (a 4 3 v4 rfl rfl) t4;have A:∀x∈p0,x.block<W.heap.size:=by obtain⟨fuel,F⟩:=t0;exact DataW.trod_lt fuel _ _ _ F
 have z:∀x∈Y,x.block<W.heap.size:=by obtain⟨fuel,F⟩:=t1;exact DataW.trod_lt fuel _ _ _ F
 clear y b c;obtain⟨M,last,o,K,V,r1,r2,r3,e⟩:=XH m S (vc:=O) (vd:=N) hE I hK G (BH w1).1 (BH w1).2 (BH w2).1 (BH w2).2 (BH w3).1 (BH w3).2;refine⟨M,last,o,K,V,r1,r2,r3,e.mono λv Z=> ?_⟩;obtain⟨rfl,g⟩:=Z;simp only[zAy]at u;exact ChangeSpec.post_blind ⟨_,_,_,[],_,[],u,trodAll_mk1 (shut_bool underlying4 _),QY (g.trod (by kernel_rfl) (by kernel_rfl) (of_decide_eq_true (by kernel_rfl)) t0 A) (g.trod (by kernel_rfl) (by kernel_rfl) (of_decide_eq_true (by kernel_rfl)) t1 z) (shut_int underlying3 w1) (shut_int underlying3 w2) (shut_int underlying3 w3),rfl,g.frame _,λh=>by cases h⟩
def Ex:Rows.StillSaid:=
 OpenClaim.holds_of_wide_leaving 6 f6 rfl rfl rfl rfl rfl rfl rfl ⟨rfl,rfl,rfl,rfl,rfl⟩ rfl rfl rfl rfl rfl (by kernel_rfl) func6 (by kernel_rfl)
  (of_decide_eq_true (by kernel_rfl)) (by unfold Func.isWrapper;first|(rw[zAq (by decide+kernel)];kernel_rfl)|(rw[zAn (by decide+kernel)];exact⟨rfl,rfl⟩))
  (λos started H enc _=>NN os started H enc)
theorem still_holds:Rows.StillCardSaid:=
 ⟨Claim7.tied_new_at .later [.data,.data] aE (Claim7.new_of_sixth Ex (aE,"33411e03c5f2884f9bb58066ffa33b407d3d92d55cca09c31043876e27824a14") aF rfl ⟨rfl,rfl⟩ (by kernel_rfl) rfl
  (λf fn e b=>by
   obtain rfl:f=6:=zAk ((show Tryz.prog.funcNamed "thicket/thicketkeep.Still"=aA 6 by kernel_rfl).symm.trans e)|>.symm;obtain rfl:fn=f6:=(zAk (func6.symm.trans b)).symm;exact⟨by kernel_rfl,λj t c=>by
    rw[params6]at c;have d:t∈[28,28,3,3,3]:=by{simpa using zBf c};have a:([28,28,3,3,3].all λu=> !Tryz.prog.wantsStandIn u)=aE:=by kernel_rfl
    exact(show Tryz.prog.wantsStandIn t=aF by simpa using zBq.1 a t d)⟩)) (by kernel_rfl),λD g=>by(cases g),still_row_tie,λh=>by(cases h),by kernel_rfl⟩
end Go.Proofs.Zq
