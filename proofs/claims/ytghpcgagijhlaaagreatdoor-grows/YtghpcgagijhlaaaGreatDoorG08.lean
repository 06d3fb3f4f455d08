import Derived.Shelf.Strconv.Clone
import Derived.Lib.Bytealg
import Derived.Defers
import Derived.Test.YtghpcgagijhlaaaGreatDoorG07
set_option linter.all false
set_option maxRecDepth 100000
set_option maxHeartbeats 16000000
open Option renaming some->aA,none->aB
open Bool renaming true->aF,false->aG
open Or renaming inl->aH,inr->aI
open Go.Ending renaming returned->aM
open Go.Obj renaming cells->aJ
open Go.IntKind renaming i64->aD,u32->aP,u8->aQ
open Go.Value renaming slice->aK,string->aL,pointer->aO,int->aC
open Classical renaming propDecidable->OC
open Go.Lib renaming compareBytes->Bc
open Go.RowKit.Below renaming cell->KE,block->Mr,heap_setCell->Eg
open Nat renaming lt_succ_self->aNh,lt_of_lt_of_le->Mq
open UInt8 renaming lt_irrefl->aNj,le_antisymm->OA,toNat_lt->Ni
open Go.Proofs.Tryz
open List renaming length->zAH,toArray->zAL
open Array renaming setIfInBounds->zAI,toList->zAM
open Go.World renaming setCell->zAJ,alloc->zAK
open Go.Proofs.Tryz renaming prog->zAN
section
variable {P:Prop}
def E7(h:P:=by rw[Ds];exact bm):=h
def I4(h:P:=by rw[At];exact bm):=h
def L6(h:P:=by have hl:=h.lt;obtain⟨c,h⟩:=h;exact⟨c,by grind[Mq,Mr]⟩):=h
def N5(h:P:=by grind[Eg]):=h
def Q5(h:P:=by grind[KE]):=h
def S5(h:P:=by go_light;exact⟨t+1,bm,j9,by rw[N.out];rfl,cP Q.out G.out p bm bm,cP F3.out G.out p (je _) z,by rw[O.out,H.out];exact j⟩):=h
def Z1(h:P:=by show(W.alloc (aJ u.cells.toArray 53)).cell? _=_;exact j1):=h
def Z9(h:P:=by rw[a.block b (Ao d.lt e)];exact d.at'):=h
def r9(h:P:=by unfold Addr.add;exact ji):=h
def s3(h:P:=by obtain⟨C,E,G,r,t1,t2,t3,t4⟩:=p.tree;obtain⟨z,o,i,v,d,hn⟩:=p.new;exact⟨n,p.deep,p.Zy,⟨z,o,i,v,d,f _ _ _ _ _ _ _ hn⟩,C,E,G,r,t1.keep m j (λb z o i v g d h=>⟨d,f _ _ _ _ _ _ _ h⟩),t2,t3,t4⟩):=h
def td(h:P:=by exact aI ⟨g,cap,cur,rfl,hb,by rw[hk g rfl];exact hh,r⟩):=h
def zAC(h:P:=by go_wp2;go_ret;exact⟨_,rfl,ms,Q.out,C5.out,bm,C.out⟩):=h
end
namespace Go.Proofs
open Go.Shelf
def Qz.TM:Go.Shelf.Ren:=⟨λ|316=>100|n=>n,λ|9=>9|3=>3|4=>4|37=>50|0=>0|127=>184|5=>5|n=>n,λ|n=>n⟩
def Qz.Vp:Go.Proofs.LaysM.n316 zq Qz.TM:={
 mixed:=by kernel_rfl
 f316:=(Qz.fn func100).trans (congrArg aA c9)
 t0:=((Qz.eR 0).trans Tryz.underlying0)
 a0:=(λw=>(Qz.isAgg w 0).trans (Tryz.isAgg0 w))
 z0:=(λw=>(Qz.sizeOf w 0).trans (Tryz.sizeOf0 w))
 v0:=(λw=>(Qz.zeroValue w 0).trans j1)
 t3:=((Qz.eR 3).trans Tryz.underlying3)
 a3:=(λw=>(Qz.isAgg w 3).trans (Tryz.isAgg3 w))
 z3:=(λw=>(Qz.sizeOf w 3).trans (Tryz.sizeOf3 w))
 v3:=(λw=>(Qz.zeroValue w 3).trans j1)
 t4:=((Qz.eR 4).trans Tryz.underlying4)
 a4:=(λw=>(Qz.isAgg w 4).trans (Tryz.isAgg4 w))
 z4:=(λw=>(Qz.sizeOf w 4).trans (Tryz.sizeOf4 w))
 v4:=(λw=>(Qz.zeroValue w 4).trans j1)
 t9:=((Qz.eR 9).trans Tryz.underlying9)
 a9:=(λw=>(Qz.isAgg w 9).trans (Tryz.isAgg9 w))
 z9:=(λw=>(Qz.sizeOf w 9).trans (Tryz.sizeOf9 w))
 v9:=(λw=>(Qz.zeroValue w 9).trans j1)
 t37:=((Qz.eR 50).trans Tryz.underlying50)
 a37:=(λw=>(Qz.isAgg w 50).trans (Tryz.isAgg50 w))
 z37:=(λw=>(Qz.sizeOf w 50).trans j1)
 v37:=(λw=>(Qz.zeroValue w 50).trans j1)
 t127:=((Qz.eR 184).trans Tryz.underlying184)
 a127:=(λw=>(Qz.isAgg w 184).trans j1)
 z127:=(λw=>(Qz.sizeOf w 184).trans j1)
 v127:=(λw=>(Qz.zeroValue w 184).trans j1)
 t5:=((Qz.eR 5).trans Tryz.underlying5)
 a5:=(λw=>(Qz.isAgg w 5).trans (Tryz.isAgg5 w))
 z5:=(λw=>(Qz.sizeOf w 5).trans (Tryz.sizeOf5 w))
 v5:=(λw=>(Qz.zeroValue w 5).trans j1)
 i0:=by kernel_rfl
 i3:=by kernel_rfl
 i4:=by kernel_rfl
 i5:=by kernel_rfl
 i9:=by kernel_rfl
 i37:=by kernel_rfl
 i127:=by kernel_rfl}
open Go.RowKit in
def Qz.stringslite_Clone (s:ByteArray)(w:zW)(h:s.size<=281474976710656): Calls zq 100 #[aL s] w λe a=>e=aM (aL s)/\zb w a:=Any.stringslite_Clone Qz.Vp s w h
end Go.Proofs
namespace Go.Proofs.Zq
open Go.RowKit Sha
def RA (s)(w)(h:s.size<=1000):Calls zq 85 #[aL s] w λe a=>e=aM (aL s)/\zb w a:=by go_enter (Qz.fn func85),ntmps85;go_wp2_with fail;refine(Qz.stringslite_Clone s w bm).mono ?_;rintro e w2 ⟨rfl,hb⟩;have H:=hid hb;go_wp2;go_ret;exact⟨rfl,H.out⟩
def gV (l:zB):zA:=zAL (l.map λb=>Value.int aQ (b.toNat:Int))
def CX (l)(i)(h:i<l.length):(gV l)[i]? =aA (aC aQ ((l.getD i 0).toNat:Int)):=by simp[gV,h]
def OU (l)(i)(b:UInt8):zAI (gV l) i (aC aQ (b.toNat:Int))=gV (l.set i b):=by apply Array.toList_inj.1;rw[Ng];simp[gV,List.map_set]
def wK (n:Nat):zA:=gV (List.replicate n 0)
def LF (n:Nat)(c:n<=1000)(W):(Instr.makeSlice 50 (aC aD (n)) (aC aD (n))).run zq W= .ok (aK W n n) (zAK W (aJ (wK n) 5)):=by let⟨i,a,h,e,d⟩:=rZ;have:=run_make W 50 5 i (aC aQ 0) j1 a h aD aD (n:Int) (n:Int) bm (Int.le_refl _) ji bm;have b:(madeCells (Value.int aQ 0).cells n)=wK n:=by{apply Array.toList_inj.1;rw[show(Value.int aQ 0).cells= #[Value.int aQ 0]from rfl,toList_madeCells_one];simp[wK,gV]};exact ji
def Je {W:zW}{g:Nat}{l:zB}(h:bT W g 5 (gV l))(c:Nat):(convert 50 9 (aK g (zAH l) c)).run zq W= .ok l W:=gO (P:=zq) W 50 9 5 g 0 c l j1 j1 j1 (λj a=>by rw[Ce,h.cell j];exact CX l j a)
structure bE where
 idx:zB
 val:zB
 gone:Bool
def bE.cells (u:bE):zV:=[aL ⟨zAL u.idx⟩,aL ⟨zAL u.val⟩,.bool u.gone]
def bL (l:List bE):zV:=l.flatMap bE.cells
def qR (u)(l):bL (u::l)=u.cells++bL l:=rfl
theorem qQ (l)(u):bL (l++[u])=bL l++u.cells:=by simp[bL]
theorem cQ (l):zAH (bL l)=zAH l*3:=by induction l with|nil=>rfl|cons u l i=>rw[qR,At,i,Bf];show 3+_=_;exact bm
def gF (l):∀(i)(u),l[i]? =aA u->∀j,j<3->(bL l)[i*3+j]? =u.cells[j]? :=by induction l with|nil=>grind|cons a l b=>intro i u h j c;rw[qR];cases i with|zero=>simp only[Ho,Option.some.injEq]at h;subst h;rw[GN (by show _<3;exact bm)];simp|succ i=>rw[Ec (by show 3<=_;exact bm),show(i+1)*3+j-zAH a.cells=i*3+j by show(i+1)*3+j-3=_;exact bm];exact ji
def pW (u:bE):∀x∈u.cells,x.oneCell'=aF:=by intro x h;simp only[bE.cells,Bb,Bq,Bm]at h;obtain rfl|rfl|rfl:=h<;>rfl
def bO (w:zW)(base:Nat)(v:zY)(l:List bE):Prop:=w.ownsRow base 53 3 v (zAH l) (bL l)
def bO.nil (w)(base):bO w base (aK aB 0 0) []:=World.ownsRow_nil _ _ _ _
def bO.alloc {w base v l}(h:bO w base v l)(o):bO (zAK w o) base v l:=World.ownsRow.alloc h o
theorem bO.lt {w base v l}(h:bO w base v l):∀k,v.ownBlock=aA k->base<=k/\k<w.heap.size:=World.ownsRow.lt h
theorem bO.kept {w w' base v l}(h:bO w base v l)(hk:∀g,v.ownBlock=aA g->w'.heap[g]? =w.heap[g]?):bO w' base v l:=by let⟨b,a⟩:=h;refine⟨b,?_⟩;obtain a|⟨g,cap,cur,rfl,hb,hh,r⟩:=a;{exact ji};.exact td
theorem bO.below {w w':zW}{B base:Nat}{v:zY}{l:List bE}(h:bO w base v l)(b:Below B w w')(c:w.heap.size<=B):bO w' base v l:=h.kept λg a=>b.block g (Ao (h.lt g a).2 c)
def bO.setCell {w:zW}{base:Nat}{v:zY}{l:List bE}(h:bO w base v l)(a:Addr)(u:zY)(c:a.block<base):bO (zAJ w a u) base v l:=h.kept λg b=>Du _ _ _ _ (by have:=(h.lt g b).1;exact bm)
def bO.form {w:zW}{base:Nat}{v:zY}{l:List bE}(h:bO w base v l)(a:0<l.length):∃g cap,v=aK (aA ⟨g,0,aB⟩) l.length cap:=by let⟨g,cap,e,_⟩:=World.ownsRow.form h a;exact ji
def rM:∃i,zq.info? 53=aA i/\i.zero=aA (.agg #[aL ⟨#[]⟩,aL ⟨#[]⟩,aG])/\i.size=3/\i.bytes=40:=by have h:(zq.info? 53).map (λi=>(i.zero,i.size,i.bytes))=aA (aA (.agg #[aL ⟨#[]⟩,aL ⟨#[]⟩,aG]),3,40):=by{kernel_rfl};exact j1
def gQ {W ops rest o a Q}(f:o.guard=aB)(s x)
  (q:o.op= .call ⟨.builtin .append,#[s,x],#[48,48]⟩)
  (base) (v) (l) (hs:a.eval s=v) (b:bO W base v l) (u) (c) (p:a.eval x=aK (aA ⟨W.heap.size,0,aB⟩) 1 c)
  (w:l.length<=1000000) (m:base<=W.heap.size)
  (h:∀g cap w',bO w' base (aK (aA ⟨g,0,aB⟩) (l.length+1) cap) (l++[u])->W.grownBy w' v.ownBlock->wpList zq ops Q rest (a.put o.dst (aK (aA ⟨g,0,aB⟩) (l.length+1) cap)) w'):wpList zq ops Q (o::rest) a (W.alloc (aJ #[aL ⟨u.idx.toArray⟩,aL ⟨u.val.toArray⟩,.bool u.gone] 53)):=by let⟨i,hi,n,e,k⟩:=rM;refine wpList_append_lies _ f s x 48 q base 53 i _ 3 40 j1 hi n e k rfl bm v (zAH l) (bL l) hs (World.ownsRow.alloc b _) W 1 c u.cells p rfl (λj y t=> ?_) (pW u) bm j7 bm j6 _ rfl (λg cap w' z r _ _=>h g cap w' ?_ (dF r));{have d:(W:Addr).add j=(W,j):=r9;rw[d];exact Z1};.unfold bO;grind[List.length_append,qQ]
def cP {w0 w w':zW}{B base:Nat}{v:zY}{l:List bE}(d:Below B w0 w)(h:bO w base v l)(c:w.grownBy w' v.ownBlock)(e:B<=base)(a:B<=w.heap.size):Below B w0 w':=d.grown c a λk b=>Az e (h.lt k b).1
theorem dU:∀a:zB,Lib.compareBytes a a=0
 |[]=>rfl|x::a=>by rw[Bc,AF (aNj x),AF (aNj x)];exact dU a
theorem kD:∀{a b:zB},Bc a b=0->a=b
 |[],[],_=>rfl|[],_::_,h=>by simp[Bc]at h|_::_,[],h=>by simp[Bc]at h|x::a,y::b,h=>by rw[Bc]at h;by_cases d:x<y;{grind};.rw[AF d]at h;by_cases c:y<x;{grind};.rw[AF c]at h;have e:=OA (Lp.1 c) (Lp.1 d);rw[e,kD h]
theorem gE:∀a b:zB,Bc a b= -1\/Bc a b=0\/Bc a b=1
 |[],[]=>aI (aH rfl)|[],_::_=>aH rfl|_::_,[]=>aI (aI rfl)|x::a,y::b=>by rw[Bc];by_cases c:x<y;{grind};.rw[AF c];by_cases h:y<x;{grind};.rw[AF h];exact gE a b
theorem jD:∀a b:zB,Bc b a= -Bc a b
 |[],[]=>rfl|[],_::_=>rfl|_::_,[]=>rfl|x::a,y::b=>by rw[Bc,Bc];by_cases c:x<y;{grind};.by_cases h:y<x;{grind};.simp only[AF h,AF c];exact jD a b
theorem oT:∀{a b c:zB},Bc a b= -1->Bc b c= -1->Bc a c= -1
 |[],[],_,h,_=>by assumption|_::_,[],_,h,_=>by simp[Bc]at h|[],_::_,[],_,h=>by simp[Bc]at h|[],_::_,_::_,_,_=>rfl|_::_,_::_,[],_,h=>by assumption|x::a,y::b,z::c,h1,g=>by rw[Bc]at h1 g⊢;by_cases f:x<y;{grind};.rw[AF f]at h1;by_cases d:y<x;{grind};.rw[AF d]at h1;have e:=OA (Lp.1 d) (Lp.1 f);subst e;by_cases j:x<z;{exact ji};.rw[AF j]at g⊢;by_cases i:z<x;{exact ji};.rw[AF i]at g⊢;exact oT h1 g
def fC (l:List qN):Prop:=l.Pairwise λa b=>Bc a.1 b.1= -1
def GP (l:List qN)(u:bE):List qN:=l.filter (λe=>decide (Bc e.1 u.idx= -1))++((if u.gone then []else [(u.idx,u.val)])++l.filter (λe=>decide (Bc e.1 u.idx=1)))
def dE (l:List qN)(us:List bE):List qN:=us.foldl GP l
def xT {l u}(h:fC l):fC (GP l u):=by unfold GP fC;rw[Ib,Ib];refine⟨h.filter _,⟨?_,h.filter _,?_⟩,?_⟩;{split<;>simp};{intro a d b c;split at d;{cases d};.rw[Cy]at d;subst d;have:=of_decide_eq_true (Bi.1 c).2;rw[jD b.1 u.idx,this]};.intro a d b c;have f:=of_decide_eq_true (Bi.1 d).2;obtain c|c:=Bl.1 c;{exact ji};.have e:=of_decide_eq_true (Bi.1 c).2;grind[oT,jD]
theorem AP {us}:∀{l},fC l->fC (dE l us):=by induction us with|nil=>intro l h;exact h|cons u us i=>intro l h;exact i (xT h)
def fS:Nat->List qN->List qN->Nat->Nat
 |0,_,_,_=>0|f+1,l,w,d=>if zAH l<2\/l=w then 0 else 1+(fS f (cG l d 0) (cG w d 0) (d+1)+fS f (cG l d 1) (cG w d 1) (d+1))
theorem LY (l)(d):zAH (cG l d 0)+zAH (cG l d 1)=zAH l:=by unfold cG;induction l with|nil=>rfl|cons e l i=>grind[List.length_cons,List.filter_cons_of_pos,List.filter_cons_of_neg,qF]
theorem lS:∀(f:Nat)(l w:List qN)(d:Nat),fS f l w d<=f*(zAH l-1)
 |0,_,_,_=>Cw _|f+1,l,w,d=>by rw[fS];split;{omega};{rename_i h;have g:=lS f (cG l d 0) (cG w d 0) (d+1);have e:=lS f (cG l d 1) (cG w d 1) (d+1);have hl:=LY l d;have c:2<=zAH l:=by{omega};generalize(cG l d 0).length=a at*;generalize(cG l d 1).length=b at*;generalize zAH l=n at*;subst hl;have j:(f+1)*(a+b-1)=f*(a+b-1)+(a+b-1):=by{grind};have i:f*(a-1)+f*(b-1)<=f*(a+b-1):=by{rw[<-Nat.mul_add];exact Nat.mul_le_mul_left _ (by omega)};omega}
def zGq (f)(l)(d):fS f l l d=0:=by cases f with|zero=>rfl|succ f=>rw[fS,AE (aI rfl)]
def bN (w:zW)(va:zO)(us:List bE):Prop:=0<us.length->∃g o,va=aA ⟨g,o,aB⟩/\g<w.heap.size/\∀j u,(bL us)[j]? =aA u->w.cell? ⟨g,o+j,aB⟩=aA u
theorem bN.below {w w' B va us}(h:bN w va us)(b:Below B w w')(f:w.heap.size<=B):bN w' va us:=λc=>by obtain⟨g,o,e,a,d⟩:=h c;exact⟨g,o,e,Ao a b.size,by grind[KE]⟩
def bN.idx {w va us}(h:bN w va us)(i)(u)(b:us[i]? =aA u):∃g o,va=aA ⟨g,o,aB⟩/\g<w.heap.size/\w.cell? ⟨g,o+i*3,aB⟩=aA (aL ⟨u.idx.toArray⟩)/\w.cell? ⟨g,o+i*3+1,aB⟩=aA (aL ⟨u.val.toArray⟩)/\w.cell? ⟨g,o+i*3+2,aB⟩=aA (.bool u.gone):=by have hi:=(Bx.1 b).1;let⟨g,o,e,d,a⟩:=h bm;have k:=λj (c:j<3)=>gF us i u b j c;refine⟨g,o,e,d,?_,?_,?_⟩;{exact a (i*3) _ ((k 0 j2).trans rfl)};{rw[Gp];exact a (i*3+1) _ ((k 1 j2).trans rfl)};.rw[Gp];exact a (i*3+2) _ ((k 2 j2).trans rfl)
structure Cut (us:List bE)(d m:Nat):Prop where
 le:m<=us.length
 zero:∀i u,i<m->us[i]? =aA u->cM u.idx d=0
 one:∀i u,m<=i->us[i]? =aA u->cM u.idx d=1
def QZ:∀{a b:zB},zAH a=zAH b->Bc a b= -1->∃j,j<zAH a/\(∀i,i<j->a.getD i 0=b.getD i 0)/\(a.getD j 0).toNat<(b.getD j 0).toNat
 |[],[],_,h=>by simp[Bc]at h|[],_::_,h,_=>by simp at h|_::_,[],h,_=>by simp at h|x::a,y::b,hl,h=>by rw[Bc]at h;by_cases d:x<y;{exact⟨0,by simp,by omega,by assumption⟩};.rw[AF d]at h;by_cases c:y<x;{grind};.rw[AF c]at h;have e:=OA (Lp.1 c) (Lp.1 d);let⟨j,k,f,g⟩:=QZ ji h;refine⟨j+1,j3,λi hi=> ?_,j5⟩;cases i<;>grind
def Ql (x y r)(j:x<256)(g:y<256)(a:r<8)(h:∀i,i<r->x/2^(7-i)%2=y/2^(7-i)%2)(l:x/2^(7-r)%2=1)(m:y/2^(7-r)%2=0):y<x:=by have k:=h;have f:=k 0;have k1:=k 1;have k2:=k 2;have e:=k 3;have d:=k 4;have c:=k 5;have b:=k 6;match r,a with|0,_=>omega|1,_=>grind|2,_=>grind|3,_=>grind|4,_=>grind|5,_=>grind|6,_=>grind|7,_=>exact ji
def Qk (x y)(g:x<256)(f:y<256)(h:∀i,i<8->x/2^(7-i)%2=y/2^(7-i)%2):x=y:=by have e:=h 0;have k1:=h 1;have k2:=h 2;have d:=h 3;have c:=h 4;have b:=h 5;have a:=h 6;have k:=h 7;exact ji
def Qt {a b}(o:zAH a=32)(n:zAH b=32)(h:Bc a b= -1){d}(c:∀i,i<d->cM a i=cM b i)(g:cM a d=1):cM b d=1:=by obtain f|f:=qF b d;{exfalso;let⟨j,m,l,p⟩:=QZ bm h;obtain hlt|rfl|k:=Nat.lt_trichotomy (d/8) j;{have:=l (d/8) hlt;unfold cM at f g;exact ji};{have e:∀i,i<d%8->(a.getD (d/8) 0).toNat/2^(7-i)%2=(b.getD (d/8) 0).toNat/2^(7-i)%2:=λi hi=>by{have:=c (8*(d/8)+i) bm;unfold cM at this;rw[show(8*(d/8)+i)/8=d/8 from bm,show(8*(d/8)+i)%8=i from bm]at this;exact this};have:=Ql _ _ (d%8) (Ni _) (Ni _) bm e g f;exact bm};.have e:∀i,i<8->(a.getD j 0).toNat/2^(7-i)%2=(b.getD j 0).toNat/2^(7-i)%2:=λi hi=>by{have:=c (8*j+i) bm;unfold cM at this;rw[show(8*j+i)/8=j from bm,show(8*j+i)%8=i from bm]at this;exact this};have:=Qk _ _ (Ni _) (Ni _) e;exact bm};.exact f
def aV (us:List bE):List qN:=us.map λu=>(u.idx,u.val)
theorem cH (us):zAH (aV us)=zAH us:=Hj ..
structure Sub (us:List bE)(d:Nat):Prop where
 order:us.Pairwise λa b=>Bc a.idx b.idx= -1
 idx:∀u∈us,u.idx.length=32
 bits:∀a∈us,∀b∈us,∀i,i<d->cM a.idx i=cM b.idx i
def bJ (d b:Nat)(us:List bE):List bE:=us.filter λu=>cM u.idx d==b
theorem cX (us)(d b):aV (bJ d b us)=cG (aV us) d b:=by unfold aV bJ cG;rw[List.filter_map];rfl
def Yb (d:Nat):∀us:List bE,(us.Pairwise λa b=>cM a.idx d=1->cM b.idx d=1)->∃m,Cut us d m/\us.take m=bJ d 0 us/\us.drop m=bJ d 1 us
 |[],_=>⟨0,⟨je _,by omega,by grind⟩,rfl,rfl⟩|u::us,h=>by let⟨n,j⟩:=Gg.1 h;obtain f|f:=qF u.idx d;{obtain⟨m,c,l,k⟩:=Yb d us j;refine⟨m+1,⟨by have:=c.le;exact j3,λi v hi g=> ?_,λi v hi g=> ?_⟩,?_,?_⟩;{cases i with|zero=>grind|succ i=>exact c.zero i v bm j5};{cases i with|zero=>omega|succ i=>exact c.one i v bm j5};{rw[Ia,l,bJ,bJ,Hp (by rw[f];rfl)]};.rw[Hz,k,bJ,bJ,Ii ji]};.have e:∀v∈u::us,cM v.idx d=1:=ji;refine⟨0,⟨Cw _,bm,ji⟩,?_,?_⟩;{rw[Fy,bJ,JW.2];grind};{rw[Gq,bJ,Mi.2];grind}
def Sub.half {us d}(h:Sub us d)(b):Sub (bJ d b us) (d+1):=by refine⟨h.order.filter _,λu l=>h.idx u (Bi.1 l).1,λx k y g i hi=> ?_⟩;let⟨c,j⟩:=Bi.1 k;let⟨a,f⟩:=Bi.1 g;by_cases e:i=d;{exact ji};.exact h.bits x c y a i bm
theorem Sub.cut {us:List bE}{d:Nat}(h:Sub us d):∃m,Cut us d m/\us.take m=bJ d 0 us/\us.drop m=bJ d 1 us:=Yb d us (h.order.imp_of_mem λ{a b} e hb c h1=>Qt (h.idx a e) (h.idx b hb) c (h.bits a e b hb) h1)
def Sub.deep {us d}(h:Sub us d)(f:2<=zAH us):d<256:=by match us,f with|a::b::us,_=>obtain c|c:=Gn d 256;{exact c};{exfalso;have e:=Lb (h.idx a j0) (h.idx b j0) λi hi=>h.bits a j0 b j0 i bm;have:=(Gg.1 h.order).1 b j0;rw[e,dU]at this;cases this}
def pM (us)(d):zAH (bJ d 0 us)+zAH (bJ d 1 us)=zAH us:=by have:=LY (aV us) d;rw[<-cX,<-cX,cH,cH,cH]at this;exact this
def OV (k d):cR k [] d=dg k [0]:=by unfold cR;cases 256-d<;>rfl
theorem CY (k d)(e):cR k [e] d=dg k (LL k e):=by unfold cR;cases 256-d<;>rfl
theorem JD (k d)(l)(h:2<=zAH l)(c:d<256):cR k l d=dg k (2::(cR k (cG l d 0) (d+1)++cR k (cG l d 1) (d+1))):=by unfold cR;rw[show 256-d=(256-(d+1))+1 from bm];match l,h with|a::b::l,_=>rfl
def jI (k d)(l)(hk:k<=32):zAH (cR k l d)=k:=iN k _ hk
def addr_add (g o j):(⟨g,o,aB⟩:Addr).add j=⟨g,o+j,aB⟩:=r9
def bN.part {w va us}(h:bN w va us)(m):bN w va (us.take m):=λd=>by
 obtain⟨g,o,e,a,b⟩:=h (by grind);refine⟨g,o,e,a,λj u c=>b j u ?_⟩;have f:bL us=bL (us.take m)++bL (us.drop m):=by rw[bL,bL,bL,<-Lx,GO]
 grind
def bN.rest {w va vb us}(h:bN w va us)(m)(d:m<us.length->vb=va.map λx=>x.add (m*3)):bN w vb (us.drop m):=λf=>by
 rw[GL]at f;obtain⟨g,o,e,b,c⟩:=h (by omega);subst e;refine⟨g,o+m*3,(d (by omega)).trans (by rw[Fz,addr_add]),b,λj u a=> ?_⟩;rw[Gp];refine c (m*3+j) u ?_;have i:bL us=bL (us.take m)++bL (us.drop m):=by rw[bL,bL,bL,<-Lx,GO]
 rw[i,Ec (by rw[cQ,Ds];omega),cQ,Ds,show m*3+j-min m us.length*3=j by omega];exact a
open Go
@[simp]theorem aBS:zq.stoodInHeld 76=aG:=c9
@[simp]theorem aDR:zq.eqGuardType zq.depth 76=aG:=c9
@[simp]theorem aBT:zq.stoodInHeld 53=aG:=c9
@[simp]theorem aDS:zq.eqGuardType zq.depth 53=aG:=c9
open Go Go.RowKit Sha Go.Ga Go.Ren
def Qu (us:List bE)(d b t:Nat)(h:t<zAH us):bJ d b (us.take (t+1))=bJ d b (us.take t)++(if cM us[t].idx d=b then [us[t]]else []):=by unfold bJ;rw[Hg,Be h,Ht];exact ji
def uS (va:zO)(us:List bE)(c d b:Nat)(w:zW)(G:bN w va us)(N:us.length<=1000000)(tU:∀u∈us,u.idx.length=32)(T:d<256)(U:b<=1):
  Calls zq 74 #[aK va us.length c,d,b] w λe m=>∃v,e=aM v/\bO m w v (bJ d b us)/\zb w m:=by
 have Q:=hid G;have C:=hid tU;obtain⟨n,f⟩:=zzx us.length;have A:=hid f;rw[<-f]at N⊢;clear G tU f;go_enter (Qz.fn func74),ntmps74;go_wp2;go_loopg [7,8] n (λq x i wr=>∃t:Nat,t+q=n/\i=aC aD t/\zb w wr/\bO wr w x (bJ d b (us.take t)));case atStart=>exact⟨0,bm,rfl,Av _ _,bO.nil _ _⟩
 case round=>
  obtain⟨t,R,rfl,J,D⟩:=hrel
  have B:=hid J
  have O:=hid D
  clear J D
  by_cases hlt:t<n
  .have h:t<us.length:=by have:=A.out;omega
   have E:=Be (l:=us) (i:=t) h;have H:=hid (Qu us d b t h);have tU:=C.out us[t] (Fp _);have s:(bJ d b (us.take t)).length<=1000000:=by have X:=Ex (λu:bE=>cM u.idx d==b) (us.take t);have W:(us.take t).length<=us.length:=E7;have V:=A.out;show(List.filter _ _).length<=_;omega
   generalize us[t]=u at*;obtain⟨a,K,M⟩:=u;dsimp only at*;generalize bJ d b (us.take t)=L at*;obtain⟨g,o,rfl,S,c0,c1,c2⟩:=(Q.out.below B.out (je _)).idx t _ E;clear E;go_wp2_with fail;refine(Lc ⟨a.toArray⟩ d wr (by show d/8<a.toArray.size;simp only[Dq];exact bm) (by show a.toArray.size<=_;simp only[Dq];exact bm) bm).mono ?_;rintro e w1 ⟨rfl,p⟩;subst p;have k:cM (⟨a.toArray⟩:ByteArray).data.toList d=cM a d:=rfl;(try rw[k]);clear k;dsimp only;by_cases F:cM a d=b
   .have y:(cM a d:Int)=(b:Int):=bm;have z:=B.out.size;rw[AE F]at H;go_wp2_with (at_builtin;refine gQ rfl _ _ rfl w _ _ rfl O.out ⟨a,K,M⟩ 1 rfl s z ?_;intro Y I m j r);go_roundg (n-(t+1));case measure=>go_light;omega
    case rel=>go_light;exact⟨t+1,bm,j9,cP B.out O.out r (je _) B.out.size,by rw[H.out];exact j⟩
   .have y:¬((cM a d:Int)=(b:Int)):=bm;rw[AF F,Bj]at H;go_wp2;go_roundg (n-(t+1));case measure=>go_light;omega
    case rel=>go_light;exact⟨t+1,bm,j9,B.out,by rw[H.out];exact O.out⟩
  .obtain rfl:t=n:=bm;have P:Hid (us.take t=us):=by{show _=_;rw[A.out,Fq]};go_wp2;go_ret;exact⟨_,rfl,by rw[<-P.out];exact O.out,B.out⟩
def zEl {us vs:List bE}{t:Nat}(h:us.take t=vs.take t)(a:t<zAH us)(d:t<zAH vs):us.take (t+1)=vs.take (t+1)↔us[t]=vs[t]:=by have c:us.take (t+1)=us.take t++[us[t]]:=by{rw[Hg,Be a];rfl};have b:vs.take (t+1)=vs.take t++[vs[t]]:=by{simp_all};rw[c,b,h];exact⟨λe=>(Fj (List.append_cancel_left e)).1,ji⟩
noncomputable def af (us vs:List bE):Bool:= @decide (us=vs) (OC _)
theorem TY {us vs:List bE}(h:us=vs):af us vs=aF:= @Dz _ (OC _) h
def IM {us vs:List bE}(h:us≠vs):af us vs=aG:= @Dr _ (OC _) h
def RZ {a b:bE}:a=b↔(a.idx=b.idx/\a.val=b.val/\a.gone=b.gone):=by cases a;cases b;exact j0
def XD (va vb:zO)(us vs:List bE)(ca cb:Nat)(w:zW)(z:bN w va us)(y:bN w vb vs)(J:zAH us<=1000000)(K:zAH vs<=1000000): Calls zq 106 #[aK va (zAH us) ca,aK vb (zAH vs) cb] w λe E=>e=aM (.bool (af us vs))/\zb w E:=by by_cases hl:zAH us=zAH vs;rotate_left;{have L:¬((zAH us:Int)=zAH vs):=bm;have r:Hid (us≠vs):=λe=>hl (by rw[e]);go_enter (Qz.fn func106),ntmps106;go_wp2;go_ret;exact⟨by rw[IM r.out];rfl,Av _ _⟩};have Q:=hid z;have P:=hid y;let⟨n,a⟩:=zzx (zAH us);have x:=hid a;have C:=hid (a.trans hl);rw[<-hl,<-a];rw[<-a]at J;clear z y hl a K;go_enter (Qz.fn func106),ntmps106;go_wp2;go_loopg [5] n (λq i wr=>∃t:Nat,t+q=n/\i=aC aD t/\zb w wr/\us.take t=vs.take t);(case atStart=>exact⟨0,bm,rfl,Av _ _,rfl⟩);case round=>obtain⟨t,W,rfl,N,F⟩:=hrel;have B:=hid N;have O:=hid F;by_cases hlt:t<n;{have c:t<zAH us:=by{have:=x.out;exact bm};have b:t<zAH vs:=by{have:=C.out;exact bm};have I:=Be c;have G:=Be b;have S:=hid (zEl O c b);have H:Hid (us[t]≠vs[t]->us≠vs):=λh e=>h (by subst e;rfl);generalize us[t]=u at*;generalize vs[t]=v at*;let⟨j,l,p⟩:=u;let⟨f,k,m⟩:=v;obtain⟨g,o,rfl,X,c0,c1,c2⟩:=(Q.below B (je _)).idx t _ I;obtain⟨Y,V,rfl,M,d0,d1,Z⟩:=(P.below B (je _)).idx t _ G;go_upto_region 6 with(fail);have D:=hid B.drew;have T:Hid (¬(j=f/\l=k/\p=m)->af us vs=aG):=λh=>IM (H λe=>h (RZ.1 e));rcases(show(j=f/\l=k/\p=m)\/j≠f\/(j=f/\l≠k)\/(j=f/\l=k/\p≠m) by by_cases d:j=f;{by_cases s:l=k;{by_cases A:p=m;{exact aH ⟨d,s,A⟩};.exact aI (aI (aI ⟨d,s,A⟩))};.exact aI (aI (aH ⟨d,s⟩))};.exact aI (aH d))with⟨rfl,rfl,rfl⟩|d|⟨rfl,d⟩|⟨rfl,rfl,d⟩;{have U:=hid (S.2 rfl);go_region;all_goals go_wp2;go_roundg (n-(t+1));(case measure=>go_light;omega);case rel=>go_light;exact⟨t+1,bm,j9,D,U⟩};all_goals have hF:=hid (T (by simp[d]));go_region;all_goals go_wp2;go_ret;exact⟨by rw[hF.out];rfl,D⟩};.obtain rfl:t=n:=by{omega};have R:Hid (us=vs):=by{have:=O.out;rw[x.out,Fq,<-x.out,C.out,Fq]at this;exact this};go_wp2;go_ret;exact⟨by rw[TY R.out];rfl,B⟩
def eN {l a I}:fV (a::l) I=if a.1=I then aA a.2 else fV l I:=Q6
theorem vQ:∀{l m:List qN},fC l->fC m->(∀I,fV l I=fV m I)->l=m
 |[],[],_,_,_=>rfl|[],b::m,_,_,h=>by have:=h b.1;rw[eN,AE rfl]at this;cases this|a::l,[],_,_,h=>by have:=h a.1;rw[eN,AE rfl]at this;cases this|a::l,b::m,hl,hm,h=>by unfold fC at hl hm;rw[Gg]at hl hm;have d:∀{x:qN}{r:List qN},(∀e∈r,Bc x.1 e.1= -1)->∀e∈r,e.1≠x.1:=by{grind[dU]};have f:a.1=b.1:=by{obtain c|c|c:=gE a.1 b.1;{exfalso;have:=h a.1;rw[eN,AE rfl,eN,AF (λe=>ji),iM]at this;{cases this};.intro e g j;have n:=hm.1 e g;grind[jD]};{exact kD c};.exfalso;have:=h b.1;rw[eN (a:=b),AE rfl,eN,AF (λe=>by rw[e,dU]at c;cases c),iM]at this;all_goals grind};have i:a.2=b.2:=by{have:=h a.1;rw[eN,AE rfl,eN,AE f.symm]at this;grind};have g:=Prod.ext f i;subst g;rw[vQ hl.2 hm.2 λI=> ?_];have:=h I;rw[eN,eN]at this;by_cases k:a.1=I;{subst k;rw[iM (d hl.1),iM (d hm.1)]};exact ji
def get_append (l m)(I):fV (l++m) I=(fV l I).or (fV m I):=Q6
theorem get_filter {l q I}(h:∀e,e.1=I->q e=aF):fV (l.filter q) I=fV l I:=by induction l with|nil=>rfl|cons a l i=>by_cases b:a.1=I;{rw[Hp (h a b),eN,eN,AE b,AE b]};.rw[eN,AF b];cases c:q a with|true=>rw[Hp c,eN,AF b,i]|false=>exact ji
def get_put (l)(u)(I):fV (GP l u) I=if u.idx=I then(if u.gone then aB else aA u.val)else fV l I:=by unfold GP;rw[get_append,get_append];by_cases h:u.idx=I;{subst h;rw[AE rfl,iM (λe b a=>by have:=of_decide_eq_true (Bi.1 b).2;grind[dU]),iM (l:=l.filter λe=>decide (Bc e.1 u.idx=1)) (λe b a=>by have:=of_decide_eq_true (Bi.1 b).2;grind[dU])];cases u.gone;{simp[eN]};{simp[fV]}};.rw[AF h];have d:fV (if u.gone then []else [(u.idx,u.val)]) I=aB:=by{split;{rfl};{rw[eN,AF h];rfl}};rw[d];obtain c|c|c:=gE I u.idx;{grind[iM,get_filter]};{exact absurd (kD c).symm h};grind[iM,get_filter]
def Diff (cs:List bE)(l w:List qN):Prop:=∀u∈cs,fV l u.idx≠fV w u.idx
def QP (l)(d b)(I):fV (cG l d b) I=if cM I d=b then fV l I else aB:=by split;{rename_i h;exact get_filter ji};.rename_i h;unfold fV;cases a:(cG l d b).find? λe=>e.1==I with|none=>rfl|some e=>exfalso;have c:=List.mem_of_find?_eq_some a;have g:=List.find?_some a;have f:=(Bi.1 c).2;exact ji
def Diff.half {cs l w}(h:Diff cs l w)(d b):Diff (bJ d b cs) (cG l d b) (cG w d b):=λu c=>by let⟨e,a⟩:=Bi.1 c;rw[QP,QP,AE (Hc.1 a),AE (Hc.1 a)];exact h u e
theorem Diff.ne {cs l w}(h:Diff cs l w)(a:0<zAH cs):l≠w:=λe=>by subst e;match cs,a with|u::cs,_=>exact h u ji rfl
def eQ (l w:List qN):Nat:=zAH (l.filter λe=> !w.contains e)
theorem pF (l w)(d):eQ (cG l d 0) (cG w d 0)+eQ (cG l d 1) (cG w d 1)=eQ l w:=by have h:∀b,(cG l d b).filter (λe=> !(cG w d b).contains e)=cG (l.filter λe=> !w.contains e) d b:=λb=>by{unfold cG;rw[JP,JP];grind};unfold eQ;grind[LY]
def BV:∀{l:List qN}{I v:zB},fC l->(I,v)∈l->fV l I=aA v
 |[],_,_,_,h=>by cases h|a::l,I,v,b,h=>by let⟨d,c⟩:=Gg.1 b;rw[eN];obtain rfl|h:=Bb.1 h;{grind};{have:=d _ h;rw[AF (λe=>by grind[dU])];exact BV c h}
def dZ (l w:List qN)(d:Nat):Nat:=eQ l w+fS (256-d) l w d
def aM5 {u cs w d}(b:fC w)(h:Diff cs (aV [u]) w){c}(f:c∈cs)(hi:c.idx=u.idx):1<=dZ (aV [u]) w d:=by have a:=h c f;rw[hi]at a;have g:fV (aV [u]) u.idx=aA u.val:=by{show fV [(u.idx,u.val)] u.idx=_;rw[eN,AE rfl]};rw[g]at a;have j:w.contains (u.idx,u.val)=aG:=by{rw[Lm];intro e;rw[List.contains_iff_mem]at e;exact a (BV b e).symm};have i:eQ (aV [u]) w=1:=by{show([(u.idx,u.val)].filter _).length=1;grind};unfold dZ;exact bm
def aM6 {us cs w d}(h:Diff cs (aV us) w)(a:2<=zAH us)(c:0<zAH cs)(b:d<256): 1+(dZ (aV (bJ d 0 us)) (cG w d 0) (d+1)+dZ (aV (bJ d 1 us)) (cG w d 1) (d+1))=dZ (aV us) w d:=by rw[cX,cX];unfold dZ;rw[show 256-d=(256-(d+1))+1 from bm,fS,AF (λe=>by grind[cH,Diff.ne]),<-pF (aV us) w d];exact bm
def mX (l:List bE):Prop:=l.Pairwise λa b=>Bc a.idx b.idx= -1
def lU (I:zB)(l:List bE):List bE:=l.filter λu=>decide (Bc u.idx I= -1)
def fU (I:zB)(l:List bE):List bE:=l.filter λu=>decide (Bc u.idx I=1)
def Ch {I l}(h:∀x∈l,Bc x.idx I=1):lU I l=[]/\fU I l=l:=by constructor;{unfold lU;exact j1};.unfold fU;exact j1
theorem Bg {a b}(h:Bc a b= -1):Bc b a=1:=by rw[jD a b,h];rfl
def DF (I:zB):∀l:List bE,mX l->(∃x,x.idx=I/\l=lU I l++x::fU I l)\/(l=lU I l++fU I l/\∀x∈l,x.idx≠I)
 |[],_=>aI ⟨rfl,by grind⟩|a::l,i=>by let⟨m,k⟩:=Gg.1 i;obtain h|h|h:=gE a.idx I;{have f:lU I (a::l)=a::lU I l:=by{unfold lU;exact ji};have d:fU I (a::l)=fU I l:=by{unfold fU;exact ji};rw[f,d];obtain⟨x,b,e⟩|⟨e,j⟩:=DF I l k;{grind};.refine aI ⟨ji,λx b=> ?_⟩;obtain rfl|b:=Bb.1 b;{grind[dU]};exact ji};{have e:=kD h;let⟨c,g⟩:=Ch (I:=I) (l:=l) λx b=>by{rw[<-e];exact Bg (m x b)};have f:lU I (a::l)=[]:=by{unfold lU at c⊢;exact ji};have d:fU I (a::l)=l:=by{unfold fU at g⊢;exact ji};exact ji};.have n:Bc I a.idx= -1:=by{rw[jD a.idx I,h]};let⟨c,g⟩:=Ch (I:=I) (l:=a::l) λx b=>by{obtain rfl|b:=Bb.1 b;{exact h};grind[Bg,oT]};exact ji
def BN (u:bE):bE:=⟨u.idx,u.val,aG⟩
def gJ (l:List bE)(u:bE):List bE:=lU u.idx l++((if u.gone then []else [BN u])++fU u.idx l)
def AO (l)(u):aV (gJ l u)=GP (aV l) u:=by have h:∀q:qN->Bool,aV (l.filter λx=>q (x.idx,x.val))=(aV l).filter q:=λq=>by{unfold aV;rw[List.filter_map];rfl};unfold gJ GP;rw[<-h,<-h];unfold aV lU fU;rw[Gr,Gr];cases u.gone<;>rfl
structure CP (l:List bE):Prop where
 sub:Sub l 0
 val:∀u∈l,u.val.length<=100
 here:∀u∈l,u.gone=aG
def CP.nil:CP []:=⟨⟨List.Pairwise.nil,by grind,by omega⟩,by grind,by grind⟩
def CP.put {l}(h:CP l){u}(hi:zAH u.idx=32)(d:zAH u.val<=100):CP (gJ l u):=by have b:∀x∈gJ l u,x∈l\/(u.gone=aG/\x=BN u):=λx a=>by{obtain a|a:=Bl.1 a;{exact aH (Bi.1 a).1};.obtain a|a:=Bl.1 a;{exact ji};.exact aH (Bi.1 a).1};have e:mX (gJ l u):=by{have c:fC (GP (aV l) u):=xT (Gv.2 h.sub.order);rw[<-AO]at c;exact Gv.1 c};refine⟨(⟨e,(λx a=> ?_),bm⟩),λx a=> ?_,λx a=> ?_⟩;{obtain a|⟨_,rfl⟩:=b x a;{exact h.sub.idx x a};.exact hi};{obtain a|⟨_,rfl⟩:=b x a;{exact h.val x a};.exact d};.obtain a|⟨_,rfl⟩:=b x a;{exact h.here x a};.rfl
def bC (l us:List bE):List bE:=us.foldl gJ l
theorem uM:∀(us l:List bE),aV (bC l us)=dE (aV l) us
 |[],_=>rfl|u::us,l=>by show aV (bC (gJ l u) us)=dE (GP (aV l) u) us;rw[uM us,AO]
def CP.dE:∀{us l:List bE},CP l->(∀u∈us,zAH u.idx=32/\zAH u.val<=100)->CP (bC l us)
 |[],_,h,_=>h|u::us,l,h,hu=>by show CP (bC (gJ l u) us);exact CP.dE (h.put (by grind) (by grind)) (by grind)
theorem CP.same {l m}(h:CP l)(c:CP m)(e:aV l=aV m):l=m:=by
 have d:∀{x:List bE},CP x->x=(aV x).map λe=>⟨e.1,e.2,aG⟩:=λ{x} a=>by
  unfold aV;rw[KI];conv=>lhs;rw[<-List.map_id x]
  apply List.map_congr_left;intro u b;have:=a.here u b;cases u;exact ji
 exact ji
def ZA:∀a b:zB,Op.bytesLess a b=decide (Bc a b= -1)
 |[],[]=>rfl|[],_::_=>rfl|_::_,[]=>rfl|a::x,b::y=>by have i:=ZA x y;unfold Op.bytesLess Bc;exact ji
def eZ (us:List bE)(u:bE)(t:Nat):Bool:=u.gone||(us.take t).any λx=>decide (Bc x.idx u.idx≠-1)
def jV (us:List bE)(u:bE)(t:Nat):List bE:=lU u.idx (us.take t)++((if u.gone|| !eZ us u t then []else [u])++fU u.idx (us.take t))
section
variable {us:List bE}{u:bE}{t:Nat}
def dt (a:u.gone=aG->BN u=u):gJ us u=if eZ us u (zAH us) then jV us u (zAH us) else jV us u (zAH us)++[u]:=by unfold jV gJ;rw[Fq];cases h:u.gone with|true=>simp[eZ,h]|false=>rw[a h];cases hl:eZ us u (zAH us) with|true=>simp|false=>have hh:fU u.idx us=[]:=by{refine JW.2 λx c=> ?_;have b:=hl;unfold eZ at b;grind};simp[hh]
def xN (f:mX us)(h:t<zAH us)(g:Bc us[t].idx u.idx≠1):∀x∈us.take t,Bc x.idx u.idx= -1:=λx d=>by let⟨j,a⟩:=NY d;rw[GK]at a;split at a;{rename_i b;let⟨c,e⟩:=Bx.1 a;have i:=Ns.1 f j t c h b;grind[kD,gE,oT]};.cases a
def Jw (a:mX us)(h:t<zAH us)(b:Bc us[t].idx u.idx≠1):eZ us u t=u.gone/\jV us u t=us.take t:=by have d:=xN a h b;have c:eZ us u t=u.gone:=by{unfold eZ;grind};refine⟨c,?_⟩;have f:lU u.idx (us.take t)=us.take t:=Mi.2 ji;have e:fU u.idx (us.take t)=[]:=JW.2 ji;unfold jV;exact ji
def iB (h:t<zAH us):us.take (t+1)=us.take t++[us[t]]:=j1
def dr (b:mX us)(h:t<zAH us)(c:Bc us[t].idx u.idx= -1):eZ us u (t+1)=u.gone/\jV us u (t+1)=us.take t++[us[t]]:=by have f:=xN b h (by rw[c];exact j2);have d:∀x∈us.take (t+1),Bc x.idx u.idx= -1:=λx a=>by{rw[iB h]at a;grind};have e:eZ us u (t+1)=u.gone:=by{unfold eZ;grind};refine⟨e,?_⟩;have i:lU u.idx (us.take (t+1))=us.take (t+1):=Mi.2 ji;have g:fU u.idx (us.take (t+1))=[]:=JW.2 ji;unfold jV;exact j1
def Us (c:mX us)(h:t<zAH us)(a:Bc us[t].idx u.idx=0):eZ us u (t+1)=aF/\jV us u (t+1)=us.take t++(if u.gone then []else [u]):=by have e:=xN c h (by rw[a];exact j2);have d:eZ us u (t+1)=aF:=by{unfold eZ;rw[iB h,List.any_append];simp[a]};refine⟨d,?_⟩;have g:lU u.idx (us.take (t+1))=us.take t:=by{unfold lU;rw[iB h,Ht,Mi.2 λx b=>ji,Ii ji];simp};have f:fU u.idx (us.take (t+1))=[]:=by{unfold fU;rw[iB h,Ht,JW.2 λx b=>ji,Ii ji];rfl};unfold jV;exact ji
def Ur (h:t<zAH us)(b:Bc us[t].idx u.idx=1):eZ us u (t+1)=aF/\jV us u (t+1)=(if eZ us u t then jV us u t else jV us u t++[u])++[us[t]]:=by have a:eZ us u (t+1)=aF:=by{unfold eZ;rw[iB h,List.any_append];simp[b]};refine⟨a,?_⟩;have e:lU u.idx (us.take (t+1))=lU u.idx (us.take t):=by{unfold lU;rw[iB h,Ht,Ii ji];simp};have d:fU u.idx (us.take (t+1))=fU u.idx (us.take t)++[us[t]]:=by{unfold fU;rw[iB h,Ht,Hp ji];simp};unfold jV;rw[a,e,d];cases hl:eZ us u t with|true=>grind|false=>have g:u.gone=aG:=by{unfold eZ at hl;grind};have hh:fU u.idx (us.take t)=[]:=JW.2 λx f=>by{have c:=hl;unfold eZ at c;grind};exact ji
end
def di (va:zO)(us:List bE)(c:Nat)(u:bE)(w:zW)(hE:bN w va us)(ho:mX us)(hn:us.length<=100000)(hk:u.gone=aG->BN u=u):
  Calls zq 92 #[aK va us.length c,.agg #[u.idx,u.val,.bool u.gone]] w λe w'=>∃v,e=aM v/\bO w' w v (gJ us u)/\zb w w':=by
 have HE:=hid hE;have HO:=hid ho;have HA:Hid (gJ us u=if eZ us u us.length then jV us u us.length else jV us u us.length++[u]):=dt hk;obtain⟨n,qg⟩:=zzx us.length;have HN:=hid qg;rw[<-qg]at hn HA⊢;generalize gJ us u=PU at*;have HL:Hid (∀t,(jV us u t).length<=2*n+1):=λt=>by have h1:=Ex (λx:bE=>decide (Bc x.idx u.idx= -1)) (us.take t);have h2:=Ex (λx:bE=>decide (Bc x.idx u.idx=1)) (us.take t);have h3:(us.take t).length<=n:=E7;unfold jV lU fU;simp only[At];split<;>simp<;>omega
 obtain⟨I,b,a⟩:=u;dsimp only at*;have b0:Hid (zb w (w.alloc (aJ #[I,b,a] 53))):=(Av _ _).alloc (je _) _;have k0:Hid (bT (w.alloc (aJ #[I,b,a] 53)) w.heap.size 53 #[I,b,a]):=bT.new _ _ _;have hz0:(w.alloc (aJ #[I,b,a] 53)).heap.size=w.heap.size+1:=size_alloc _ _;have HG:Hid (eZ us ⟨I,b,a⟩ 0=a/\jV us ⟨I,b,a⟩ 0=[]):=by show _/\_;unfold jV eZ lU fU;cases a<;>exact⟨rfl,rfl⟩
 clear hE ho qg hk;go_enter (Qz.fn func92),ntmps92;go_upto_region 2 with(fail)
 have q2:(w.alloc (aJ #[I,b,a] 53)).cell? (w,2)=aA (.bool a):=by rw[k0.out.cell];rfl
 generalize w.alloc (aJ #[I,b,a] 53)=w0 at*;go_wp2;clear q2;go_loopg [5,6,7] n (λq x y i wr=>∃t:Nat,t+q=n/\i=aC aD t/\y= .bool (eZ us ⟨I,b,a⟩ t)/\zb w wr/\Below (w.heap.size+1) w0 wr/\bO wr (w.heap.size+1) x (jV us ⟨I,b,a⟩ t));case atStart=>exact⟨0,bm,rfl,by rw[HG.out.1],b0.out,Av _ _,by rw[HG.out.2];exact bO.nil _ _⟩
 case round=>
  obtain⟨t,ht,rfl,rfl,b2,b3,o2⟩:=hrel
  have B2:=hid b2
  have B3:=hid b3
  have O2:=hid o2
  have K2:Hid (bT wr w 53 #[I,b,a]):=(b3.block w (aNh _)).trans k0.out
  have ae:w.heap.size+1<=wr.heap.size:=by rw[<-hz0];exact b3.size
  clear b2 b3 o2
  have M:wr.cell? w=aA (I:zY):=by rw[K2.out.cell];rfl
  by_cases hlt:t<n
  .have s:t<us.length:=by have:=HN.out;omega
   have hu:=Be (l:=us) (i:=t) s;have tx:=HL.out t;have HLo:Hid (Bc us[t].idx I= -1->eZ us ⟨I,b,a⟩ t=a/\jV us ⟨I,b,a⟩ t=us.take t/\eZ us ⟨I,b,a⟩ (t+1)=a/\jV us ⟨I,b,a⟩ (t+1)=us.take t++[us[t]]):=λf=>by have h1:=Jw (u:=⟨I,b,a⟩) HO.out s (by rw[f];exact j2);have h2:=dr (u:=⟨I,b,a⟩) HO.out s f;exact⟨h1.1,h1.2,h2.1,h2.2⟩
   have HHe:Hid (Bc us[t].idx I=0->eZ us ⟨I,b,a⟩ t=a/\jV us ⟨I,b,a⟩ t=us.take t/\eZ us ⟨I,b,a⟩ (t+1)=aF/\jV us ⟨I,b,a⟩ (t+1)=us.take t++(if a then []else [⟨I,b,a⟩])):=λf=>by have h1:=Jw (u:=⟨I,b,a⟩) HO.out s (by rw[f];exact j2);have h2:=Us (u:=⟨I,b,a⟩) HO.out s f;exact⟨h1.1,h1.2,h2.1,h2.2⟩
   have HHi:Hid (Bc us[t].idx I=1->eZ us ⟨I,b,a⟩ (t+1)=aF/\jV us ⟨I,b,a⟩ (t+1)=(if eZ us ⟨I,b,a⟩ t then jV us ⟨I,b,a⟩ t else jV us ⟨I,b,a⟩ t++[⟨I,b,a⟩])++[us[t]]):=λf=>Ur (u:=⟨I,b,a⟩) s f;generalize us[t]=x at*;obtain⟨k,U,V⟩:=x;dsimp only at*;obtain⟨g,o,rfl,hg,c0,c1,c2⟩:=(HE.out.below B2.out (je _)).idx t _ hu;have d:=ZA k I;have HUX:=hid hu;clear hu;have HU:Hid (∀W,Below (w.heap.size+1) w0 W->W.cell? w=aA (I:zY)/\W.heap[w.heap.size]? =aA (aJ #[I,b,a] 53 (0,0))):=λW hW=>by have:=(hW.block w (aNh _)).trans k0.out;exact⟨by rw[Eh W _ 0 _ _ (0,0) this];rfl,this⟩
   have HX:Hid (∀W,zb w W->W.cell? (g,o+t*3)=aA (k:zY)/\W.cell? (g,o+t*3+1)=aA (U:zY)/\W.cell? (g,o+t*3+2)=aA (.bool V)):=λW hW=>by obtain⟨g',o',e,_,d0,d1,d2⟩:=(HE.out.below hW (je _)).idx t _ HUX.out;injection e with e;injection e with K e2;subst K;subst e2;exact⟨d0,d1,d2⟩
   clear HE c1 c2 k0;have Kd:∃X:Bool,eZ us ⟨I,b,a⟩ t=X/\∃L2,eZ us ⟨I,b,a⟩ (t+1)=(X|| !Op.bytesLess k I)/\jV us ⟨I,b,a⟩ (t+1)=L2/\L2=(if X||Op.bytesLess k I then jV us ⟨I,b,a⟩ t else jV us ⟨I,b,a⟩ t++[⟨I,b,a⟩])++(if k=I then []else [⟨k,U,V⟩]):=by
    refine⟨_,rfl,_,?_,rfl,?_⟩
    .obtain f|f|f:=gE k I
     .obtain⟨K,e2,T,S⟩:=HLo.out f;rw[K,T,d,f];cases a<;>rfl
     .obtain⟨K,e2,T,S⟩:=HHe.out f;rw[K,T,d,f];cases a<;>rfl
     .rw[(HHi.out f).1,d,f];exact j0
    .obtain f|f|f:=gE k I
     .obtain⟨K,e2,T,S⟩:=HLo.out f;have TR:k≠I:=λe=>by{rw[e,dU]at f;cases f};rw[K,e2,S,d,f,AF TR];exact j0
     .obtain⟨K,e2,T,S⟩:=HHe.out f;rw[K,e2,S,d,f,AE (kD f)];cases a<;>simp
     .have TR:k≠I:=λe=>by{rw[e,dU]at f;cases f};rw[(HHi.out f).2,d,f,AF TR];exact j0
   obtain⟨X,hlb,L2,T,S,e5⟩:=Kd;have O:=hid S;have N:=hid T;have hex:(k=I/\Op.bytesLess k I=aG)\/k≠I:=by by_cases e:k=I;{left;refine⟨e,?_⟩;rw[d,e,dU];rfl};{exact aI e}
   clear HLo HHe HHi d T S;rw[hlb];clear hlb;generalize jV us ⟨I,b,a⟩ t=L at*;generalize Wi:Op.bytesLess k I=bl at*;have P:=hid e5;clear e5;cases X<;>cases bl;all_goals
    go_upto_region 6 with(fail)
    go_quiet (fail)
    have D2:=hid (below_drewN B2.out nq)
    have D3:=hid (below_drewN B3.out nq)
    have D4:Hid (bO (wr.drewN nq) (w.heap.size+1) u5 L):=O2.out.kept λ_ _=>rfl
    have C:w.heap.size+1<=(wr.drewN nq).heap.size:=ae
    generalize wr.drewN nq=A at*
    clear B2 B3 O2 c0 M
    have hux:=HU.out A D3.out
    have B:L.length<=1000000:=bm
   rotate_left;all_goals try
    have F:Hid (L2=L++(if k=I then []else [⟨k,U,V⟩])):=P.out
    have hl3:L.length<=1000000:=B
    have E4:=hid D4.out
    have R:=hid D2.out
    have J:=hid D3.out
    have E:w.heap.size+1<=A.heap.size:=C
    clear P D4 D2 D3
    go_upto_region 9 with(fail)
   rotate_right
   .have F:=hid P.out;have hl3:(L++[(⟨I,b,a⟩:bE)]).length<=1000000:=by{rw[At];show L.length+1<=_;exact bm};clear P;go_upto_region 9 with(first|(refine Dx rfl 53 _ rfl w rfl 53 _ (0,0) _ hux.2 ((Qz.eR 53).trans underlying53) rfl c9 ?_)|(at_builtin;refine gQ rfl _ _ rfl (w.heap.size+1) _ _ rfl D4.out ⟨I,b,a⟩ 1 rfl B C ?_;intro g' D w1 j p))
    have E4:=hid j;have R:Hid (zb w w1):=cP D2.out D4.out p bm bm;have J:Hid (Below (w.heap.size+1) w0 w1):=cP D3.out D4.out p (je _) C;have E:w.heap.size+1<=w1.heap.size:=by{rw[<-hz0];exact J.out.size};clear j p D4 D2 D3 hux C;generalize Value.slice g' (L.length+1) D=u5' at*;generalize L++[(⟨I,b,a⟩:bE)]=L' at*;obtain⟨m,Y⟩|m:=hex
    .first
     |(cases Y;done)
     |(have H:Hid (L2=L'):=by rw[F.out,AE m,Bj];exact rfl
       subst m
       have M:=(HU.out w1 J.out).1
       have c0:=(HX.out w1 R.out).1
       go_quiet (fail)
       have Q:Hid (zb w (w1.drewN nq)):=below_drewN R.out nq
       have F3:Hid (Below (w.heap.size+1) w0 (w1.drewN nq)):=below_drewN J.out nq
       have G:Hid (bO (w1.drewN nq) (w.heap.size+1) u5' L'):=E4.out.kept λ_ _=>rfl
       generalize w1.drewN nq=wc at*
       clear M c0
       go_wp2
       go_roundg (n-(t+1))
       case measure=>go_light;omega
       case rel=>go_light;exact⟨t+1,by omega,by go_num,by rw[N.out];rfl,Q.out,F3.out,by rw[O.out,H.out];exact G.out⟩)
    .have H:Hid (L2=L'++[⟨k,U,V⟩]):=by{rw[F.out,AF m];exact rfl};have M:=(HU.out w1 J.out).1;have c0:=(HX.out w1 R.out).1;go_quiet (fail);have Q:Hid (zb w (w1.drewN nq)):=below_drewN R.out nq;have F3:Hid (Below (w.heap.size+1) w0 (w1.drewN nq)):=below_drewN J.out nq;have G:Hid (bO (w1.drewN nq) (w.heap.size+1) u5' L'):=E4.out.kept λ_ _=>rfl;have z:w.heap.size+1<=(w1.drewN nq).heap.size:=E;generalize w1.drewN nq=wc at*;clear M c0;obtain⟨c0,c1,c2⟩:=HX.out wc Q.out;have Z:(!k==I)=aF:=by{simpa using m};rw[Z];go_wp2_with (at_builtin;refine gQ rfl _ _ rfl (w.heap.size+1) _ _ rfl G.out ⟨k,U,V⟩ 1 rfl hl3 z ?_;intro g2 aD1 w2 j p);go_roundg (n-(t+1));case measure=>go_light;omega
     case rel=>exact S5
   all_goals
    obtain⟨m,Y⟩|m:=hex
    .first
     |(cases Y;done)
     |(have H:Hid (L2=L):=by rw[F.out,AE m,Bj];exact rfl
       subst m
       have M:=(HU.out A J.out).1
       have c0:=(HX.out A R.out).1
       go_quiet (fail)
       have Q:Hid (zb w (A.drewN nq)):=below_drewN R.out nq
       have F3:Hid (Below (w.heap.size+1) w0 (A.drewN nq)):=below_drewN J.out nq
       have G:Hid (bO (A.drewN nq) (w.heap.size+1) u5 L):=E4.out.kept λ_ _=>rfl
       generalize A.drewN nq=wc at*
       clear M c0
       go_wp2
       go_roundg (n-(t+1))
       case measure=>go_light;omega
       case rel=>go_light;exact⟨t+1,by omega,by go_num,by rw[N.out];rfl,Q.out,F3.out,by rw[O.out,H.out];exact G.out⟩)
    .have H:Hid (L2=L++[⟨k,U,V⟩]):=by{rw[F.out,AF m];exact rfl};have M:=(HU.out A J.out).1;have c0:=(HX.out A R.out).1;go_quiet (fail);have Q:Hid (zb w (A.drewN nq)):=below_drewN R.out nq;have F3:Hid (Below (w.heap.size+1) w0 (A.drewN nq)):=below_drewN J.out nq;have G:Hid (bO (A.drewN nq) (w.heap.size+1) u5 L):=E4.out.kept λ_ _=>rfl;have z:w.heap.size+1<=(A.drewN nq).heap.size:=E;generalize A.drewN nq=wc at*;clear M c0;obtain⟨c0,c1,c2⟩:=HX.out wc Q.out;have Z:(!k==I)=aF:=by{simpa using m};rw[Z];go_wp2_with (at_builtin;refine gQ rfl _ _ rfl (w.heap.size+1) _ _ rfl G.out ⟨k,U,V⟩ 1 rfl hl3 z ?_;intro g2 aD1 w2 j p);go_roundg (n-(t+1));case measure=>go_light;omega
     case rel=>exact S5
  .obtain rfl:t=n:=bm;have B:(jV us ⟨I,b,a⟩ t).length<=1000000:=by have:=HL.out t;omega
   have HL':Hid (∀{W:zW}{v:zY}{l:List bE},bO W (w.heap.size+1) v l->bO W w v l):=λ{W v l} h=>by refine⟨h.1,?_⟩;obtain h|⟨g,D,cur,e,h1,r⟩:=h.2;{exact aH h};{exact aI ⟨g,D,cur,e,bm,r⟩}
   generalize jV us ⟨I,b,a⟩ t=L at*;generalize eZ us ⟨I,b,a⟩ t=X at*;cases X with
   |true=>have HA':=hid HA.out;go_wp2;go_ret;exact⟨_,rfl,by rw[HA'.out];exact HL'.out O2.out,B2.out⟩
   |false=>have HA':=hid HA.out;go_wp2_with (first|(refine Dx rfl 53 _ rfl w rfl 53 _ (0,0) _ K2.out ((Qz.eR 53).trans underlying53) rfl c9 ?_)|(at_builtin;refine gQ rfl _ _ rfl (w.heap.size+1) _ _ rfl O2.out ⟨I,b,a⟩ 1 rfl B ae ?_;intro g' D w1 j p));go_ret;exact⟨_,rfl,by rw[HA'.out];exact HL'.out j,cP B2.out O2.out p bm bm⟩
abbrev ptr:Option Nat->zY
 |none=> .pointer aB|some b=>aO b
def jE (z o:Option Nat)(i v g:zB)(hs:Int):zA:= #[ptr z,ptr o,i,v,g,hs]
structure aW (w:zW)(b:Nat)(z o:Option Nat)(i v g:zB)(hs:Int):Prop where
 at':∃fr,w.heap[b]? =aA (aJ (jE z o i v g hs) 272 fr)
section
variable {w:zW}{b:Nat}{z o:Option Nat}{i v g:zB}{hs:Int}
theorem aW.lt (h:aW w b z o i v g hs):b<w.heap.size:=by let⟨fr,h⟩:=h.at';exact ji
def aW.c0 (h:aW w b z o i v g hs):w.cell? b=aA (ptr z):=by let⟨fr,h⟩:=h.at';exact(bG h 0).trans rfl
def aW.c1 (h:aW w b z o i v g hs):w.cell? (b,1)=aA (ptr o):=by let⟨fr,h⟩:=h.at';exact(bG h 1).trans rfl
def aW.c2 (h:aW w b z o i v g hs):w.cell? (b,2)=aA (i:zY):=by let⟨fr,h⟩:=h.at';exact(bG h 2).trans rfl
def aW.c3 (h:aW w b z o i v g hs):w.cell? (b,3)=aA (v:zY):=by let⟨fr,h⟩:=h.at';exact(bG h 3).trans rfl
def aW.c4 (h:aW w b z o i v g hs):w.cell? (b,4)=aA (g:zY):=by let⟨fr,h⟩:=h.at';exact(bG h 4).trans rfl
def aW.c5 (h:aW w b z o i v g hs):w.cell? (b,5)=aA (hs:zY):=by let⟨fr,h⟩:=h.at';exact(bG h 5).trans rfl
def eW (w:zW)(b:Nat):Prop:=∃c,w.heap[b]? =aA (aJ c 272 (0,0))
def eW.f (h:eW w b)(j):w.frozen? ⟨b,j,aB⟩=aG:=by let⟨c,h⟩:=h;exact eI h j
def iZ (h:aW w b z o i v g hs):Calls zq 227 #[ptr (aA b)] w λe a=>e=aM (.bool (z.isNone&&o.isNone))/\a=w:=by have k:=h.c0;have k1:=h.c1;cases z with|none=>{cases o with|none=>go_enter (Qz.fn func227),ntmps227;go_wp2;go_ret;simp_all|some o=>go_enter (Qz.fn func227),ntmps227;go_wp2;go_ret;simp_all}|some z=>go_enter (Qz.fn func227),ntmps227;go_wp2;go_ret;simp_all
def QW (w):Calls zq 225 #[ptr aB] w λe a=>e=aM (.bool aF)/\a=w:=by go_enter (Qz.fn func225),ntmps225;go_wp2;go_ret;simp_all
def CB (h:aW w b z o i v g hs):Calls zq 225 #[ptr (aA b)] w λe a=>e=aM (.bool (z.isNone&&o.isNone))/\a=w:=by have H:=hid h;go_enter (Qz.fn func225),ntmps225;go_wp2_with fail;refine(iZ H.out).mono ?_;rintro e a ⟨rfl,rfl⟩;go_wp2;go_ret;simp_all
def BO (w):Calls zq 246 #[ptr aB] w λe a=>e=aM (.bool aG)/\a=w:=by go_enter (Qz.fn func246),ntmps246;go_wp2;go_ret;simp_all
def nK (h:aW w b z o i v g hs):Calls zq 246 #[ptr (aA b)] w λe a=>e=aM (.bool g.isEmpty)/\a=w:=by have k:=h.c4;go_enter (Qz.fn func246),ntmps246;go_wp2;go_ret;simp_all
def Oz (w):Calls zq 222 #[ptr aB] w λe a=>e=aM (ptr aB)/\a=w:=by go_enter (Qz.fn func222),ntmps222;go_wp2;go_ret;simp_all
end
abbrev gY (k:Nat)(us:List bE)(d:Nat):zB:=cR k (aV us) d
inductive dQ (k:Nat)(w:zW):Option Nat->List bE->zP
 |nil (d:Nat):dQ k w aB [] d
 |leaf {b:Nat} {u:bE} {d:Nat} {hs:Int} (h:aW w b aB aB u.idx u.val (gY k [u] d) hs):dQ k w (aA b) [u] d
 |node {b:Nat} {us:List bE} {d:Nat} {z o:Option Nat} {hs:Int} (h2:2<=us.length) (hd:d<256) (h:aW w b z o [] [] (gY k us d) hs) (hz:dQ k w z (bJ d 0 us) (d+1)) (ho:dQ k w o (bJ d 1 us) (d+1)):dQ k w (aA b) us d
inductive cU (k:Nat)(w:zW):Option Nat->List bE->Nat->Nat->Nat->List (Nat×ByteArray)->Prop
 |done {p:Option Nat} {us:List bE} {d lo hi:Nat} (h:dQ k w p us d) (hl:lo<=hi):cU k w p us d lo hi []
 |leaf {b:Nat} {u:bE} {d lo hi:Nat} {hs:Int} (h1:lo<=b) (h2:b<hi) (h:aW w b aB aB u.idx u.val [] hs):cU k w (aA b) [u] d lo hi [(b,⟨(gY k [u] d).toArray⟩)]
 |node {b:Nat} {us:List bE} {d lo m hi:Nat} {z o:Option Nat} {hs:Int} {rz ro:List (Nat×ByteArray)} (h2:2<=us.length) (hd:d<256) (h:aW w b z o [] [] [] hs) (hz:cU k w z (bJ d 0 us) (d+1) lo m rz) (ho:cU k w o (bJ d 1 us) (d+1) m b ro) (hb:b<hi):cU k w (aA b) us d lo hi (rz++ro++[(b,⟨(gY k us d).toArray⟩)])
section
variable {k:Nat}{w w':zW}{p:Option Nat}{us:List bE}{d lo hi:Nat}{rows:List (Nat×ByteArray)}
theorem bU {b z o c f i v g i' v' j hs a}(h:aW w b z o i v g hs)(l:aW w b c f i' v' j a):z=c/\o=f/\i=i'/\v=v'/\g=j/\hs=a:=by let⟨fr,e⟩:=h.at';let⟨m,n⟩:=l.at';rw[n]at e;injection e with e;injection e with e _ _;have e:=congrArg zAM e;simp only[jE,List.cons.injEq,and_true]at e;exact ji
theorem CF (hk:k<=32):zAH (gY k us d)=k:=jI k d _ hk
def sW (h:1<=k)(hk:k<=32):gY k us d≠[]:=by grind[CF]
def MO (k d a)(u):gY k [u] d=gY k [u] a:=by unfold gY aV;grind[List.map_singleton,CY]
def dQ.fR (h:dQ k w p us d):p=aB↔us=[]:=L8
def cU.fR (h:cU k w p us d lo hi rows):p=aB↔us=[]:=by cases h with|done h=>exact h.fR|leaf=>simp|node a=>exact ji
def cU.Oj (h:cU k w p us d lo hi rows):lo<=hi:=by induction h<;>omega
def cU.wide {l a}(h:cU k w p us d lo hi rows)(f:l<=lo)(e:hi<=a):cU k w p us d l a rows:=by induction h generalizing l a with|done h hl=>exact .done h bm|leaf k1 k2 h=>exact .leaf bm bm h|node g2 c g j go m b i=>exact .node g2 c g ji go bm
theorem dQ.keep (l:1<=k)(hk:k<=32)(j:∀b z o i v g hs,g≠[]->aW w b z o i v g hs->∃a,aW w' b z o i v g a)(h:dQ k w p us d):dQ k w' p us d:=by induction h with|nil d=>exact .nil d|leaf h=>let⟨a,f⟩:=j _ _ _ _ _ _ _ (sW l hk) h;exact .leaf f|node n m h _ _ e c=>let⟨a,f⟩:=j _ _ _ _ _ _ _ (sW l hk) h;exact .node n m f e c
theorem cU.keep (n:1<=k)(hk:k<=32)(j:∀b z o i v g hs,aW w b z o i v g hs->∃a,aW w' b z o i v g a)(h:cU k w p us d lo hi rows):cU k w' p us d lo hi rows:=by induction h with|done h hl=>exact .done (h.keep n hk ji) hl|leaf k1 k2 h=>let⟨a,f⟩:=j _ _ _ _ _ _ _ h;exact .leaf k1 k2 f|node m l h _ _ hb e c=>let⟨a,f⟩:=j _ _ _ _ _ _ _ h;exact .node m l f e c hb
def cU.each (h:cU k w p us d lo hi rows):(∀x∈rows,lo<=x.1/\x.1<hi/\∃z o i v e,aW w x.1 z o i v [] e)/\(rows.map (·.1)).Nodup:=by induction h with|done=>grind|leaf h1 g h=>grind|node g n h c f hb b a=>have j:=c.Oj;have l:=f.Oj;refine⟨λx m=> ?_,?_⟩;{grind};{rw[Gr,Gr,NR,NR];grind}
def cU.part (M:1<=k)(hk:k<=32){S:zP}{all:List (Nat×ByteArray)}(L:∀b,S b->∃z o i v hs,aW w b z o i v [] hs)(f:∀b z o i v hs,S b->aW w b z o i v [] hs->∀c,z=aA c\/o=aA c->(∃z o i v hs,aW w c z o i v [] hs)->S c) (r:∀b s,S b->(b,s)∈all->∀z o i v hs,aW w b z o i v [] hs->∃a,aW w' b z o i v (zAM s.data) a) (e:∀b,¬S b->∀z o i v g hs,aW w b z o i v g hs->∃a,aW w' b z o i v g a) (h:cU k w p us d lo hi rows) (G:∀x∈rows,x∈all):(∃dB,cU k w' p us d lo hi dB/\(∀x∈dB,x∈rows/\¬S x.1)/\zAH dB<=zAH rows)/\((∀b,p=aA b->(∃z o i v hs,aW w b z o i v [] hs)->S b)->dQ k w' p us d):=by have hold:∀b z o i v g hs,g≠[]->aW w b z o i v g hs->∃a,aW w' b z o i v g a:=λb z o i v g hs K h=>e b (λq=>by let⟨O,R,X,P,a,l⟩:=L b q;exact K (bU h l).2.2.2.2.1) z o i v g hs h;induction h with|done h hl=>have n:=h.keep M hk hold;exact⟨⟨[],.done n hl,ji,Cw _⟩,λ_=>n⟩| @leaf b u d lo hi hs k1 k2 h=>by_cases q:S b;{let⟨a,l⟩:=r b ⟨zAL (gY k [u] d)⟩ q (G _ j0) _ _ _ _ _ h;have n:dQ k w' (aA b) [u] d:= .leaf (by simpa using l);exact⟨⟨[],.done n bm,ji,Cw _⟩,λ_=>n⟩};{let⟨a,l⟩:=e b q _ _ _ _ _ _ h;refine⟨⟨_,.leaf k1 k2 l,λx F=>⟨F,?_⟩,je _⟩,ji⟩;grind}| @node b us d lo m hi z o hs Q ro H n h I J q A y=>have E:=A ji;have D:=y ji;by_cases j:S b;{let⟨a,l⟩:=r b ⟨zAL (gY k us d)⟩ j (G _ j0) _ _ _ _ _ h;have d1:=E.2 λc C B=>f b _ _ _ _ _ j h c (aH C) B;have N:=D.2 λc C B=>f b _ _ _ _ _ j h c (aI C) B;have t:dQ k w' (aA b) us d:= .node H n (by simpa using l) d1 N;have W:=I.Oj;have V:=J.Oj;exact⟨⟨[],.done t bm,ji,Cw _⟩,λ_=>t⟩};{let⟨a,l⟩:=e b j _ _ _ _ _ _ h;let⟨⟨r1,f1,Z,U⟩,_⟩:=E;let⟨⟨r2,f2,Y,T⟩,_⟩:=D;refine⟨⟨_,.node H n l f1 f2 q,λx F=> ?_,ji⟩,ji⟩;grind}
end
structure qJ (w:zW)(t k:Nat):Prop where
 lt:t<w.heap.size
 wid:w.cell? t=aA (k:zY)
 emp:w.cell? (t,2)=aA (dg k [0]:zY)
theorem qJ.below {w w':zW}{B t k:Nat}(h:qJ w t k)(a:Below B w w')(b:w.heap.size<=B):qJ w' t k:=
 ⟨Ao h.lt a.size,by rw[a.cell (p:=⟨t,0,aB⟩) (Ao h.lt b)];exact h.wid,by rw[a.cell (p:=⟨t,2,aB⟩) (Ao h.lt b)];exact h.emp⟩
def quiet_of {P:zZ}{f:zN}{args:zA}{v:zY}{w:zW}(h:∀W,zb w W->Calls P f args W λe w'=>e=aM v/\zb W w'): Hid (∀(b:Nat)(os:zJ),Calls P f args (Go.Sort.grow (redrawn w b) os) λe a=>e=aM v/\∃p:Regrown,a=Go.Sort.grow (redrawn w p.d) p.os):=λb os=>Calls.regrown_of (h _ (Dc w b os))
def bQ {w p v}(h:w.cell? p=aA v)(b:p.block<w.heap.size):∀(a)(os),(Go.Sort.grow (redrawn w a) os).cell? p=aA v:=by grind[below_regrown,KE]
def NS (p:Nat×ByteArray):zV:=[aO (p.1,0),aL p.2]
def oZ (l:List (Nat×ByteArray)):zV:=l.flatMap NS
theorem zFp (l)(p:Nat×ByteArray):oZ (l++[p])=oZ l++NS p:=by simp[oZ]
def Ub (p:Nat×ByteArray):∀x∈NS p,x.oneCell'=aF:=by intro x h;simp only[NS,Bb,Bq,Bm]at h;obtain rfl|rfl:=h<;>rfl
def SX (l):∀(i)(p:Nat×ByteArray),l[i]? =aA p->∀j,j<2->(oZ l)[i*2+j]? =(NS p)[j]? :=by induction l with|nil=>grind|cons a l b=>intro i u h j c;show(NS a++oZ l)[i*2+j]? =_;cases i with|zero=>simp only[Ho,Option.some.injEq]at h;subst h;rw[GN (by show _<2;exact bm)];simp|succ i=>rw[Ec (by show 2<=_;exact bm),show(i+1)*2+j-zAH (NS a)=i*2+j by show(i+1)*2+j-2=_;exact bm];exact ji
def wP (w:zW)(base:Nat)(v:zY)(l:List (Nat×ByteArray)):Prop:=w.ownsRow base 292 2 v (zAH l) (oZ l)
theorem wP.lt {w base v l}(h:wP w base v l):∀k,v.ownBlock=aA k->base<=k/\k<w.heap.size:=World.ownsRow.lt h
theorem wP.kept {w w' base v l}(h:wP w base v l)(hk:∀g,v.ownBlock=aA g->w'.heap[g]? =w.heap[g]?):wP w' base v l:=by let⟨b,a⟩:=h;refine⟨b,?_⟩;obtain a|⟨g,cap,cur,rfl,hb,hh,r⟩:=a;{exact ji};.exact td
theorem wP.below {w w':zW}{B base:Nat}{v:zY}{l:List (Nat×ByteArray)}(h:wP w base v l)(b:Below B w w')(c:w.heap.size<=B):wP w' base v l:=h.kept λg a=>b.block g (Ao (h.lt g a).2 c)
def Ua:∃i,zq.info? 292=aA i/\i.zero=aA (.agg #[.pointer aB,aL ⟨#[]⟩])/\i.size=2/\i.bytes=24:=by have h:(zq.info? 292).map (λi=>(i.zero,i.size,i.bytes))=aA (aA (.agg #[.pointer aB,aL ⟨#[]⟩]),2,24):=by{kernel_rfl};exact j1
def MZ {W ops rest o a Q}(m:o.guard=aB)(s x)
  (A:o.op= .call ⟨.builtin .append,#[s,x],#[283,283]⟩)
  (base) (v) (l) (hs:a.eval s=v) (b:wP W base v l) (u:Nat×ByteArray) (c) (z:a.eval x=aK (aA ⟨W.heap.size,0,aB⟩) 1 c)
  (D:l.length<=1000000) (q:base<=W.heap.size)
  (h:∀g cap w',wP w' base (aK (aA ⟨g,0,aB⟩) (l.length+1) cap) (l++[u])->W.grownBy w' v.ownBlock->wpList zq ops Q rest (a.put o.dst (aK (aA ⟨g,0,aB⟩) (l.length+1) cap)) w'):wpList zq ops Q (o::rest) a (W.alloc (aJ #[aO (aA ⟨u.1,0,aB⟩),aL u.2] 292)):=by let⟨i,hi,r,f,n⟩:=Ua;refine wpList_append_lies _ m s x 283 A base 292 i _ 2 24 j1 hi r f n rfl bm v (zAH l) (oZ l) hs (World.ownsRow.alloc b _) W 1 c (NS u) z rfl (λj y C=> ?_) (Ub u) bm j7 bm j6 _ rfl (λg cap w' E B _ _=>h g cap w' ?_ (dF B));{have e:(W:Addr).add j=(W,j):=r9;rw[e];show(zAK W (aJ (zAL (NS u)) 292)).cell? _=_;exact j1};.unfold wP;grind[List.length_append,zFp]
def CM {w0 w w':zW}{B base:Nat}{v:zY}{l:List (Nat×ByteArray)}(e:Below B w0 w)(h:wP w base v l)(c:w.grownBy w' v.ownBlock)(f:B<=base)(a:B<=w.heap.size):Below B w0 w':=e.grown c a λk b=>Az f (h.lt k b).1
theorem wP.rows {w base v l}(h:wP w base v l):∃q c,v=aK q (zAH l) c/\zAH l<=c/\gS l q (zAH l) w/\∀a,q=aA a->base<=a.block:=by let⟨s,f⟩:=h;obtain⟨rfl,f⟩|⟨g,cap,cur,rfl,hb,hh,n,_,o,m⟩:=f;{have:l=[]:=ji;subst this;exact⟨aB,0,rfl,je _,⟨rfl,ji⟩,ji⟩};.refine⟨aA g,cap,rfl,n,⟨rfl,λ_=>⟨g,0,rfl,λj p e=> ?_⟩⟩,ji⟩;have b:∀i,i<2->w.cell? (g,0+(j*2+i))=(NS p)[i]? :=λi hi=>by{have r:=(Bx.1 e).1;rw[Ce,bG hh,<-SX l j p e i hi,<-m,List.getElem?_take_of_lt bm,Ew]};exact⟨b 0 bm,by have:=b 1 bm;exact j5⟩
section
variable {k t:Nat}{w w':zW}{p:Option Nat}{us:List bE}{d lo hi:Nat}{rows:List (Nat×ByteArray)}
def zGk (h:qJ w t k):Calls zq 226 #[aO t,ptr aB] w λe w'=>e=aM (dg k [0])/\w'=w:=by have p2:=h.emp;go_enter (Qz.fn func226),ntmps226;go_wp2;go_ret;simp_all
def LO {b z o i v g hs}(h:aW w b z o i v g hs):Calls zq 226 #[aO t,ptr (aA b)] w λe w'=>e=aM g/\w'=w:=by have c4:=h.c4;go_enter (Qz.fn func226),ntmps226;go_wp2;go_ret;simp_all
def xV (a:qJ w t k)(h:dQ k w p us d):Calls zq 226 #[aO t,ptr p] w λe w'=>e=aM (gY k us d)/\w'=w:=by cases h with|nil=>have:gY k [] d=dg k [0]:=OV k d;rw[this];exact zGk a|leaf h=>exact LO h|node _ _ h=>exact LO h
structure Wk (k t:Nat)(W0 W:zW):Prop where
 k1:1<=k
 k2:k<=32
 top:qJ W0 t k
 jJ:iO W0
 below:zb W0 W
theorem Wk.cell {c W}(h:Wk k t c W){b z o i v g hs}(a:aW c b z o i v g hs):aW W b z o i v g hs:=⟨by rw[h.below.block b a.lt];exact a.at'⟩
def Wk.FC {a W}(h:Wk k t a W):qJ W t k:=h.top.below h.below (je _)
def Wk.tab {a W}(h:Wk k t a W):iO W:=h.jJ.below h.below (je _)
def Lg (k t:Nat)(a:zW)(p:Option Nat)(us:List bE)(d:Nat)(rows:List (Nat×ByteArray)):Prop:= ∀W v L,Wk k t a W->wP W a v L->zAH L+zAH rows<=1000000->Calls zq 243 #[aO t,ptr p,v] W λe w'=>∃b,e=aM (.tuple #[gY k us d,b])/\wP w' a b (L++rows)/\zb a w'
def zBp {m}(h:dQ k m p us d):Lg k t m p us d []:=by intro W v L a s A;have x:=hid a;have l:=h.keep a.k1 a.k2 λb z o i v g n _ r=>⟨n,a.cell r⟩;have u:Hid (∀c,c=W->Calls zq 226 #[aO t,ptr p] c λe w'=>e=aM (gY k us d)/\w'=c):=λc e=>by{subst e;exact xV a.FC l};have y:Hid (Calls zq 246 #[ptr p] W λe w'=>e=aM (.bool aG)/\w'=W):=by{have f:=sW (us:=us) (d:=d) a.k1 a.k2;have j:(gY k us d).isEmpty=aG:=by{cases q:gY k us d with|nil=>exact absurd q f|cons _ _=>rfl};cases l with|nil=>exact BO W|leaf h=>exact(nK h).mono λe w' h=>⟨by rw[h.1,j],h.2⟩|node _ _ h=>exact(nK h).mono λe w' h=>⟨by rw[h.1,j],h.2⟩};have H:=hid s;generalize gY k us d=Z at*;generalize ptr p=pp at*;go_enter (Qz.fn func243),ntmps243;go_wp2_with fail;refine y.mono ?_;rintro e w' ⟨rfl,rfl⟩;go_wp2_with fail;refine(u _ rfl).mono ?_;rintro e w' ⟨rfl,rfl⟩;go_wp2;go_ret2;exact⟨v,rfl,by rw[Bj];exact H,x.below⟩
end
section
variable {k t:Nat}{W0:zW}{us:List bE}{d:Nat}
def zGa {b u hs}(hi:u.idx.length=32)(hv:u.val.length<=100)(I:aW W0 b aB aB u.idx u.val [] hs):Lg k t W0 (aA b) [u] d [(b,⟨(gY k [u] d).toArray⟩)]:=by
 intro W v L i J K;have m:=i.k1;have f:=i.k2;have z:L.length<=1000000:=by simp at K;omega
 have j:=i.cell I;have U:=hid (nK j);have S:=hid (iZ j);have Q:=hid J;have E:=hid i.below;have C:=hid i.tab;have x:=hid i.FC;have q0:=bQ x.out.wid x.out.lt;have q1:=bQ j.c2 j.lt;have X:=bQ j.c3 j.lt;rw[show gY k [u] d=dg k (1::(u.idx++dg k (4::u.val)))from CY k d _];have H:Hid (∀a,iO a->Calls zq 128 #[k,u.val] a λe c=>e=aM (dg k (4::u.val))/\zb a c):=λa p=>RN k ⟨u.val.toArray⟩ a m f (by show u.val.length<=_;exact bm) p;have Rz:(dg k (4::u.val)).length=k:=iN k _ f;generalize dg k (4::u.val)=Y at*;have s:Hid (∀a,Calls zq 127 #[u.idx,Y] a λe c=>e=aM (1::(u.idx++Y))/\zb a c):=λa=>
  (UU ⟨u.idx.toArray⟩ ⟨Y.toArray⟩ a (by show u.idx.length<=_;exact bm) (by show Y.length<=_;exact bm)).mono λe c h=>⟨h.1,by rw[h.2];exact Av _ _⟩
 have tx:(1::(u.idx++Y)).length<=1000:=by simp;omega
 generalize 1::(u.idx++Y)=Z at*;have r:Hid (∀a,iO a->Calls zq 53 #[k,Z] a λe c=>e=aM (dg k Z)/\zb a c):=λa p=>yD k ⟨Z.toArray⟩ a m f (by show Z.length<=_;exact bm) p;generalize dg k Z=R at*;have B:=quiet_of λa p=>H.out a (C.out.below p (je _));have D:=quiet_of (w:=W) λa _=>s.out a;clear j I i J K H s;go_enter (Qz.fn func243),ntmps243;go_wp2_with fail;refine U.out.mono ?_;rintro e c ⟨rfl,rfl⟩;go_wp2_with fail;refine S.out.mono ?_;rintro e c ⟨rfl,rfl⟩;go_wp2_with fail;refine Em c9 c9 ?_;repeat (any_goals(first|go_big_quiet_step ((first|exact B.out _ _|exact D.out _ _))|quiet_step ((first|exact B.out _ _|exact D.out _ _))))
 refine Dn ?_;intro N y;obtain⟨q,G⟩:=y;have o:zb c N:=by rw[G];exact Dc c q.d q.os
 have F:=hid (E.out.trans (o.mono E.out.size));have P:=hid (Q.out.below o (je _));have T:=hid (C.out.below o (je _));have P1:=(x.out.below o (je _)).wid;clear G o B D q0 q1 X Q C x E U S;go_wp2_with fail;refine(r.out N T.out).mono ?_;rintro e w2 ⟨rfl,g⟩;have V:=hid (F.out.trans (g.mono F.out.size));have O:=hid (P.out.below g (je _));have n:=V.out.size;clear g F P T P1 r;go_wp2_with (first|(at_builtin;refine MZ rfl _ _ rfl W0 _ _ rfl O.out (b,⟨R.toArray⟩) 1 rfl z n ?_;intro g' M c l A));go_ret2;exact⟨_,rfl,l,CM V.out O.out A (je _) n⟩
def Qe (a:2<=zAH us)(h:d<256):gY k us d=dg k (2::(gY k (bJ d 0 us) (d+1)++gY k (bJ d 1 us) (d+1))):=by grind[JD,cX,cH]
def zFd {p lo hi rows}(h:cU k W0 p us d lo hi rows)(S:∀u∈us,u.idx.length=32/\u.val.length<=100):Lg k t W0 p us d rows:=by
 induction h with
 |done h=>exact zBp h
 |leaf _ _ h=>exact zGa ji ji h
 | @node b us d lo m hi z o hs r ro h2 hd h a ho hb E D=>
  have T:z≠aB\/o≠aB:=by have hl:=pM us d;by_cases F:z=aB;{right;intro G;have e1:=a.fR.1 F;have e2:=ho.fR.1 G;grind};grind
  have g:=(E λu i=>S u (Bi.1 i).1);have j:=(D λu i=>S u (Bi.1 i).1);intro W v L n V X;have q:=n.k1;have c:=n.k2;have hL':L.length+(r.length+ro.length+1)<=1000000:=by simpa [Gp]using X
  have B:=n.cell h;have HF:=hid (nK B);have HI:Hid (Calls zq 227 #[ptr (aA b)] W λe w=>e=aM (.bool aG)/\w=W):=(iZ B).mono λe w a=>⟨by
   rw[a.1];obtain a|a:=T
   .cases z with
    |none=>exact absurd rfl a
    |some _=>rfl
   .cases o with
    |none=>exact absurd rfl a
    |some _=>cases z<;>rfl,a.2⟩
  have HO:=hid V;have A:Hid (∀N,zb W0 N->Wk k t W0 N):=λN a=>⟨q,c,n.top,n.jJ,a⟩;have HB:=hid n.below;have HC:=hid h;have c0:=B.c0;have hx:(gY k (bJ d 0 us) (d+1)).length=k:=CF c;have hy:(gY k (bJ d 1 us) (d+1)).length=k:=CF c;rw[Qe h2 hd];unfold Lg at g j;generalize gY k (bJ d 0 us) (d+1)=x at*;generalize gY k (bJ d 1 us) (d+1)=y at*;have HZ:=hid g;have HQ:=hid j;have HN:Hid (∀w2,Calls zq 118 #[x,y] w2 λe w=>e=aM (2::(x++y))/\w=w2):=λw2=>(US ⟨x.toArray⟩ ⟨y.toArray⟩ w2 (by show x.length<=_;exact bm) (by show y.length<=_;exact bm)).mono λe w a=>⟨by simpa using a.1,a.2⟩;have tx:(2::(x++y)).length<=1000:=j3;generalize 2::(x++y)=Z at*;have H:Hid (∀w2,iO w2->Calls zq 53 #[k,Z] w2 λe w=>e=aM (dg k Z)/\zb w2 w):=λw2 K=>yD k ⟨Z.toArray⟩ w2 q c (by show Z.length<=_;exact bm) K;generalize dg k Z=R at*;have U:L++(r++ro++[(b,(⟨R.toArray⟩:ByteArray))])=(L++r++ro)++[(b,⟨R.toArray⟩)]:=j0;rw[U];clear U;clear B h n V X g j T;go_enter (Qz.fn func243),ntmps243;go_wp2_with fail;refine HF.out.mono ?_;rintro e w ⟨rfl,rfl⟩;go_wp2_with fail;refine HI.out.mono ?_;rintro e w ⟨rfl,rfl⟩;go_wp2_with fail;refine(HZ.out w v L (A.out _ HB.out) HO.out bm).mono ?_;rintro e w1 ⟨v1,rfl,Q,M⟩;have O1:=hid Q;have B1:=hid M;have c1:=((A.out _ M).cell HC.out).c1;clear Q M HZ HO HB HF HI c0;go_wp2_with fail;refine(HQ.out w1 v1 (L++r) (A.out _ B1.out) O1.out I4).mono ?_;rintro e w2 ⟨v2,rfl,P,C⟩;have O2:=hid P;have O:=hid C;have T2:=hid ((A.out _ C).tab);have p2:=(A.out _ C).FC.wid;clear P C HQ O1 B1 c1;go_wp2_with fail;refine(HN.out w2).mono ?_;rintro e w ⟨rfl,rfl⟩;go_wp2_with fail;refine(H.out w T2.out).mono ?_;rintro e w3 ⟨rfl,l⟩;have B3:=hid (O.out.trans (l.mono O.out.size));have O3:=hid (O2.out.below l (je _));have s:=B3.out.size;have I:(L++r++ro).length<=1000000:=by{rw[At,At];exact bm};clear l O O2 T2 p2 H HN;go_wp2_with (first|(at_builtin;refine MZ rfl _ _ rfl W0 _ _ rfl O3.out (b,⟨R.toArray⟩) 1 rfl I s ?_;intro g' Y w f J));go_ret2;have e:(L++r++ro).length=L.length+(r.length+ro.length):=by{rw[At,At];exact bm};rw[e]at f;exact⟨_,rfl,f,CM B3.out O3.out J (je _) s⟩
def VI {p lo hi rows}(f:1<=k)(b:k<=32)(n:qJ W0 t k)(m:iO W0)(h:cU k W0 p us d lo hi rows)(j:∀u∈us,zAH u.idx=32/\zAH u.val<=100)(hl:zAH rows<=1000000): Calls zq 236 #[aO t,ptr p] W0 λe w=>∃q l cp,e=aM (aK q l cp)/\l<=cp/\gS rows q l w/\(∀a,q=aA a->W0.heap.size<=a.block)/\zb W0 w:=by have H:=hid (zFd h j W0 (aK aB 0 0) [] ⟨f,b,n,m,Av _ _⟩ (World.ownsRow_nil _ _ _ _) (by simpa using hl));generalize ptr p=pp at*;generalize gY k us d=Z at*;go_enter (Qz.fn func236),ntmps236;go_wp2_with fail;refine H.mono ?_;rintro e w1 ⟨v1,rfl,o,s⟩;have O:=hid o;have B:=hid s;go_wp2;go_ret;obtain⟨q,c,rfl,i,g,r⟩:=O.rows;rw[Gs]at i g;exact⟨q,_,c,rfl,i,g,r,B⟩
end
def TF (l:List (Option Nat)):zV:=l.map ptr
theorem dj (p):(ptr p).oneCell'=aF:=by cases p<;>rfl
def kE (w:zW)(base:Nat)(v:zY)(l:List (Option Nat)):Prop:=w.ownsRow base 264 1 v (zAH l) (TF l)
def kE.nil (w)(base):kE w base (aK aB 0 0) []:=World.ownsRow_nil _ _ _ _
theorem kE.lt {w base v l}(h:kE w base v l):∀k,v.ownBlock=aA k->base<=k/\k<w.heap.size:=World.ownsRow.lt h
theorem kE.kept {w w' base v l}(h:kE w base v l)(hk:∀g,v.ownBlock=aA g->w'.heap[g]? =w.heap[g]?):kE w' base v l:=by let⟨b,a⟩:=h;refine⟨b,?_⟩;obtain a|⟨g,cap,cur,rfl,hb,hh,r⟩:=a;{exact ji};.exact td
theorem kE.below {w w':zW}{B base:Nat}{v:zY}{l:List (Option Nat)}(h:kE w base v l)(b:Below B w w')(c:w.heap.size<=B):kE w' base v l:=h.kept λg a=>b.block g (Ao (h.lt g a).2 c)
def XW:∃i,zq.info? 264=aA i/\i.zero=aA (.pointer aB)/\i.size=1/\i.bytes=8:=by have h:(zq.info? 264).map (λi=>(i.zero,i.size,i.bytes))=aA (aA (.pointer aB),1,8):=by{kernel_rfl};exact j1
def aMb {W ops rest o a Q}(e:o.guard=aB)(s x)
  (q:o.op= .call ⟨.builtin .append,#[s,x],#[166,166]⟩)
  (base) (v) (l) (hs:a.eval s=v) (b:kE W base v l) (u) (c) (p:a.eval x=aK (aA ⟨W.heap.size,0,aB⟩) 1 c)
  (A:l.length<=1000000) (k:base<=W.heap.size)
  (h:∀g cap w',kE w' base (aK (aA ⟨g,0,aB⟩) (l.length+1) cap) (l++[u])->W.grownBy w' v.ownBlock->(v.ownBlock=aA g\/W.heap.size<=g)->wpList zq ops Q rest (a.put o.dst (aK (aA ⟨g,0,aB⟩) (l.length+1) cap)) w'):wpList zq ops Q (o::rest) a (W.alloc (aJ #[ptr u] 264)):=by let⟨i,hi,n,d,f⟩:=XW;refine wpList_append_lies _ e s x 166 q base 264 i _ 1 8 j1 hi n d f rfl bm v (zAH l) (TF l) hs (World.ownsRow.alloc b _) W 1 c [ptr u] p rfl (λj y z=> ?_) (by grind[dj,List.mem_singleton]) bm j7 bm j6 _ rfl (λg cap w' w t r _=>h g cap w' ?_ (dF t) (r.imp id j1));{have m:(W:Addr).add j=(W,j):=r9;exact j1};.unfold kE TF;rw[Gr,At];exact w
def rI (w:zW)(q:zO)(l:List (Option Nat)):Prop:=0<l.length->∃g o,q=aA ⟨g,o,aB⟩/\g<w.heap.size/\∀j p,l[j]? =aA p->w.cell? ⟨g,o+j,aB⟩=aA (ptr p)
theorem rI.kept {w w' q l}(h:rI w q l)(hs:w.heap.size<=w'.heap.size)(hk:∀a,q=aA a->w'.heap[a.block]? =w.heap[a.block]?):rI w' q l:=λd=>by obtain⟨g,o,e,f,c⟩:=h d;refine⟨g,o,e,by omega,λj p b=> ?_⟩;rw[<-c j p b];simp only[World.cell?];rw[hk _ e]
def kE.TF {w base v l}(h:kE w base v l):∃q c,v=aK q (zAH l) c/\zAH l<=c/\rI w q l/\∀a,q=aA a->base<=a.block/\a.block<w.heap.size/\∃b,w.heap[a.block]? =aA (aJ b 264 (0,0)):=by let⟨o,d⟩:=h;obtain⟨rfl,d⟩|⟨g,cap,b,rfl,hb,hh,k,_,m,e⟩:=d;{have:l=[]:=ji;subst this;exact⟨aB,0,rfl,je _,λx=>by simp at x,ji⟩};.have i:=(Ax.1 hh).1;refine⟨aA g,cap,rfl,k,λ_=>⟨g,0,rfl,i,λj p f=> ?_⟩,ji⟩;have n:=(Bx.1 f).1;rw[Ce,bG hh,<-Ew];have:(b.toList.take (zAH l*1))[j]? =aA (ptr p):=by{rw[e];unfold Go.Proofs.Zq.TF;exact ji};exact ji
def wR (w:zW)(fr:Option Nat->Bool)(p:Option Nat):Prop:=(p=aB/\fr p=aG)\/∃b z o i v g h,p=aA b/\aW w b z o i v g h/\fr p=g.isEmpty
def aMd {w fr p}(h:wR w fr p):Calls zq 246 #[ptr p] w λe a=>e=aM (.bool (fr p))/\a=w:=by obtain⟨rfl,h⟩|⟨b,z,o,i,v,g,d,rfl,c,h⟩:=h;{rw[h];exact BO w};.rw[h];exact nK c
structure Rj (w w':zW)(v v':zY):Prop where
 Br:w.grownBy w' v.ownBlock
 own:∀g,v'.ownBlock=aA g->v.ownBlock=aA g\/w.heap.size<=g
def Rj.trans {w w1 w2 v v1 v2}(h:Rj w w1 v v1)(k:Rj w1 w2 v1 v2):Rj w w2 v v2:=by refine⟨⟨k.Br.os.trans h.Br.os,k.Br.tape.trans h.Br.tape,k.Br.output.trans h.Br.output,Az h.Br.size k.Br.size,λb a c=> ?_⟩,λg d=> ?_⟩;{refine(k.Br.block b (Ao a h.Br.size) λe=> ?_).trans (h.Br.block b a c);obtain x|x:=h.own b e.symm;all_goals grind};.obtain x|x:=k.own g d;{exact h.own g x};.right;have:=h.Br.size;exact bm
def QR {w base v l ts q c fr}(Y:kE w base v l)(X:rI w q ts)(hF:∀p∈ts,wR w fr p)(T:∀a g,q=aA a->v.ownBlock=aA g->a.block≠g)(W:base<=w.heap.size)(r:∀p∈ts,∀b,p=aA b->∀g,v.ownBlock=aA g->b≠g)(hl:l.length+ts.length<=1000):
  Calls zq 241 #[v,aK q ts.length c] w λe D=>∃y,e=aM y/\kE D base y (l++ts.filter fr)/\Rj w D v y:=by
 have HO:=hid Y;have HT:=hid X;have HF:=hid hF;have HQ:=hid T;have HC:=hid r;go_enter (Qz.fn func241),ntmps241;go_wp2_with fail;go_loopg [0,9] ts.length (λn x i wr=>∃t:Nat,t+n=ts.length/\i=aC aD t/\Rj w wr v x/\kE wr base x (l++(ts.take t).filter fr));case atStart=>exact⟨0,bm,rfl,(⟨⟨rfl,rfl,rfl,je _,λ_ _ _=>rfl⟩,ji⟩),by simpa using HO.out⟩
 case round=>
  obtain⟨t,ht,rfl,c1,c2⟩:=hrel
  have C:=hid c1
  have K:=hid c2
  by_cases f:t<ts.length
  .obtain⟨g,R,rfl,I,O⟩:=HT.out bm;have L:=O t ts[t] (Be f);have d:=Fp f;have K0:wr.cell? (g,R+t)=aA (ptr ts[t]):=by
    rw[<-L];simp only[World.cell?];rw[C.out.Br.block g I λe=>HQ.out _ _ rfl e.symm rfl]
   have m:wR wr fr ts[t]:=by obtain h|⟨b,z,o,i,y,P,S,e,B,h⟩:=HF.out _ d;{exact aH h};{exact aI ⟨b,z,o,i,y,P,S,e,⟨by rw[C.out.Br.block b B.lt λe'=>HC.out _ d b e b e'.symm rfl];exact B.at'⟩,h⟩}
   have j:fr ts[t]=aF->∃b,ts[t]=aA b:=λh=>by obtain⟨_,Z⟩|⟨b,_,_,_,_,_,_,e,_⟩:=m;{rw[Z]at h;cases h};{exact⟨b,e⟩}
   have s:=hid (aMd m);have u:Hid (l++(ts.take (t+1)).filter fr=(l++(ts.take t).filter fr)++(if fr ts[t]then [ts[t]]else [])):=by show _=_;rw[Hg,Be f,Ht,Df];by_cases N:fr ts[t]=aF;{simp[N]};{simp[N]}
   have F:(l++(ts.take t).filter fr).length<=1000000:=by have h1:=Ex fr (ts.take t);rw[At];rw[Ds]at h1;omega
   have J:=Az W C.out.Br.size;have V:¬((t:Int)<0):=bm;have U:(t:Int)<ts.length:=bm;generalize ts[t]=pt at*;generalize l++(ts.take t).filter fr=M at*;clear m O L d;go_wp2_with fail;refine s.out.mono ?_;rintro e D ⟨rfl,rfl⟩;cases k:fr pt with
   |true=>
    obtain⟨b,rfl⟩:=j k;have H:Hid (l++(ts.take (t+1)).filter fr=M++[aA b]):=by have:=u.out;rw[k]at this;exact this
    clear u s;go_wp2_with (first|(at_builtin;refine aMb rfl _ _ rfl base _ _ rfl K.out (aA b) 1 rfl F J ?_;intro P Q w2 A G E));go_roundg (ts.length-(t+1));case measure=>omega
    case rel=>
     go_light
     refine⟨t+1,bm,j9,C.out.trans ⟨G,λg I=> ?_⟩,by rw[H.out];exact A⟩
     cases I
     exact E
   |false=>
    have H:Hid (l++(ts.take (t+1)).filter fr=M):=by show _=_;have:=u.out;rw[k]at this;simpa using this
    clear u s;go_wp2;go_roundg (ts.length-(t+1));case measure=>omega
    case rel=>
     go_light
     exact⟨t+1,bm,j9,C.out,by rw[H.out];exact K.out⟩
  .have:t=ts.length:=bm;subst this;have u:Hid (l++(ts.take ts.length).filter fr=l++ts.filter fr):=by{show _=_;rw[Fq]};go_wp2;go_ret;exact⟨u0,rfl,by rw[<-u.out];exact K.out,C.out⟩
def kids (zf of:Nat->Option Nat)(fr:Option Nat->Bool)(b:Nat):List (Option Nat):=[zf b,of b].filter fr
def Vs (zf of)(fr:Option Nat->Bool)(b):zAH (kids zf of fr b)<=2:=Ex _ _
def MD (zf of:Nat->Option Nat)(fr:Option Nat->Bool):∀a:List Nat,zAH (a.flatMap (kids zf of fr))<=2*zAH a
 |[]=>by simp|b::a=>by have c:=MD zf of fr a;have h:=Vs zf of fr b;exact ji
def Om {w}{bs:List Nat}{zf of fr q c}(hT:rI w q (bs.map aA))(hC:∀b∈bs,(∃i v g hs,aW w b (zf b) (of b) i v g hs)/\wR w fr (zf b)/\wR w fr (of b))(hl:zAH bs<=100):
  Calls zq 242 #[aK q (zAH bs) c] w λe F=>∃s,e=aM s/\kE F w s (bs.flatMap (kids zf of fr))/\zb w F:=by
 have HT:=hid hT;have HC:=hid hC;go_enter (Qz.fn func242),ntmps242;go_wp2_with fail;go_loopg [3,8] (zAH bs) (λn x i wr=>∃t:Nat,t+n=zAH bs/\i=aC aD t/\zb w wr/\kE wr w x ((bs.take t).flatMap (kids zf of fr)));case atStart=>exact⟨0,bm,rfl,Av _ _,kE.nil _ _⟩
 case round=>
  obtain⟨t,ht,rfl,c1,c2⟩:=hrel
  have K:=hid c1
  have Z:=hid c2
  by_cases B:t<zAH bs
  .obtain⟨g,T,rfl,hg,V⟩:=HT (by rw[Hj];exact bm);have y:=Fp B;have U:=V t (aA bs[t]) (by rw[JN,Be B];rfl);have K0:wr.cell? (g,T+t)=aA (ptr (aA bs[t])):=by
    rw[K.out.cell (p:=(g,T+t)) hg];exact U
   let⟨⟨i,v,gg,hs,f⟩,E,D⟩:=HC _ y;have d:aW wr bs[t] (zf bs[t]) (of bs[t]) i v gg hs:=⟨by rw[K.out.block _ f.lt];exact f.at'⟩;have c0:=d.c0;have c1:=d.c1;have N:Hid ((bs.take (t+1)).flatMap (kids zf of fr)=(bs.take t).flatMap (kids zf of fr)++[zf bs[t],of bs[t]].filter fr):=by show _=_;rw[Hg,Be B,Lx];simp[kids]
   have O:zAH ((bs.take t).flatMap (kids zf of fr))<=200:=by have:=MD zf of fr (bs.take t);rw[Ds]at this;omega
   have A:∀p,wR w fr p->∀W,zb w W->wR W fr p:=λp h W L=>by obtain h|⟨b,z,o,i,s,Y,hs,e,u,h⟩:=h;{exact aH h};{exact aI ⟨b,z,o,i,s,Y,hs,e,⟨by rw[L.block b u.lt];exact u.at'⟩,h⟩}
   have m:∀p,wR w fr p->∀b,p=aA b->b<w.heap.size:=λp h b e=>by obtain⟨rfl,_⟩|⟨b',z,o,i,s,Y,hs,e',u,h⟩:=h;{cases e};{rw[e']at e;cases e;exact u.lt}
   have R:Hid (∀W,zb wr W->Calls zq 241 #[u3,aK W 2 2] (zAK W (aJ #[ptr (zf bs[t]),ptr (of bs[t])] 264)) λe F=>∃s,e=aM s/\kE F w s ((bs.take (t+1)).flatMap (kids zf of fr))/\zb w F):=λW L=>by
    have M:=Z.below L (je _);have J:zb w W:=K.out.trans (L.mono K.size);have r:zb w (zAK W (aJ #[ptr (zf bs[t]),ptr (of bs[t])] 264)):=J.alloc J.size _;have Q:kE (zAK W (aJ #[ptr (zf bs[t]),ptr (of bs[t])] 264)) w.heap.size u3 ((bs.take t).flatMap (kids zf of fr)):=World.ownsRow.alloc M _;have H:=bT.new W 264 #[ptr (zf bs[t]),ptr (of bs[t])];rw[N.out];refine(QR (ts:=[zf bs[t],of bs[t]]) (q:=aA (W:Addr)) (c:=2) (fr:=fr) Q ?_ ?_ ?_ ?_ ?_ ?_).mono ?_
    .refineλ_=>⟨W.heap.size,0,rfl,j6,λj p l=> ?_⟩;rw[Ce,H.cell j];match j,l with
     |0,l=>cases l;rfl
     |1,l=>cases l;rfl
    .intro p l;simp only[Bb,Bq,Bm]at l;obtain rfl|rfl:=l
     .exact A _ E _ r
     .exact A _ D _ r
    .intro a g P C e;cases P;have:=(M.lt g C).2;dsimp only at e;exact bm
    .have:=r.size;exact bm
    .intro p l b X g C;have:=(M.lt g C).1;have:b<w.heap.size:=by
      simp only[Bb,Bq,Bm]at l;obtain rfl|rfl:=l;{exact m _ E b X};{exact m _ D b X}
     exact bm
    .simp only[Bf,CH];exact bm
    .rintro e F ⟨s,rfl,h1,h2⟩;exact⟨s,rfl,h1,r.grown h2.Br r.size λk hk=>(M.lt k hk).1⟩
   have tz:¬((t:Int)<0):=bm;have hj1:(t:Int)<zAH bs:=by omega
   generalize bs[t]=S at*;generalize zf S=pz at*;generalize of S=po at*;clear V U y f d E D A m N O;cases pz<;>cases po;all_goals
    go_upto_region 5 with(fail)
    go_region_with (first
     |(go_at_call 241;refine(R wr.drew ⟨rfl,rfl,rfl,je _,λ_ _=>rfl⟩).mono ?_;rintro e w9 ⟨v9,rfl,G,I⟩;dsimp only))
    all_goals
     have O9:=hid G
     have B9:=hid I
     clear G I
     go_wp2_with fail
     go_roundg (zAH bs-(t+1))
     case measure=>omega
     case rel=>
      go_light
      exact⟨t+1,bm,j9,B9,O9⟩
  .have:t=zAH bs:=bm;subst this;have N:Hid ((bs.take (zAH bs)).flatMap (kids zf of fr)=bs.flatMap (kids zf of fr)):=by{show _=_;rw[Fq]};go_wp2;go_ret;exact⟨u3,rfl,by rw[<-N.out];exact Z,K⟩
structure uw (w:zW)(zf of:Nat->Option Nat)(fr:Option Nat->Bool)(PD:Nat->zP):Prop where
 cell:∀n b,PD n b->(∃i v hs,aW w b (zf b) (of b) i v [] hs)/\wR w fr (zf b)/\wR w fr (of b)
 ZI:∀n b,PD n b->∀c∈kids zf of fr b,∃c',c=aA c'/\PD (n+1) c'
 deep:∀n b,PD n b->n<=256
theorem wR.below {w W fr p}(h:wR w fr p)(d:zb w W):wR W fr p:=by obtain h|⟨b,z,o,i,v,g,c,e,a,h⟩:=h;{exact aH h};.exact aI ⟨b,z,o,i,v,g,c,e,⟨by rw[d.block b a.lt];exact a.at'⟩,h⟩
theorem uw.below {w W:zW}{zf of:Nat->Option Nat}{fr:Option Nat->Bool}{P:Nat->zP}(h:uw w zf of fr P)(a:zb w W):uw W zf of fr P:= ⟨λn b e=>by let⟨⟨i,v,d,c⟩,g,f⟩:=h.cell n b e;exact⟨⟨i,v,d,⟨by rw[a.block b c.lt];exact c.at'⟩⟩,g.below a,f.below a⟩,h.ZI,h.deep⟩
def Vt {zf of fr}{P:Nat->zP}{n}:∀(f:List Nat),(∀b∈f,∀c∈kids zf of fr b,∃c',c=aA c'/\P (n+1) c')->∃cs:List Nat,f.flatMap (kids zf of fr)=cs.map aA/\∀c∈cs,P (n+1) c:=by intro f h;have k:∀l:List (Option Nat),(∀c∈l,∃c',c=aA c'/\P (n+1) c')->∃cs:List Nat,l=cs.map aA/\∀c∈cs,P (n+1) c:=λl=>by{induction l with|nil=>simp_all|cons a l i=>intro h;let⟨j,e,m⟩:=h a j0;let⟨cs,o,g⟩:=i λc d=>h c (Ig _ d);refine⟨j::cs,ji,λc d=> ?_⟩;exact ji};refine k _ λc d=> ?_;exact ji
def zGo {w zf of fr P top}(hL:uw w zf of fr P)(hF:wR w fr top)(hP:fr top=aF->∃b,top=aA b/\P 0 b):
  Calls zq 234 #[ptr top] w λe f=>∃(d:zY)(h:List Nat),e=aM d/\kE f w d (h.map aA)/\(∀b∈h,∃n,P n b)/\zAH h<=32/\zb w f:=by
 have HL:=hid hL;have T:Hid (∀W,zb w W->Calls zq 241 #[aK aB 0 0,aK W 1 1] (zAK W (aJ #[ptr top] 264)) λe f=>∃(d:zY)(h:List Nat),e=aM d/\kE f w d (h.map aA)/\(∀b∈h,P 0 b)/\zAH h<=1/\zb w f):=λW hW=>by
  have o:zb w (zAK W (aJ #[ptr top] 264)):=hW.alloc hW.size _;have I:=bT.new W 264 #[ptr top];refine(QR (base:=w.heap.size) (ts:=[top]) (c:=1) (fr:=fr) (kE.nil _ _) ?_ ?_ ?_ ?_ ?_ ?_).mono ?_
  .refineλ_=>⟨W.heap.size,0,rfl,j6,λj p u=> ?_⟩;rw[Ce,I.cell j];match j,u with
   |0,u=>cases u;rfl
  .intro p u;rw[Cy]at u;subst u;exact hF.below o
  .intro a g _ R;cases R
  .exact o.size
  .intro p _ b _ g R;cases R
  .exact j0
  .rintro e f ⟨d,rfl,A,K⟩;have J:zb w f:=o.grown K.Br o.size λk hk=>by{cases hk};cases t:fr top with
   |true=>obtain⟨b,rfl,l⟩:=hP t;refine⟨d,[b],rfl,?_,λc z=> ?_,j0,J⟩;{simpa [t]using A};{rw[Cy]at z;subst z;exact l}
   |false=>refine⟨d,[],rfl,?_,λc z=>by simp at z,j0,J⟩;simpa [t]using A
 clear hL hF hP;have U:∀B:zY,(B= .pointer aB\/∃b,B=aO b)->(∀W,zb w W->Calls zq 241 #[aK aB 0 0,aK W 1 1] (zAK W (aJ #[B] 264)) λe f=>∃(d:zY)(h:List Nat),e=aM d/\kE f w d (h.map aA)/\(∀b∈h,P 0 b)/\zAH h<=1/\zb w f)->
   Calls zq 234 #[B] w λe f=>∃(d:zY)(h:List Nat),e=aM d/\kE f w d (h.map aA)/\(∀b∈h,∃n,P n b)/\zAH h<=32/\zb w f:=by
  intro B s hF
  have T:=hid hF
  clear hF
  obtain rfl|⟨b,rfl⟩:=s
  all_goals
   go_enter (Qz.fn func234),ntmps234
   go_wp2_with fail
   refine(T w (Av _ _)).mono ?_
   rintro e w1 ⟨v1,b1,rfl,o1,p1,l1,L⟩
   have O1:=hid o1
   have P1:=hid p1
   have B1:=hid L
   clear o1 p1 L T
   go_wp2_with fail
   go_loopg [3,4] 300 (λq x y wr=>∃(n:Nat)(lv ms:List Nat),n+q=300/\zb w wr/\kE wr w x (lv.map aA)/\kE wr w y (ms.map aA)/\(∀b∈lv,P n b)/\(∀b∈ms,∃m,P m b)/\zAH lv<=zAH ms/\zAH ms<=32)
   case atStart=>exact⟨0,b1,b1,bm,B1,O1,O1,P1,λb l=>⟨0,P1 b l⟩,je _,bm⟩
   case round=>
    clear O1 P1 B1 l1
    let⟨n,lv,ms,hn,c1,c2,c3,c4,c5,c6,c7⟩:=hrel
    have C:=hid c1
    have C2:=hid c2
    have Q:=hid c3
    have C4:=hid c4
    have C5:=hid c5
    let⟨q3,k3,e3,h31,tU,h33⟩:=C2.TF
    let⟨q4,k4,e4,h41,h42,h43⟩:=Q.TF
    rw[Hj]at e3 h31 e4 h41
    subst e3
    subst e4
    have O:=hid tU
    clear c1 c2 c3 c4 c5 tU h33 h42 h43
    by_cases Y:0<zAH lv/\zAH ms<16
    .have E:(0:Int)<zAH lv:=bm;have X:(zAH ms:Int)<16:=by omega
     have H:Hid (uw wr zf of fr P):=HL.below C;have N:Hid (Calls zq 242 #[aK q3 (zAH lv) k3] wr λe f=>∃d cs,e=aM d/\kE f w d (List.map aA cs)/\(∀b∈cs,P (n+1) b)/\zAH cs<=30/\zb wr f):=by
      refine(Om (bs:=lv) (zf:=zf) (of:=of) (fr:=fr) O (λb l=> ?_) bm).mono ?_;{let⟨⟨i,v,hs,z⟩,A,K⟩:=H.cell n b (C4 b l);exact⟨⟨i,v,[],hs,z⟩,A,K⟩}
      .rintro e w2 ⟨v2,rfl,D,M⟩;let⟨cs,ecs,Z⟩:=Vt lv λb l=>H.ZI n b (C4 b l);have G:=MD zf of fr lv;rw[ecs]at D G;rw[Hj]at G;exact⟨v2,cs,rfl,(by have hbq:=C.size;let⟨A,K⟩:=D;refine⟨A,K.imp id ?_⟩;rintro⟨g,cap,cur,e,R,r⟩;exact⟨g,cap,cur,e,bm,r⟩),Z,bm,M⟩
     go_wp2_with fail;refine N.mono ?_;rintro e w2 ⟨v2,cs,rfl,D,p2,l2,M⟩;have S:=hid D;have O3:Hid (kE w2 w (aK q4 (zAH ms) k4) (ms.map aA)):=Q.below M (je _);have P2:=hid p2;have B2:Hid (zb w w2):=C.out.trans (M.mono C.size);have V:n<=256:=by obtain⟨b,l⟩:∃b,b∈lv:=List.exists_mem_of_length_pos Y.1;exact HL.deep n b (C4 b l)
     let⟨q5,k5,e5,h51,h52,h53⟩:=S.TF;rw[Hj]at e5;subst e5;clear D p2 M N H C C2 Q C4 O h51 h52 h53;by_cases hgt:zAH ms<zAH cs
     .have F:(zAH ms:Int)<zAH cs:=bm;go_wp2_with fail;go_roundg (300-(n+1));case measure=>omega
      case rel=>
       go_light
       exact⟨n+1,cs,cs,bm,B2,S,S,P2,λb l=>⟨n+1,P2 b l⟩,je _,bm⟩
     .have F:¬(zAH ms:Int)<zAH cs:=bm;go_wp2_with fail;go_roundg (300-(n+1));case measure=>omega
      case rel=>
       go_light
       exact⟨n+1,cs,ms,bm,B2,S,O3,P2,C5,bm,bm⟩
    .by_cases h0:0<zAH lv
     .have E:(0:Int)<zAH lv:=bm;have X:¬(zAH ms:Int)<16:=bm;exact zAC
     .have E:¬(0:Int)<zAH lv:=bm;exact zAC
 have s:ptr top= .pointer aB\/∃b,ptr top=aO b:=by
  cases top with
  |none=>exact aH rfl
  |some b=>exact aI ⟨b,rfl⟩
 exact U _ s T
inductive Good (w:zW):zP
 |mk {b:Nat} {z o:Option Nat} {i v g:zB} {hs:Int} (h:aW w b z o i v g hs) (hz:∀c,z=aA c->Good w c) (ho:∀c,o=aA c->Good w c):Good w b
theorem Good.cell {w b}(h:Good w b):∃z o i v g hs,aW w b z o i v g hs:=L8
theorem Good.down {w b z o i v g hs}(h:Good w b)(j:aW w b z o i v g hs)(c)(e:z=aA c\/o=aA c):Good w c:=by cases h with|mk h a f=>grind[bU]
section
variable {k:Nat}{w w':zW}{p:Option Nat}{us:List bE}{d lo hi:Nat}{rows:List (Nat×ByteArray)}
def cU.Hb (h:cU k w p us d lo hi rows):(∀b,p=aA b->Good w b)/\∀x∈rows,Good w x.1:=by induction h with|done h=>exact⟨(by induction h with|nil=>grind|leaf h=>intro b e;cases e;exact .mk h ji ji|node _ _ h _ _ c a=>intro b e;cases e;exact .mk h c a),by grind⟩|leaf _ _ h=>have f:=Good.mk h ji ji;grind|node _ _ h _ _ _ c a=>have f:=Good.mk h c.1 a.1;exact ji
def dQ.stay {G:zP}(e:∀b z o i v g hs,G b->aW w b z o i v g hs->∀c,z=aA c\/o=aA c->G c)(l:∀b z o i v g hs,G b->aW w b z o i v g hs->∃a,aW w' b z o i v g a)(h:dQ k w p us d)(j:∀b,p=aA b->G b):dQ k w' p us d:=by induction h with|nil d=>exact .nil d|leaf h=>let⟨a,f⟩:=l _ _ _ _ _ _ _ (j _ rfl) h;exact .leaf f|node s q h t u n m=>have r:=j _ rfl;let⟨a,f⟩:=l _ _ _ _ _ _ _ r h;exact .node s q f ji ji
def cU.stay {G:zP}(a:∀b z o i v g hs,G b->aW w b z o i v g hs->∀c,z=aA c\/o=aA c->G c)(m:∀b z o i v g hs,G b->aW w b z o i v g hs->∃f,aW w' b z o i v g f)(h:cU k w p us d lo hi rows)(l:∀b,p=aA b->G b):cU k w' p us d lo hi rows:=by induction h with|done h hl=>exact .done (h.stay a m l) hl|leaf k1 k2 h=>let⟨f,n⟩:=m _ _ _ _ _ _ _ (l _ rfl) h;exact .leaf k1 k2 n|node t s h u x hb r j=>have q:=l _ rfl;let⟨f,n⟩:=m _ _ _ _ _ _ _ q h;exact .node t s n ji (j λc e=>a _ _ _ _ _ _ _ q h c (aI e)) hb
def cU.Zy {G:zP}(a:∀b z o i v g hs,G b->aW w b z o i v g hs->∀c,z=aA c\/o=aA c->G c)(h:cU k w p us d lo hi rows)(e:∀b,p=aA b->G b):∀x∈rows,G x.1:=Z0
end
def zfW (w:zW)(b:Nat):Option Nat:=match w.cell? b with|some (aO (aA a))=>aA a.block|_=>aB
def ofW (w:zW)(b:Nat):Option Nat:=match w.cell? (b,1)with|some (aO (aA a))=>aA a.block|_=>aB
def Af (w:zW):Option Nat->Bool
 |none=>aG|some b=>match w.cell? (b,4)with|some (aL s)=>s.data.toList.isEmpty|_=>aG
section
variable {k:Nat}{w w':zW}{b:Nat}{z o:Option Nat}{i v g:zB}{hs:Int}
theorem aW.zf (h:aW w b z o i v g hs):zfW w b=z:=by unfold zfW;rw[h.c0];exact ji
theorem aW.of (h:aW w b z o i v g hs):ofW w b=o:=by unfold ofW;rw[h.c1];exact ji
theorem aW.fr (h:aW w b z o i v g hs):Af w (aA b)=g.isEmpty:=by show(match w.cell? (b,4)with|some (aL s)=>s.data.toList.isEmpty|_=>aG)=_;rw[h.c4]
theorem Good.aAb (h:∀c,z=aA c->Good w c):wR w (Af w) z:=by cases z with|none=>exact aH ⟨rfl,rfl⟩|some c=>let⟨z,o,i,v,g,hs,a⟩:=(h c rfl).cell;exact aI (by grind[aW.fr])
structure mC (k:Nat)(w:zW)(G:zP)(us:List bE)(all:List (Nat×ByteArray))(n b:Nat):Prop where
 deep:n<=256
 Zy:G b
 new:∃z o i v hs,aW w b z o i v [] hs
 tree:∃us' lo hi rows,cU k w (aA b) us' n lo hi rows/\(∀x∈rows,x∈all)/\rows.length<=all.length/\∀u∈us',u∈us
def pc {G}(C:∀b z o i v g hs,G b->aW w b z o i v g hs->∀c,z=aA c\/o=aA c->G c)(k1:1<=k)(k2:k<=32)(us)(all):uw w (zfW w) (ofW w) (Af w) (mC k w G us all):=by refine⟨λn b h=> ?_,λn b h c y=> ?_,λn b h=>h.deep⟩;{obtain⟨z,o,i,v,hs,y⟩:=h.new;let⟨q,lo,hi,rows,B,_⟩:=h.tree;have P:=B.Hb.1 b rfl;grind[Good.aAb,aW.zf,aW.of,Good.down]};.have S:=h;let⟨z,o,i,v,hs,a⟩:=h.new;let⟨q,lo,hi,rows,B,K,hlen,H⟩:=h.tree;unfold kids at y;rw[a.zf,a.of]at y;let⟨t,m⟩:=Bi.1 y;have r:∀(c:Option Nat)(f:List bE)(l j:Nat)(r2:List (Nat×ByteArray)),(∀c',c=aA c'->G c')->Af w c=aF->n<256->cU k w c f (n+1) l j r2->(∀x∈r2,x∈rows)->zAH r2<=zAH rows->(∀u∈f,u∈q)->∃c',c=aA c'/\mC k w G us all (n+1) c':=λc f l j r2 L m O s R M Q=>by{cases c with|none=>cases m|some c=>let⟨z2,N,i2,v2,T,I,D⟩:=(s.Hb.1 c rfl).cell;rw[D.fr]at m;have e:=List.isEmpty_iff.1 m;subst e;exact⟨c,rfl,bm,L c rfl,ji,f,l,j,r2,s,ji,bm,ji⟩};cases B with|done h hl=>{exfalso;cases h with|leaf h=>exact sW k1 k2 (bU h a).2.2.2.2.1|node _ _ h=>exact sW k1 k2 (bU h a).2.2.2.2.1}|leaf _ _ h=>obtain⟨rfl,rfl,_⟩:=bU h a;simp only[Bb,Bq,Bm,or_self]at t;subst t;cases m|node M E h F J hb=>obtain⟨rfl,rfl,_⟩:=bU h a;simp only[Bb,Bq,Bm]at t;obtain rfl|rfl:=t;{exact r _ _ _ _ _ (by grind[mC.Zy]) m E F ji ji (λu A=>(Bi.1 A).1)};{exact r _ _ _ _ _ (by grind[mC.Zy]) m E J ji ji (λu A=>(Bi.1 A).1)}
end
structure vI (k t:Nat)(D:zP)(w:zW):Prop where
 k1:1<=k
 k2:k<=32
 plain:Plain zq Qw.Al D w
 box:∀b,D b->¬Cq w.heap[b]?
 top:D t
 FC:qJ w t k
 jJ:iO w
 thaw:∀b z o i v g hs,D b->aW w b z o i v g hs->eW w b
def MA:(0:Nat)<=zq.globals.size/\(2:Nat)<=zq.globals.size:=by have:zq.globals.size=Tryz.prog.globals.size:=rfl;exact j1
section
variable {k t:Nat}{D:zP}{w W:zW}
def vI.iJ (h:vI k t D w):D 0/\D 2:=⟨(h.plain.ok.iJ 0 MA.1).2,(h.plain.ok.iJ 2 MA.2).2⟩
def tW (f:Plain zq Qw.Al D w)(d:EL D w W){b}(a:D b):b<W.heap.size/\∀i,W.cell? ⟨b,i,aB⟩=w.cell? ⟨b,i,aB⟩:=by have hlt:=pB f a;have e:=Ef hlt;obtain h|⟨c,ty,fr,j,h1,g⟩:=d b a _ e;{refine⟨ji,λi=> ?_⟩;simp only[World.cell?];rw[h,e]};.refine⟨ji,λi=> ?_⟩;rw[h1]at e;rw[bG g,bG e]
def vI.aBO (h:vI k t D w)(a:EL D w W):iO W:=by let⟨f,a2⟩:=tW h.plain a h.iJ.1;let⟨e,d⟩:=tW h.plain a h.iJ.2;refine⟨⟨e,λj c=> ?_⟩,f,λj v b=> ?_⟩;{rw[d j];exact h.jJ.nY.2 j c};.rw[a2];exact h.jJ.jK j v b
def vI.down (h:vI k t D w)(b)(z o)(i v g)(hs)(m:D b)(f:aW w b z o i v g hs)(c)(e:z=aA c\/o=aA c):D c:=by let⟨fr,f⟩:=f.at';have a:∀{x:Option Nat},bM Qw.Al (cO D) (ptr x) (ptr x)->x=aA c->D c:=λ{x} l e=>by{subst e;cases l with|pointer hp=>cases hp with|some n=>exact n.1.2};obtain⟨cs,ty,p,d,j,_⟩|⟨_,q,d,j⟩:=h.plain.blk b m;{rw[f]at d;cases d;obtain e|e:=e;{exact a (j.at' 0 _ _ rfl rfl) e};.exact a (j.at' 1 _ _ rfl rfl) e};.rw[f]at d;cases d;exact absurd rfl (j.1 _ _ _)
def vI.aB1 (h:vI k t D w)(m:EL D w W){p:Option Nat}{us:List bE}{d lo hi:Nat}{rows:List (Nat×ByteArray)}(f:cU k w p us d lo hi rows)(j:∀b,p=aA b->D b):cU k W p us d lo hi rows:=f.stay h.down (λb z o i v g e l a=>⟨e,by let⟨fr,a⟩:=a.at';obtain a|⟨c,ty,fr,q,h1,n⟩:=m b l _ a;{exact⟨_,a⟩};.cases h1;exact⟨_,n⟩⟩) j
theorem vI.below (h:vI k t D w){B}(d:Below B w W)(j:w.heap.size<=B):vI k t D W:=by have l:∀b,D b->W.heap[b]? =w.heap[b]? :=λb f=>d.block b (Ao (pB h.plain f) j);refine⟨h.k1,h.k2,⟨h.plain.ok,Ao h.plain.low d.size,λb a=>by rw[l b a];exact h.plain.blk b a⟩,by grind[box],h.top,h.FC.below d j,h.jJ.below d j,λb z o i v g e a m=> ?_⟩;let⟨c,n⟩:=h.thaw b z o i v g e a ⟨by rw[<-l b a];exact m.at'⟩;exact⟨c,ji⟩
def vI.fork (h:vI k t D w){us all}(R:∀u∈us,u.idx.length=32/\u.val.length<=100)(L:all.length<=1000000){bs:List Nat}(G:∀b∈bs,∃n,mC k w D us all n b)(hlen:bs.length<=32){q}(O:rI w q (bs.map aA))(N:∀a,q=aA a->¬Cq w.heap[a.block]?):
  ∃bp o rows,Fork bs.length q bp o t D (λi=>(bs[i]?).map λb=>⟨b,0,aB⟩) rows w/\∀i,i<bs.length->∃b d n lo hi,bs[i]? =aA b/\cU k w (aA b) d n lo hi (rows i)/\(∀x∈rows i,x∈all)/\∃z o i v C,aW w b z o i v [] C:=by
 have F:∀i,∃r:List (Nat×ByteArray),i<bs.length->∃b d n lo hi,bs[i]? =aA b/\cU k w (aA b) d n lo hi r/\(∀x∈r,x∈all)/\r.length<=all.length/\(∀u∈d,u∈us)/\D b/\∃z o i v C,aW w b z o i v [] C:=λi=>by by_cases hi:i<bs.length;{obtain⟨n,P⟩:=G _ (Fp hi);obtain⟨d,lo,l,r,y,m,U,T⟩:=P.tree;exact⟨r,by grind[mC.new,mC.Zy]⟩};{exact⟨[],by omega⟩}
 obtain⟨rows,f⟩:=Classical.skolem.1 F;obtain⟨bp,o,H⟩:∃bp o,0<bs.length->q=aA ⟨bp,o,aB⟩/\bp<w.heap.size/\∀j p,(bs.map aA)[j]? =aA p->w.cell? ⟨bp,o+j,aB⟩=aA (ptr p):=by by_cases V:0<bs.length;{obtain⟨g,o,e,y,m⟩:=O (by grind);grind};{exact⟨0,0,by omega⟩}
 refine⟨bp,o,rows,⟨by omega,by grind,by grind,λi hi=> ?_,h.plain,h.box,h.top,λi hi a S=> ?_,λi hi=> ?_,λi hi x J=> ?_,λi hi W I=> ?_⟩,λi hi=> ?_⟩
 .obtain⟨b,d,n,lo,l,e,_⟩:=f i hi;rw[(H (by omega)).2.2 i (aA b) (by grind),e];rfl
 .grind
 .grind
 .obtain⟨b,d,n,lo,l,e,s,_,_,_,Q,_⟩:=f i hi;have y:=s.Zy h.down (by grind) x J;obtain⟨z,o,i,v,g,C,B⟩:=(s.Hb.2 x J).cell;obtain⟨c,m⟩:=h.thaw _ _ _ _ _ _ _ y B;refine⟨y,c,m,?_⟩;obtain⟨fr,K⟩:=B.at';rw[m]at K;cases K;rfl
 .obtain⟨b,d,n,lo,l,e,s,_,hl,M,Q,_⟩:=f i hi;have:=VI h.k1 h.k2 (by
    obtain⟨y,m⟩:=tW h.plain I h.top;exact⟨y,(m 0).trans h.FC.wid,(m 2).trans h.FC.emp⟩) (h.aBO I) (h.aB1 I s (by grind)) (by grind) (by omega)
  rw[e];exact this
 .obtain⟨b,d,n,lo,l,e,s,E,_,_,_,A⟩:=f i hi;exact⟨b,d,n,lo,l,e,s,E,A⟩
end
section
variable {k:Nat}{w w':zW}{p:Option Nat}{us:List bE}{d lo hi:Nat}{rows L:List (Nat×ByteArray)}
theorem PN {b z o i v g hs}(h:aW w b z o i v g hs)(s):aW (qZ w (b,s)) b z o i v (zAM s.data) hs:=by let⟨fr,h⟩:=h.at';refine⟨fr,?_⟩;have:=dM h 4 (aL s);exact j5
def AQ {b z o i v g hs}(h:aW w b z o i v g hs){x}(a:b≠x.1):aW (qZ w x) b z o i v g hs:=⟨by rw[vO a];exact h.at'⟩
def qY {b:Nat}{z o:Option Nat}{i v:zB}{hs:Int}{s:ByteArray}:∀(L:List (Nat×ByteArray)){w:zW}{g:zB},(∀a,(b,a)∈L->a=s)->(∃a,(b,a)∈L)\/g=zAM s.data->aW w b z o i v g hs->aW (Go.Ga.dE L w) b z o i v (zAM s.data) hs
 |[],w,g,_,h,c=>by obtain⟨_,h⟩|h:=h;{simp at h};{rw[<-h];exact c}|x::L,w,g,f,h,c=>by rw[XV];by_cases e:b=x.1;{have l:x.2=s:=by{grind};have j:aW (qZ w x) b z o i v (zAM s.data) hs:=by{grind[PN]};exact qY L ji (aI rfl) j};.refine qY L ji ?_ (AQ c e);exact ji
theorem cU.root (e:1<=k)(hk:k<=32)(h:cU k w p us d lo hi rows){b}(a:p=aA b){z o i v hs}(c:aW w b z o i v [] hs):∃s,(b,s)∈rows:=by cases h with|done h=>{exfalso;cases h with|nil=>cases a|leaf h=>cases a;exact sW e hk (bU h c).2.2.2.2.1|node _ _ h=>cases a;exact sW e hk (bU h c).2.2.2.2.1}|leaf=>grind|node=>exact ji
theorem cU.closed (B:1<=k)(hk:k<=32)(h:cU k w p us d lo hi rows):∀b s z o i v f,(b,s)∈rows->aW w b z o i v [] f->∀c,z=aA c\/o=aA c->(∃z o i v f,aW w c z o i v [] f)->∃g,(c,g)∈rows:=by induction h with|done=>grind|leaf _ _ h=>grind[bU,List.mem_singleton]|node A x h t u hb l j=>intro C s q r i v m a y c e n;obtain a|a:=Bl.1 a;{grind};grind[root,bU,List.mem_singleton]
def zEi {all:List (Nat×ByteArray)}(h:(all.map (·.1)).Nodup){b s s'}(c:(b,s)∈all)(a:(b,s')∈all):s=s':=by induction all<;>grind
structure Lot (w:zW)(all L:List (Nat×ByteArray)):Prop where
 sub:∀x∈L,x∈all
 down:∀b s z o i v hs,(b,s)∈L->aW w b z o i v [] hs->∀c,z=aA c\/o=aA c->(∃z o i v hs,aW w c z o i v [] hs)->∃s',(c,s')∈L
def cU.wrote (y:1<=k)(hk:k<=32)(h:cU k w p us d lo hi rows)(r:Lot w rows L)(u:fB L w w'):
  (∃dB,cU k w' p us d lo hi dB/\(∀x∈dB,x∈rows)/\zAH dB<=zAH rows)/\((∀b,p=aA b->(∃z o i v a,aW w b z o i v [] a)->∃s,(b,s)∈L)->dQ k w' p us d):=by
 have t:=h.each;obtain⟨C,B⟩:=h.part (S:=λb=>∃s,(b,s)∈L) y hk (λb ⟨s,a⟩=>(t.1 _ (r.sub _ a)).2.2) (λb z o i v a ⟨s,l⟩ j c e q=>r.down b s z o i v a l j c e q) (λb s ⟨s0,l⟩ n z o i v a j=>by
   have f:=qY L (λA m=>(zEi t.2 (r.sub _ m) n)) (by grind) j;let⟨fr,f⟩:=f.at';exact⟨a,fr,by rw[u.heap b j.lt];exact f⟩) (λb l z o i v g a j=>⟨a,⟨by
   rw[show w'.heap[b]? =w.heap[b]? from(u.heap b j.lt).trans (iL _ λx D e=>l ⟨x.2,by grind⟩)];exact j.at'⟩⟩) (λ_ h=>h)
 exact ji
def pe (r:1<=k)(hk:k<=32){all rs N}(h:∀i,i<N->∃b u n lo hi,cU k w (aA b) u n lo hi (rs i)/\∀x∈rs i,x∈all):Lot w all (allRows rs N):=by have f:∀{n:Nat}{i:Nat}{x:Nat×ByteArray},i<n->x∈rs i->x∈allRows rs n:=λ{n}=>by{induction n with|zero=>omega|succ n j=>intro i x hi a;by_cases e:i=n;{subst e;exact Bl.2 (aI a)};{exact Bl.2 ji}};refine⟨λx a=> ?_,λb s z o i v l q m c e g=> ?_⟩;{grind[iA]};grind[cU.closed,iA]
end
def tN (k t:Nat)(D:zP)(us:List bE)(c:List PanicEntry)(w:zW):Prop:= ∃(q:zO)(d:List Nat)(cp:Nat)(all:List (Nat×ByteArray)),c=told (full #[jF t,jX q (zAH d) cp])/\zAH d<=32/\zAH d<=cp/\zAH all<=1000000/\rI w q (d.map aA)/\(∀a,q=aA a->∃e,w.heap[a.block]? =aA (aJ e 264 (0,0)))/\∀b∈d,∃n,mC k w D us all n b
def tN.aAh {k t:Nat}{D:zP}{us:List bE}{c:List PanicEntry}{w:zW}(h:tN k t D us c (dL w))(d:vI k t D (dL w))(b:∀u∈us,zAH u.idx=32/\zAH u.val<=100):mJ c w:=by let⟨q,m,cp,all,e,l,j,i,g,r,f⟩:=h;let⟨bp,o,rows,hF,_⟩:=d.fork b i f l g λa p ⟨x,n⟩=>by{grind};exact⟨zAH m,q,bp,o,cp,t,D,_,rows,e,j,hF⟩
structure ET (all:List (Nat×ByteArray))(w w':zW):Prop where
 os:w'.os=w.os
 tape:w'.tape=w.tape
 output:w'.output=w.output
 size:w.heap.size<=w'.heap.size
 block:∀b,b<w.heap.size->(∀x∈all,x.1≠b)->w'.heap[b]? =w.heap[b]?
 cell:∀b z o i v g hs,aW w b z o i v g hs->∃g',aW w' b z o i v g' hs
 thaw:∀b,eW w b->eW w' b
section
variable {k t:Nat}{D:zP}{w w1 w':zW}{all L:List (Nat×ByteArray)}
def Uk {b z o i v g hs}(h:aW w b z o i v g hs)(x:Nat×ByteArray):∃a,aW (qZ w x) b z o i v a hs:=by by_cases e:b=x.1;{refine⟨zAM x.2.data,?_⟩;grind[PN]};.exact⟨g,AQ h e⟩
def KN {b:Nat}{z o:Option Nat}{i v:zB}{hs:Int}:∀(L:List (Nat×ByteArray)){w:zW}{g:zB},aW w b z o i v g hs->∃a,aW (Go.Ga.dE L w) b z o i v a hs
 |[],_,g,h=>⟨g,h⟩|x::L,_,_,h=>by let⟨a,c⟩:=Uk h x;exact KN L c
def FQ {b:Nat}:∀(L:List (Nat×ByteArray)){w:zW},eW w b->eW (Go.Ga.dE L w) b
 |[],_,h=>h|x::L,_,h=>FQ L (by let⟨c,h⟩:=h;by_cases e:b=x.1;{subst e;exact⟨_,dM h 4 _⟩};.exact⟨c,by rw[vO e];exact h⟩)
theorem eW.lt {b}(h:eW w b):b<w.heap.size:=by let⟨c,h⟩:=h;exact ji
def ET.of (h:fB L w w')(m:∀x∈L,x∈all):ET all w w':= ⟨h.os,h.tape,h.output,h.size,λb a l=>(h.heap b a).trans (iL _ ji),λb z o i v g j e=>by let⟨f,fr,d⟩:=KN L e;exact⟨f,fr,by rw[h.heap b e.lt];exact d⟩,λb a=>by let⟨c,d⟩:=FQ L a;exact⟨c,by rw[h.heap b a.lt];exact d⟩⟩
theorem ET.below {B:Nat}(a:Below B w w')(e:w.heap.size<=B):ET all w w':= ⟨a.os,a.tape,a.output,a.size,λb h _=>a.block b bm,λb z o i v g f d=>⟨g,⟨Z9⟩⟩,λb h=>L6⟩
def ET.trans (h:ET all w w1)(a:ET all w1 w'):ET all w w':= ⟨a.os.trans h.os,a.tape.trans h.tape,a.output.trans h.output,Az h.size a.size,λb c d=>(a.block b (Ao c h.size) d).trans (h.block b c d),by grind[cell],λb c=>a.thaw b (h.thaw b c)⟩
theorem mz (a:qJ w t k){b z o i v g hs}(h:aW w b z o i v g hs):b≠t:=λe=>by subst e;have c:=a.wid;rw[h.c0]at c;exact ji
def Td (c:iO w){b z o i v g hs}(a:aW w b z o i v g hs):b≠0/\b≠2:=by
 constructor
 .rintro rfl;have h:=c.jK 0 _ (rfl:H0.cells.toList[0]? =aA _);rw[a.c0]at h;exact ji
 .rintro rfl;have h:=c.nY.2 0 bm;rw[a.c0]at h;exact ji
def qJ.Xy (h:qJ w t k)(c:ET all w w')(b:∀x∈all,∃z o i v g hs,aW w x.1 z o i v g hs):qJ w' t k:=by have d:w'.heap[t]? =w.heap[t]? :=by{grind[ET.block,mz,lt]};have a:∀i,w'.cell? (t,i)=w.cell? ⟨t,i,aB⟩:=λi=>by{simp only[World.cell?];rw[d]};exact⟨Ao h.lt c.size,(a 0).trans h.wid,(a 2).trans h.emp⟩
def iO.Xy (h:iO w)(b:ET all w w')(a:∀x∈all,∃z o i v g hs,aW w x.1 z o i v g hs):iO w':=by have n:w'.heap[0]? =w.heap[0]? :=b.block 0 h.lt λx c e=>by{let⟨z,o,i,v,g,hs,d⟩:=a x c;exact(Td h d).1 e};have m:w'.heap[2]? =w.heap[2]? :=b.block 2 h.nY.1 λx c e=>by{let⟨z,o,i,v,g,hs,d⟩:=a x c;exact(Td h d).2 e};refine⟨⟨Ao h.nY.1 b.size,λj l=> ?_⟩,Ao h.lt b.size,λj v f=> ?_⟩;{rw[show w'.cell? (2,j)=w.cell? (2,j) by simp only[World.cell?];rw[m]];exact h.nY.2 j l};.rw[show w'.cell? (0,0+j)=w.cell? (0,0+j) by simp only[World.cell?];rw[n]];exact h.jK j v f
def VJ {top:Option Nat}{us:List bE}{lo hi:Nat}(R:vI k t D w)(h0:yB w)(H:cU k w top us 0 lo hi all)(hp:∀b,top=aA b->D b)(hu:∀u∈us,zAH u.idx=32/\zAH u.val<=100)(Q:zAH all<=1000000): Calls zq 224 #[aO t,ptr top] w λe w'=>(e=aM (.tuple #[])/\dQ k w' top us 0/\ET all w w')\/∃c,e= .panicked c/\Fl w'/\tN k t D us c (dL w')/\zb w (dL w'):=by have m:=R.k1;have j:=R.k2;have HP:Hid (Calls zq 234 #[ptr top] w λe w1=>∃(q:zO)(cp:Nat)(y:List Nat),e=aM (aK q (zAH y) cp)/\zAH y<=cp/\rI w1 q (y.map aA)/\(∀a,q=aA a->∃A,w1.heap[a.block]? =aA (aJ A 264 (0,0)))/\(∀b∈y,∃n,mC k w1 D us all n b)/\zAH y<=32/\zb w w1):=by{obtain⟨f1,f2⟩:wR w (Af w) top/\(Af w top=aF->∃b,top=aA b/\mC k w D us all 0 b):=by{refine⟨Good.aAb H.Hb.1,λhf=> ?_⟩;cases top with|none=>cases hf|some b=>let⟨z2,o2,i2,v2,V,hs2,uc⟩:=(H.Hb.1 b rfl).cell;rw[uc.fr]at hf;have e:=List.isEmpty_iff.1 hf;subst e;exact⟨b,rfl,bm,hp b rfl,ji,us,lo,hi,all,H,λ_ H=>H,je _,λ_ H=>H⟩};refine(zGo (pc R.down m j us all) f1 f2).mono ?_;rintro e w1 ⟨v',y,rfl,o1,p1,l1,N⟩;obtain⟨q,cp,rfl,W,V,g3⟩:=o1.TF;rw[Hj]at W⊢;refine⟨q,cp,y,rfl,W,V,λa M=>(g3 a M).2.2,λb U=> ?_,l1,N⟩;let⟨n,p⟩:=p1 b U;have f:∀b z o i v g d,aW w b z o i v g d->aW w1 b z o i v g d:=λb z o i v g d h=>⟨by rw[N.block b h.lt];exact h.at'⟩;exact s3};have HW:Hid (∀(w1:zW)(q:zO)(cp:Nat)(y:List Nat),zAH y<=cp->rI w1 q (y.map aA)->(∀a,q=aA a->∃A,w1.heap[a.block]? =aA (aJ A 264 (0,0)))->(∀b∈y,∃n,mC k w1 D us all n b)->zAH y<=32->zb w w1->Calls zq 233 #[aO t,aK q (zAH y) cp] w1 λe w2=>(e=aM (.tuple #[])/\ET all w w2/\∃dB,cU k w2 top us 0 lo hi dB/\(∀x∈dB,x∈all)/\zAH dB<=zAH all)\/∃c,e= .panicked c/\Fl w2/\tN k t D us c (dL w2)/\zb w (dL w2)):=λw1 q cp y h1 h2 h3 h4 h5 N=>by{have hD1:=R.below N (je _);have hr1:cU k w1 top us 0 lo hi all:=H.keep m j λb z o i v g d h=>⟨d,⟨by rw[N.block b h.lt];exact h.at'⟩⟩;let⟨bp,o,rows,hF,S⟩:=hD1.fork hu Q h4 h5 h2 λa M ⟨x,I⟩=>by{let⟨A,h⟩:=h3 a M;rw[h]at I;cases I};have hc0:=jQ (N.block 0 (lZ h0.cell));refine(zEo hF ⟨hc0.1.trans h0.cell,hc0.2.trans h0.thaw⟩ h1).mono ?_;rintro e w2 (⟨rfl,Y⟩|⟨rfl,hfl,hm,Ke⟩);{left;have O:Lot w1 all (allRows rows (zAH y)):=pe m j λi hi=>by{let⟨b,C,n,E,G,_,W,V,_⟩:=S i hi;exact⟨b,C,n,E,G,W,V⟩};exact⟨rfl,(ET.below N (je _)).trans (.of Y O.sub),(hr1.wrote m j O Y).1⟩};.right;refine⟨_,rfl,hfl,⟨q,y,cp,all,rfl,h5,h1,Q,?_,λa M=> ?_,λb U=> ?_⟩,N.trans (Ke.mono N.size)⟩;{exact h2.kept hm.size λa M=>hm.old _ (by let⟨A,h⟩:=h3 a M;exact(Ax.1 h).1)};{obtain⟨A,h⟩:=h3 a M;exact⟨A,by rw[hm.old _ (Ax.1 h).1];exact h⟩};.obtain⟨n,p⟩:=h4 b U;have f:∀b z o i v g d,aW w1 b z o i v g d->aW (dL w2) b z o i v g d:=λb z o i v g d h=>⟨by rw[hm.old b h.lt];exact h.at'⟩;exact s3};have F:=H.each.1;have B:∀x∈all,∃z o i v g d,aW w x.1 z o i v g d:=λx I=>by{let⟨_,_,z,o,i,v,d,h⟩:=F x I;exact⟨z,o,i,v,[],d,h⟩};have HK:Hid (∀(w2:zW)(dB:List (Nat×ByteArray)),ET all w w2->cU k w2 top us 0 lo hi dB->(∀x∈dB,x∈all)->zAH dB<=zAH all->Calls zq 236 #[aO t,ptr top] w2 λe w3=>∃q l cp,e=aM (aK q l cp)/\Calls zq 235 #[aK q l cp] w3 λe' w4=>e'=aM (.tuple #[])/\dQ k w4 top us 0/\ET all w w4):=λw2 dB P Z K hlen=>by{refine(VI m j (R.FC.Xy P B) (R.jJ.Xy P B) Z hu bm).mono ?_;rintro e w3 ⟨q,l,cp,rfl,W,V,g3,b3⟩;refine⟨q,l,cp,rfl,?_⟩;have J:cU k w3 top us 0 lo hi dB:=Z.keep m j λb z o i v g d h=>⟨d,⟨by rw[b3.block b h.lt];exact h.at'⟩⟩;refine(MJ dB q l cp w3 V W bm (λx I=> ?_) (λa M x I e=> ?_)).mono ?_;{obtain⟨_,_,z,o,i,v,d,h⟩:=F x (K x I);have ht2:=(P.trans (ET.below b3 (je _))).thaw _ (R.thaw _ _ _ _ _ _ _ (H.Zy R.down hp x (K x I)) h);let⟨c,h4⟩:=ht2;refine⟨c,h4,?_⟩;let⟨g',fr,h5⟩:=(P.trans (ET.below b3 (je _))).cell _ _ _ _ _ _ _ h;rw[h4]at h5;cases h5;rfl};{obtain⟨_,_,z,o,i,v,d,h⟩:=F x (K x I);have h6:=g3 a M;have h7:=h.lt;have h8:=P.size;exact bm};.rintro e w4 ⟨rfl,X⟩;refine⟨rfl,(J.wrote m j (⟨λ_ J=>J,λb s z o i v d U h c e uc=>by grind[cU.closed]⟩) X).2 λb U ⟨z,o,i,v,d,h⟩=>J.root m j U h,(P.trans (ET.below b3 (je _))).trans (.of X K)⟩};have htp:∃pp,pp=ptr top:=⟨_,rfl⟩;let⟨pp,T⟩:=htp;rw[<-T]at HP⊢;simp only[<-T]at HK;clear T;go_enter (Qz.fn func224),ntmps224;go_wp2_with fail;refine HP.mono ?_;rintro e w1 ⟨q,cp,y,rfl,a1,a2,a3,a4,a5,a6⟩;have HW2:=hid (HW w1 q cp y a1 a2 a3 a4 a5 a6);go_wp2_with fail;refine HW2.mono ?_;rintro e w2 (⟨rfl,P,dB,c1,c2,c3⟩|⟨c,rfl,c0,c1,c2⟩);{have HK2:=HK w2 dB P c1 c2 c3;go_wp2_with fail;refine(hid HK2).out.mono ?_;rintro e w3 ⟨q3,l3,cp3,rfl,h3⟩;go_wp2_with fail;refine(hid h3).out.mono ?_;rintro e w4 ⟨rfl,d1,d2⟩;go_wp2;go_end0;exact aH ⟨rfl,(hid d1).out,(hid d2).out⟩};.exact⟨rfl,aI ⟨c,rfl,c0,c1,c2⟩⟩
end
def Qz.ntmps219:Qz.f219.ntmps=37:=rfl
def cS (w:zW)(t:Nat)(x0 x1 x2 x3 x4:zY)(c:Int):Prop:=w.heap[t]? =aA (aJ #[x0,x1,x2,x3,x4,c] 168 (0,0))
structure Hl (t:Nat)(w w':zW):Prop where
 os:w'.os=w.os
 tape:w'.tape=w.tape
 output:w'.output=w.output
 size:w.heap.size<=w'.heap.size
 block:∀b,b<w.heap.size->b≠t->(∀z o i v g hs,¬aW w b z o i v g hs)->w'.heap[b]? =w.heap[b]?
 cell:∀b z o i v g hs,aW w b z o i v g hs->∃hs',aW w' b z o i v g hs'
 thaw:∀b,eW w b->eW w' b
def vH (t:Nat)(S:zP)(w w':zW):Prop:=∀x,x<w.heap.size->x≠t->¬S x->w'.heap[x]? =w.heap[x]?
section
variable {w w1 w':zW}{t b:Nat}{x0 x1 x2 x3 x4:zY}{c:Int}{z o:Option Nat}{i v g:zB}{hs:Int}
theorem cS.lt (h:cS w t x0 x1 x2 x3 x4 c):t<w.heap.size:=(Ax.1 h).1
theorem cS.ne (h:cS w t x0 x1 x2 x3 x4 c)(a:aW w b z o i v g hs):b≠t:=λe=>by subst e;let⟨fr,a⟩:=a.at';unfold cS at h;exact ji
theorem cS.below (h:cS w t x0 x1 x2 x3 x4 c){B}(a:Below B w w')(d:w.heap.size<=B):cS w' t x0 x1 x2 x3 x4 c:=(a.block t (Ao h.lt d)).trans h
def vH.refl {S:zP}:vH t S w w:=λ_ _ _ _=>rfl
theorem vH.below {S:zP}{B:Nat}(h:Below B w w')(d:w.heap.size<=B):vH t S w w':=λx a _ _=>h.block x bm
def vH.trans {S S1:zP}(h:vH t S w w1)(f:vH t S1 w1 w')(hs:w.heap.size<=w1.heap.size)(j:∀x,x<w.heap.size->S1 x->S x):vH t S w w':=λx d a e=>(f x bm a ji).trans (h x d a e)
def vH.set {S:zP}(b i:Nat)(v:zY)(d:b=t\/S b):vH t S w (zAJ w (b,i) v):=λx _ h a=>Du _ _ _ _ ji
def Hl.refl:Hl t w w:=⟨rfl,rfl,rfl,je _,by grind,by grind,λ_ h=>h⟩
def Hl.trans (h:Hl t w w1)(a:Hl t w1 w'):Hl t w w':= ⟨a.os.trans h.os,a.tape.trans h.tape,a.output.trans h.output,Az h.size a.size,λb f j k=>by have e:=h.block b f j k;exact(a.block b ji j λz o i v g hs d=>k z o i v g hs ⟨by rw[<-e];exact d.at'⟩).trans e,λb z o i v g hs d=>by let⟨l,d⟩:=h.cell _ _ _ _ _ _ _ d;exact a.cell _ _ _ _ _ _ _ d,λb f=>a.thaw b (h.thaw b f)⟩
theorem Hl.below {B:Nat}(a:Below B w w')(e:w.heap.size<=B):Hl t w w':= ⟨a.os,a.tape,a.output,a.size,λb h _ _=>a.block b bm,λb z o i v g hs d=>⟨hs,⟨Z9⟩⟩,λb h=>L6⟩
def Hl.hold (q:aW w b z o i v g hs)(m):Hl t w (zAJ w (b,5) (aC aD m)):=by refine⟨rfl,rfl,rfl,j1,N5,λj k n p l r d a=> ?_,λj f=> ?_⟩;{by_cases e:j=b;{subst e;let⟨fr,a⟩:=a.at';exact⟨m,fr,by rw[dM a 5];rfl⟩};.exact⟨d,⟨by grind[aW.at',Eg]⟩⟩};.obtain⟨cs,h⟩:=f;by_cases e:j=b;{subst e;exact⟨_,dM h 5 _⟩};.exact⟨cs,N5⟩
def Hl.count (h:cS w t x0 x1 x2 x3 x4 c)(m):Hl t w (zAJ w (t,5) (aC aD m))/\cS (zAJ w (t,5) (aC aD m)) t x0 x1 x2 x3 x4 m:=by refine⟨⟨rfl,rfl,rfl,j1,N5,λf k n p l r a j=>⟨a,⟨by grind[aW.at',Eg,cS.ne]⟩⟩,λf d=> ?_⟩,?_⟩;{obtain⟨cs,q⟩:=d;have e:f≠t:=λe=>by{subst e;unfold cS at h;exact ji};exact⟨cs,N5⟩};.unfold cS at h⊢;rw[dM h 5];rfl
def cS.hold (h:cS w t x0 x1 x2 x3 x4 c)(a:aW w b z o i v g hs)(m):cS (zAJ w (b,5) (aC aD m)) t x0 x1 x2 x3 x4 c:=(Du _ _ _ _ (h.ne a).symm).trans h
def cS.c5 (h:cS w t x0 x1 x2 x3 x4 c):w.cell? (t,5)=aA (c:zY):=(bG h 5).trans rfl
def cS.f5 (h:cS w t x0 x1 x2 x3 x4 c):w.frozen? (t,5)=aG:=eI h 5
def Kv {args:zA}{w:zW}{R:Ending->zW->Prop}(h:Qz.UJ.wp zq (bodyPost zq Qz.f219 R) {tmps:=args++Array.replicate (Qz.f219.ntmps-args.size) undef,defers:=[]} w):Calls zq 219 args w R/\∀u,CallsD zq 219 args u w λe a w'=>a=u/\R e w':=⟨calls_of_wp Qz.func219 rfl h,λu=>callsD_of_wp Qz.func219 rfl h⟩
def RH (w)(x):zb w (w.alloc (aJ #[.bool x] 4)).drew:=((Av _ w).alloc (je _) _).drew
def Fg (t:Nat)(n:Int)(w:zW):Prop:=t≠0/\w.cell? (0,0)=aA (aC aP n)
def Fg.hl {n:Int}(h:Fg t n w)(d:Hl t w w'):Fg t n w':=⟨h.1,(jQ (d.block 0 (lZ h.2) (Dp h.1) λz o i v g hs a=>by have e:=a.c0;rw[h.2]at e;exact ji)).1.trans h.2⟩
end
end Go.Proofs.Zq
