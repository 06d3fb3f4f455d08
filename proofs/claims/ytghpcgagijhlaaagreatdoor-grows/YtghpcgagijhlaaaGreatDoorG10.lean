import Derived.Lib.AppendStr
import Derived.Test.YtghpcgagijhlaaaGreatDoorG09
set_option linter.all false
set_option maxRecDepth 100000
set_option maxHeartbeats 16000000
open Option renaming some->aA,none->aB
open Bool renaming true->aF,false->aG
open Or renaming inl->aH,inr->aI
open Go.Ending renaming returned->aM
open Go.Obj renaming cells->aJ
open Go.IntKind renaming i64->aD,u8->aQ
open Go.Value renaming slice->aK,string->aL,pointer->aO,int->aC
open Go.Lib renaming strCells->aNs,wpList_append_own_string->aNt
open UInt8 renaming ofNat->Dw
open Go.Proofs.Tryz
open List renaming length->zAH,toArray->zAL
open Array renaming setIfInBounds->zAI,toList->zAM
open Go.World renaming setCell->zAJ,alloc->zAK
section
variable {P:Prop}
def C1(h:P:=by have:=G.out;exact bm):=h
def G3(h:P:=by rw[Hh];exact bm):=h
def H8(h:P:=by have:=y.out;exact bm):=h
def I0(h:P:=by simp only[CH];exact bm):=h
def J2(h:P:=by have d:(W:Addr).add j=(W,j):=r9;rw[d];show(W.alloc (aJ (kN e).toArray 102)).cell? _=_;exact j1):=h
def L5(h:P:=by simp only[At,Bf];exact bm):=h
def N7(h:P:=by rw[Dm];exact bm):=h
def O7(h:P:=by simp only[Bf];exact bm):=h
def U0(h:P:=by go_light;exact⟨s+1,bm,j9,by rw[p.out];rfl,Q.out⟩):=h
def V0(h:P:=by rintro e w2 ⟨rfl,hb⟩;have B:=hid hb;go_wp2;go_ret;exact⟨by simp[a],B.out⟩):=h
def X2(h:P:=by rintro e w1 ⟨rfl,hb⟩;go_wp2;go_ret;exact⟨rfl,(hid hb).out⟩):=h
def X7(h:P:=by go_wp2;go_ret;exact⟨rfl,B.out⟩):=h
def q9(h:P:=by go_wp2_with fail;refine(H.out wn J.out).mono ?_;clear H;rintro e w3 ⟨rfl,E⟩;have B3:=hid (aY (aY j.out J.out j.out.size).out E (Az j.out.size J.out.size));clear E e2;go_wp2;go_ret;exact .of ⟨by rw[G.out];rfl,B3.out⟩):=h
end
namespace Go.Proofs.Zq
open Go Go.RowKit Sha Go.Ga Go.Ren
def bO.tR {w base v l}(h:bO w base v l):∃a c,v=aK a (zAH l) c/\zAH l<=c/\bN w a l:=by obtain⟨rfl,d⟩|⟨g,cap,cur,rfl,hb,hh,h1,m,i,f⟩:=h.2;{exact⟨aB,0,by rw[d],bm,λh=>bm⟩};.refine⟨aA g,cap,rfl,h1,λ_=>⟨g,0,rfl,ji,λj u e=> ?_⟩⟩;rw[Ce,Eh w g j cur 53 (0,0) hh];exact ji
structure Gw (k t b cap n:Nat)(C0 C:zP)(cur:zA)(R x4 c:Int)(NX:List bE)(S:List (List bE))(rows:List (Nat×ByteArray))(lo hi:Nat)(p:Option Nat)(tp l:List (Option Nat))(q:Option Nat)(w W:zW):Prop where
 mem:jR k t b cap n C cur R x4 c W
 rep:cU k W p NX 0 lo hi rows
 vY:∀b,p=aA b->C b
 hl:Hl t w W
 Xf:vH t C0 w W
 eX:nO k t C cur cap tp S W
 xE:CQ W (tp++[p]) (S++[NX])
 Rt:wI t W C l q
structure Gd (k t b cap n:Nat)(C0 C:zP)(cur:zA)(R x4 c:Int)(NX:List bE)(S:List (List bE))(p:Option Nat)(tp l:List (Option Nat))(b0:Nat)(w W:zW):Prop where
 mem:jR k t b cap n C cur R x4 c W
 rep:dQ k W p NX 0
 vY:∀b,p=aA b->C b
 save:dA (kV t b0 C0) w W
 eX:nO k t C cur cap tp S W
 xE:CQ W (tp++[p]) (S++[NX])
 Rt:wI t W C l aB
structure Gl (k t b cap n:Nat)(C0 C:zP)(cur:zA)(R x4 c:Int)(S:List (List bE))(tp l:List (Option Nat))(b0:Nat)(w W:zW):Prop where
 mem:jR k t b cap n C cur R x4 c W
 save:dA (kV t b0 C0) w W
 eX:nO k t C cur cap tp S W
 Rt:wI t W C l aB
section
variable {k t b cap n lo hi:Nat}{C0 C C':zP}{cur:zA}{R x4 c c':Int}{NX last cs:List bE}{S:List (List bE)}{rows:List (Nat×ByteArray)}{p q q':Option Nat}{l l' tp:List (Option Nat)}{w W W':zW}
def GX (h:∀p∈tp,∀b,p=aA b->C b)(a:∀b,p=aA b->C b):∀r∈tp++[p],∀b,r=aA b->C b:=ji
def SA {a:Nat}(d:∀x,C x->x<w.heap.size->C0 x):∀x,kV t a C x->x<w.heap.size->kV t a C0 x:=λx h hlt=>h.imp id ji
theorem In.mem {x:Nat}(h:In w p x)(d:CS w C):(∀b,p=aA b->C b)->C x:=by induction h with|here b=>grind|zero a _ i=>grind[CS.down]|one a _ i=>grind[CS.down]
def CQ.snoc {N:List Nat}{m:Nat}(h:CQ w tp S)(hl:zAH tp=zAH S)(D:zAH S=m+1)(B:tp[m]? =aA q)(a:S[m]? =aA last)(A:N.Nodup)(z:zAH N=dZ (aV NX) (aV last) 0)(n3:∀x∈N,In w p x/\∀r∈tp,¬In w r x)(y:∀x,In w p x->In w q x\/x∈N):CQ w (tp++[p]) (S++[NX]):=λi j q' us v g d f e=>by have hi:=(Bx.1 d).1;rw[At,Ie]at hi;rw[GN bm]at g f;by_cases o:i+1<zAH tp;{rw[GN o]at d;rw[GN bm]at e;let⟨u,s,a2,a3,a4⟩:=h i j q' us v g d f e;exact⟨u,s,a2,ji,a4⟩};grind[List.getElem?_append_right]
def nO.hl (h:nO k t C cur cap tp S w)(j:Hl t w W)(m:CS w C)(s:∀x,C x->C' x):nO k t C' cur cap tp S W:=h.go (λb z o i v g d _ f=>j.cell b z o i v g d f) m h.len h.Qi h.size (λx a=>by let⟨p,e,r⟩:=(h.vY x a);exact⟨p,e,ji⟩) rfl
def Gw.next (j:1<=k)(hk:k<=32)(e:zq.globals.size<t)(h:Gw k t b cap n C0 C cur R x4 c NX S rows lo hi p tp l q w W)(a:Hl t W W')(f:vH t C W W')(i:∀x,C x->x<w.heap.size->C0 x)(g:cS W' t k (aC aD R) (aL ⟨zAL (dg k [0])⟩) (aK b n cap) (aC aD x4) c')(d:wI t W' C l' q'):Gw k t b cap n C0 C cur R x4 c' NX S rows lo hi p tp l' q' w W':= ⟨h.mem.hl a e g (h.mem.cs.hl a),h.rep.hl j hk a,h.vY,h.hl.trans a,h.Xf.trans f h.hl.size ji,h.eX.hl a h.mem.cs λ_ h=>h,h.xE.go a.pK h.mem.cs (GX (oA h.eX.vY h.eX.take) h.vY),d⟩
theorem Gw.below (f:1<=k)(hk:k<=32)(e:zq.globals.size<t)(d:∀x,C x->x<w.heap.size->C0 x)(h:Gw k t b cap n C0 C cur R x4 c NX S rows lo hi p tp l q w W)(a:zb W W'):Gw k t b cap n C0 C cur R x4 c NX S rows lo hi p tp l q w W':=h.next f hk e (.below a (je _)) (.below a (je _)) d (h.mem.tr.below a (je _)) (h.Rt.below a (je _))
def Gd.next {e:Nat}(m:1<=k)(hk:k<=32)(g:zq.globals.size<t)(h:Gd k t b cap n C0 C cur R x4 c NX S p tp l e w W)(a:Hl t W W')(i:vH t C W W')(d:∀x,C x->x<w.heap.size->C0 x)(j:cS W' t k (aC aD R) (aL ⟨zAL (dg k [0])⟩) (aK b n cap) (aC aD x4) c')(f:wI t W' C l' aB):Gd k t b cap n C0 C cur R x4 c' NX S p tp l' e w W':= ⟨h.mem.hl a g j (h.mem.cs.hl a),h.rep.hl m hk a,h.vY,h.save.then (.hl (b:=e) a i) (SA d),h.eX.hl a h.mem.cs λ_ h=>h,h.xE.go a.pK h.mem.cs (GX (oA h.eX.vY h.eX.take) h.vY),f⟩
theorem Gd.below {e:Nat}(g:1<=k)(hk:k<=32)(f:zq.globals.size<t)(d:∀x,C x->x<w.heap.size->C0 x)(h:Gd k t b cap n C0 C cur R x4 c NX S p tp l e w W)(a:zb W W'):Gd k t b cap n C0 C cur R x4 c NX S p tp l e w W':=h.next g hk f (.below a (je _)) (.below a (je _)) d (h.mem.tr.below a (je _)) (h.Rt.below a (je _))
def CS.or {A B:zP}(e:CS w A)(d:CS w B):CS w λx=>A x\/B x:=λx h=>by obtain h|h:=h;{obtain⟨z,o,i,v,g,a,m,j,f⟩:=e x h;exact ji};.obtain⟨z,o,i,v,g,a,m,j,f⟩:=d x h;exact ji
def Gw.hold (m:1<=k)(hk:k<=32)(g:zq.globals.size<t)(d:∀x,C x->x<w.heap.size->C0 x)(hl:zAH l<=1000000)(j:c<=1000000000)(h:Gw k t b cap n C0 C cur R x4 c NX S rows lo hi p tp l p w W):Calls zq 222 #[ptr p] W λe W'=>e=aM (ptr p)/\Gw k t b cap n C0 C cur R x4 c NX S rows lo hi p tp (p::l) aB w W':=(BQ (h.mem.cs.cells h.vY) h.mem.tr).mono λ_ _ ⟨e,g1,g2,_,g4,g5⟩=>⟨e,h.next m hk g g1 (λx f a i=>g5 x f a λe=>i (h.vY x e)) d g2 (h.Rt.hold (aH rfl) hl h.mem.tr g2 j g4)⟩
def Gd.hold {f:Nat}(o:1<=k)(hk:k<=32)(i:zq.globals.size<t)(d:∀x,C x->x<w.heap.size->C0 x)(hl:zAH l<=1000000)(m:c<=1000000000)(r:p∈l)(h:Gd k t b cap n C0 C cur R x4 c NX S p tp l f w W):Calls zq 222 #[ptr p] W λe W'=>e=aM (ptr p)/\Gd k t b cap n C0 C cur R x4 c NX S p tp (p::l) f w W':=(BQ (h.mem.cs.cells h.vY) h.mem.tr).mono λ_ _ ⟨e,g1,g2,_,g4,g5⟩=>⟨e,h.next o hk i g1 (λx g a j=>g5 x g a λe=>j (h.vY x e)) d g2 (h.Rt.hold ji hl h.mem.tr g2 m g4)⟩
def Gw.work (P:1<=k)(hk:k<=32)(G:zq.globals.size<t)(E:zq.globals.size<b)(j:CS w C0)(r:∀x,C0 x->C x)(O:∀x,C x->x<w.heap.size->C0 x)(f:∀x∈cur.toList,tC C0 x)(N:w.heap.size<=lo)(L:∀u∈NX,zAH u.idx=32/\zAH u.val<=100)(A:zAH rows<=1000000)(h:Gw k t b cap n C0 C cur R x4 c NX S rows lo hi p tp l aB w W): Calls zq 224 #[aO t,ptr p] W λe W'=>(e=aM (.tuple #[])/\Gd k t b cap n C0 C cur R x4 c NX S p tp l b w W')\/∃ch,e= .panicked ch/\Fl W'/\tN k t (Pw t b C) NX ch (dL W')/\Gw k t b cap n C0 C cur R x4 c NX S rows lo hi p tp l aB w (dL W'):=by refine(VJ (h.mem.dom P hk G E h.eX.vY) h.mem.sound h.rep (λb E=>aI (aI (aI (h.vY b E)))) L A).mono ?_;rintro e W' (⟨rfl,g1,g2⟩|⟨ch,rfl,g0,g1,g2⟩);{left;have m:∀x∈rows,∃z o i v B,aW W x.1 z o i v [] B:=λx a=>(h.rep.each.1 x a).2.2;have I:=h.mem.Xy g2 G (λx a=>by let⟨z,o,i,v,B,D⟩:=m x a;exact⟨z,o,i,v,[],B,D⟩);have d:∀x,x<w.heap.size->W'.heap[x]? =W.heap[x]? :=λx a=>g2.block x (Ao a h.hl.size) λy K e=>by{have T:=(h.rep.each.1 y K).1;exact bm};have s:vJ C W W':=λb z o i v g B _ D=>by{grind[ET.cell]};have F:nO k t C cur cap tp S W':=by{refine⟨h.eX.len,h.eX.Qi,h.eX.size,h.eX.vY,λi us hi=> ?_,h.eX.take,h.eX.xE.go s h.mem.cs λp M b e=>r b ((oA f h.eX.take) p M b e)⟩;let⟨p,J,Q⟩:=h.eX.Su i us hi;exact⟨p,J,Q.kept (j.hl h.hl) (KQ f J) λx a=>d x (j.cell a).lt⟩};exact⟨rfl,I,g1,h.vY,⟨g2.os.trans h.hl.os,g2.tape.trans h.hl.tape,g2.output.trans h.hl.output,Az h.hl.size g2.size,λx a H=>(d x a).trans (h.Xf x a (λe=>H (aH e)) λD=>H (aI (aI D)))⟩,F,h.xE.go s h.mem.cs (GX (oA h.eX.vY h.eX.take) h.vY),h.Rt.Xy g2 (I.tr.c5.trans h.mem.tr.c5.symm)⟩};grind[below]
def Gw.told {u:FrameMode}(A:1<=k)(hk:k<=32)(z:zq.globals.size<t)(E:zq.globals.size<b)(B:∀u∈NX,zAH u.idx=32/\zAH u.val<=100)(D:c<=1000000000){ch:List PanicEntry}(j:Fl W)(F:tN k t (Pw t b C) NX ch (dL W))(h:Gw k t b cap n C0 C cur R x4 c NX S rows lo hi p tp (p::l) aB w (dL W)): CallsD zq 219 #[aO t,ptr p] u W λe y W'=>y=u/\e=aM (.tuple #[])/\mJ ch W':=by have a:t≠0:=by{omega};let⟨L,x,_⟩:=h.Rt;have m:=x.len h.mem.tr;have d:=x.inv;rw[rS]at d;have o:∀k∈L,W.heap[k.1]? =(dL W).heap[k.1]? :=λk hk=>by{let⟨_,_,_,f,_⟩:=d.cell k hk;exact(kK W _ (Iy j f)).symm};have s:Inv t W L (more (heldBy l) p):=d.same (λk hk i v g f=>⟨g,⟨by rw[o k hk];exact f.at'⟩⟩) (λk hk ⟨c,f⟩=>⟨c,ji⟩) d.out d.pQ;subst m;refine((YZ p W L (heldBy l) _ _ _ _ _ s ((cS.un a).1 h.mem.tr) ⟨a,j⟩ bm).2 u).mono ?_;rintro e y W' ⟨rfl,rfl,hH,_,H,G,_,r,_⟩;replace hH:=hH.un j a;exact⟨rfl,rfl,(F.hl A hk hH h.mem.tr).aAh ((h.mem.hl hH z ((cS.un a).2 r) (h.mem.cs.hl hH)).dom A hk z E h.eX.vY) B⟩
def Gw.full {R:Nat}{cap:Nat}{u:FrameMode}(r:1<=k)(hk:k<=32)(i:zq.globals.size<t)(z:zq.globals.size<b)(m:∀x,C x->x<w.heap.size->C0 x)(v:zAH S<=1000)(a:0<zAH S)(s:cJ S<=R/\R<=1000000)(A:c<=1000000000)(st:∀us∈S,CP us/\zAH us<=2000)(h:Gw k t b cap (zAH S) C0 C cur R (zAH (fK S)) c NX S rows lo hi p tp (p::tp) aB w W): CallsD zq 219 #[aO t,ptr p] u W λe o W'=>o=u/\e=aM (.tuple #[])/\dH W' t k R b cap C S/\dA (kV t b C0) w W':=by refine((h.Rt.let (h.mem.fg i) bm h.mem.tr bm).2 u).mono ?_;rintro e o W' ⟨rfl,rfl,hH,y,c',d,g,_⟩;have f:=h.next r hk i hH y m d g;have j:=g.count f.eX a d;subst j;exact⟨rfl,rfl,f.mem.rW f.eX g s r hk i z st v a,.hl f.hl f.Xf⟩
def Gl.leave {R:Nat}{i cap:Nat}{u:FrameMode}(y:1<=k)(hk:k<=32)(a:zq.globals.size<t)(v:zq.globals.size<b)(f:∀x,C x->x<w.heap.size->C0 x)(B:zAH S<1000)(s:c=(cJ (S++[NX]):Nat))(o:cJ (S++[NX])<=R/\R<=1000000)(st:∀us∈S++[NX],CP us/\zAH us<=2000)(h:Gl k t b cap (zAH S+1) C0 C cur R (zAH NX) c (S++[NX]) (tp++[p]) (p::p::tp) i w W): CallsD zq 219 #[aO t,ptr p] u W λe g W'=>g=u/\e=aM (.tuple #[])/\dH W' t k R b cap C (S++[NX])/\dA (kV t i C0) w W':=by refine((h.Rt.let (h.mem.fg a) bm h.mem.tr bm).2 u).mono ?_;rintro e g W' ⟨rfl,rfl,hH,r,c',d,m,A,z,j⟩;obtain rfl:=j EJ;have hlen:zAH (S++[NX])=zAH S+1:=by{grind};refine⟨rfl,rfl,jR.rW ?_ (h.eX.hl hH h.mem.cs λ_ h=>h) (m.held (by rw[rS,Pc])) o y hk a v st bm bm,h.save.then (.hl hH r) (SA f)⟩;rw[LN,hlen,<-s];exact(h.mem.hl hH a d (h.mem.cs.hl hH))
end
def oI (k:Nat)(m:zB)(w:zW)(a:1<=k)(h:k<=32)(c:zAH m<=1000000):Calls zq 66 #[k,m] w λe b=>e=aM (dg k m)/\zb w b:=aAx k ⟨zAL m⟩ w a h (by show m.toArray.size<=_;exact ji)
def mU (a:UInt8)(l:zB):(⟨#[a]⟩:ByteArray)++⟨zAL l⟩=⟨zAL (a::l)⟩:=by apply Ll;exact j1
def fA (a b:zB):(⟨zAL a⟩:ByteArray)++⟨zAL b⟩=⟨zAL (a++b)⟩:=by apply Ll;exact j1
section
variable {k:Nat}
def AM (a:1<=k)(h:k<=32)(va:zO)(c d:Nat)(w:zW):Calls zq 73 #[k,aK va 0 c,d] w λe b=>e=aM (cR k [] d)/\zb w b:=by rw[OV];go_enter (Qz.fn func73),ntmps73;go_wp2_with fail;refine(hid (oI k [0] w a h j0)).out.mono ?_;rintro e w1 ⟨rfl,hb⟩;go_wp2;go_ret;exact⟨rfl,(hid hb).out⟩
def FN (f:1<=k)(h:k<=32)(va:zO)(c d:Nat)(u:bE)(w:zW)(v:bN w va [u])(hi:zAH u.idx=32)(C:zAH u.val<=100):Calls zq 73 #[k,aK va 1 c,d] w λe b=>e=aM (cR k (aV [u]) d)/\zb w b:=by
 have x:cR k (aV [u]) d=dg k (1::(u.idx++dg k (4::u.val))):=CY k d _;rw[x];obtain⟨g,o,rfl,j,c0,c1,c2⟩:=v.idx 0 u rfl;let⟨i,a,B⟩:=u;dsimp only at*;rw[He,Eo]at c0 c1;have s:=iN k (4::a) h;have H1:Hid (∀W,Calls zq 66 #[k,aL (⟨#[4]⟩++⟨zAL a⟩)] W λe b=>e=aM (dg k (4::a))/\zb W b):=λW=>by rw[mU];exact oI k _ W f h O7
 have H:Hid (∀W,Calls zq 66 #[k,aL (⟨#[1]⟩++⟨zAL i⟩++⟨zAL (dg k (4::a))⟩)] W λe b=>e=aM (dg k (1::(i++dg k (4::a))))/\zb W b):=λW=>by rw[mU,fA];exact oI k _ W f h L5
 have A:Hid (∀W,zb w W->W.cell? (g,o)=aA (i:zY)/\W.cell? (g,o+1)=aA (a:zY)):=λW p=>⟨by rw[p.cell j];exact c0,by rw[p.cell j];exact c1⟩;generalize dg k (4::a)=y at*;generalize dg k (1::(i++y))=dl at*;go_enter (Qz.fn func73),ntmps73;go_upto_region 4 with(fail)
 have q0:=bQ c0 j;have r:=bQ c1 j;have m:=quiet_of (w:=w) λW _=>H1 W;have Q:=quiet_of (w:=w) λW _=>H W;clear c0 c1 H1 H A;refine Em c9 c9 ?_;repeat (any_goals(first|go_big_quiet_step ((first|exact m _ _|exact Q _ _))|quiet_step ((first|exact m _ _|exact Q _ _))))
 refine Dn ?_;intro z l;let⟨q,n⟩:=l;have t:Hid (zb w z):=by rw[n];exact Dc w q.d q.os
 clear n m Q q0 r;go_wp2;go_ret;exact⟨rfl,t⟩
def TA (i:1<=k)(a:k<=32)(va:zO)(c d n:Nat)(us:List bE)(w:zW)(y:n=zAH us)(G:2<=n)(x:n<=100000)(z:d<256)(A:∀(W:zW)(b:Nat),b<=1->zb w W->Calls zq 74 #[aK va n c,d,b] W λe w'=>∃v,e=aM v/\bO w' W v (bJ d b us)/\zb W w') (q:∀(W:zW)(b:Nat)(v:zY)(base:Nat),b<=1->bO W base v (bJ d b us)->Calls zq 73 #[k,v,aC aD ((d:Int)+1)] W λe w'=>e=aM (cR k (aV (bJ d b us)) (d+1))/\zb W w'): Calls zq 73 #[k,aK va n c,d] w λe w'=>e=aM (cR k (aV us) d)/\zb w w':=by have r:cR k (aV us) d=dg k (2::(cR k (aV (bJ d 0 us)) (d+1)++cR k (aV (bJ d 1 us)) (d+1))):=by{rw[cX,cX];exact JD k d _ (by rw[cH];exact bm) z};have F:=jI k (d+1) (aV (bJ d 0 us)) a;have E:=jI k (d+1) (aV (bJ d 1 us)) a;rw[r];clear r y;have H0:=hid A;have C:Hid (∀W v base,bO W base v (bJ d 0 us)->Calls zq 73 #[k,v,aC aD ((d:Int)+1)] W λe w'=>e=aM (cR k (aV (bJ d 0 us)) (d+1))/\zb W w'):=λW v base h=>q W 0 v base bm h;have R:Hid (∀W v base,bO W base v (bJ d 1 us)->Calls zq 73 #[k,v,aC aD ((d:Int)+1)] W λe w'=>e=aM (cR k (aV (bJ d 1 us)) (d+1))/\zb W w'):=λW v base h=>q W 1 v base bm h;generalize cR k (aV (bJ d 0 us)) (d+1)=t0 at*;generalize cR k (aV (bJ d 1 us)) (d+1)=t1 at*;have D:Hid (∀W,Calls zq 66 #[k,aL (⟨#[2]⟩++⟨zAL t0⟩++⟨zAL t1⟩)] W λe w'=>e=aM (dg k (2::(t0++t1)))/\zb W w'):=λW=>by{rw[mU,fA];exact oI k _ W i a L5};go_enter (Qz.fn func73),ntmps73;go_wp2_with fail;refine(H0 w 0 bm (Av _ _)).mono ?_;rintro e w1 ⟨v1,rfl,g,p⟩;have u:=hid p;have H:=C w1 v1 _ g;go_wp2_with fail;refine H.mono ?_;rintro e w2 ⟨rfl,o⟩;have B:=hid (aY u o u.size);go_wp2_with fail;refine(H0 w2 1 bm B).mono ?_;rintro e w3 ⟨v3,rfl,f,m⟩;have t:=hid (aY B m B.size);go_wp2_with fail;refine(R w3 v3 _ f).mono ?_;rintro e w4 ⟨rfl,l⟩;have s:=hid (aY t l t.size);go_wp2_with fail;refine(D w4).mono ?_;rintro e w5 ⟨rfl,j⟩;go_wp2;go_ret;exact⟨rfl,(hid (aY s j s.size)).out⟩
def FO (i:1<=k)(g:k<=32):∀(f:Nat){d c:Nat}{us:List bE}{j:zO}{w:zW},256-d=f->d<=256->Sub us d->(∀u∈us,zAH u.val<=100)->zAH us<=100000->bN w j us->Calls zq 73 #[k,aK j (zAH us) c,d] w λe r=>e=aM (cR k (aV us) d)/\zb w r:=by intro f;induction f with|zero=>{intro d c us j w A B h l n m;match us,h,l,m with|[],_,_,_=>exact AM i g j c d w|[u],h,l,m=>exact FN i g j c d u w m (h.idx u j0) (l u j0)|u::v::us,h,_,_=>have:=h.deep j0;exact bm}|succ f t=>intro d c us j w A B h l n m;match us,h,l,m,n with|[],_,_,_,_=>exact AM i g j c d w|[u],h,l,m,_=>exact FN i g j c d u w m (h.idx u j0) (l u j0)|u::v::us,h,l,m,n=>generalize D:u::v::us=a at*;have p:2<=zAH a:=ji;refine TA i g j c d _ a w rfl p n (h.deep p) (λW b q C=>uS j a c d b W (m.below C (je _)) bm h.idx (h.deep p) q) λW b v base q z=> ?_;obtain⟨s,c',rfl,_,o⟩:=z.tR;have hl:zAH (bJ d b a)<=zAH a:=Ex ..;have:=t (c:=c') bm bm (h.half b) (λx y=>l x (Bi.1 y).1) bm o;rw[show((d+1:Nat):Int)=(d:Int)+1 from bm]at this;exact this
end
def Au:∀{us vs:List bE},(∀u∈us,u.gone=aG)->(∀u∈vs,u.gone=aG)->aV us=aV vs->us=vs
 |[],[],_,_,_=>rfl|[],_::_,_,_,h=>by cases h|_::_,[],_,_,h=>by cases h|u::us,v::vs,h1,b,h=>by have e:=Fj j5;rw[Au (λx a=>h1 x (Ig _ a)) (λx a=>b x (Ig _ a)) e.2];have c:=Prod.mk.inj e.1;rw[RZ.2 ⟨c.1,c.2,(h1 u EJ).trans (b v EJ).symm⟩]
section
variable {us vs:List bE}{va vb:zO}{ca cb d:Nat}{w:zW}
def KZ (n m:Nat)(a:n=zAH us)(b:m=zAH vs)(f:bN w va us)(c:bN w vb vs)(hl:n<=100000)(i:m<=100000)(hz:n<2\/us=vs): Calls zq 94 #[aK va n ca,aK vb m cb,d] w λe g=>e=aM (aC aD 0)/\zb w g:=by have H:=XD va vb us vs ca cb w f c bm bm;rw[<-a,<-b]at H;have j:(n<2)\/(¬n<2/\af us vs=aF):=by{by_cases h:n<2;{exact aH h};{exact aI ⟨h,TY (hz.resolve_left h)⟩}};generalize af us vs=s at*;clear f c hz a b;obtain h|⟨h,rfl⟩:=j;{have hi:(n:Int)<2:=bm;go_enter (Qz.fn func94),ntmps94;go_wp2_with fail;refine H.mono ?_;rintro e w1 ⟨rfl,hb⟩;have B:=hid hb;exact X7};.have hi:¬((n:Int)<2):=bm;go_enter (Qz.fn func94),ntmps94;go_wp2_with fail;refine H.mono ?_;exact X2
def zDb (n m x y:Nat)(p:n=zAH us)(q:m=zAH vs)(C:bN w va us)(B:bN w vb vs)(hl:n<=100000)(R:m<=100000)(Y:2<=n)(c:us≠vs)(hi:∀u∈us,zAH u.idx=32)(J:∀u∈vs,zAH u.idx=32)(K:d<256)(X:x<=100000000)(V:y<=100000000) (I:∀(W:zW)(b:Nat)(v v':zY)(base a:Nat),b<=1->bO W base v (bJ d b us)->bO W a v' (bJ d b vs)->Calls zq 94 #[v,v',aC aD ((d:Int)+1)] W λe w'=>e=aM (aC aD ((if b=0 then x else y:Nat):Int))/\zb W w'): Calls zq 94 #[aK va n ca,aK vb m cb,d] w λe w'=>e=aM (aC aD ((1+(x+y):Nat):Int))/\zb w w':=by have L:=XD va vb us vs ca cb w C B bm bm;rw[<-p,<-q,IM c]at L;have O:Hid (∀(W:zW)(b:Nat),b<=1->zb w W->Calls zq 74 #[aK va n ca,d,b] W λe w'=>∃v,e=aM v/\bO w' W v (bJ d b us)/\zb W w'):=λW b i A=>by{rw[p];exact uS va us ca d b W (C.below A (je _)) bm hi K i};have N:Hid (∀(W:zW)(b:Nat),b<=1->zb w W->Calls zq 74 #[aK vb m cb,d,b] W λe w'=>∃v,e=aM v/\bO w' W v (bJ d b vs)/\zb W w'):=λW b i A=>by{rw[q];exact uS vb vs cb d b W (B.below A (je _)) bm J K i};have M:=hid I;have h:((1+(x+y):Nat):Int)=1+(x:Int)+y:=by{omega};rw[h];clear C B I hi J p q h c;go_enter (Qz.fn func94),ntmps94;go_wp2_with fail;refine L.mono ?_;rintro e w1 ⟨rfl,i⟩;have G:=hid i;go_wp2_with fail;refine(O w1 0 bm G).mono ?_;rintro e w2 ⟨v2,rfl,o,z⟩;have F:=hid (aY G z G.size);have T:=hid o;go_wp2_with fail;refine(N w2 0 bm F).mono ?_;rintro e w3 ⟨v3,rfl,l,g⟩;have Q:=hid (aY F g F.size);have H:=M w3 0 v2 v3 _ _ bm (T.below g (je _)) l;rw[AE rfl]at H;go_wp2_with fail;refine H.mono ?_;rintro e w4 ⟨rfl,t⟩;have E:=hid (aY Q t Q.size);go_wp2_with fail;refine(O w4 1 bm E).mono ?_;rintro e w5 ⟨v5,rfl,k,s⟩;have D:=hid (aY E s E.size);have S:=hid k;go_wp2_with fail;refine(N w5 1 bm D).mono ?_;rintro e w6 ⟨v6,rfl,j,f⟩;have P:=hid (aY D f D.size);have H:=M w6 1 v5 v6 _ _ bm (S.below f (je _)) j;rw[AF bm]at H;go_wp2_with fail;refine H.mono ?_;rintro e U ⟨rfl,r⟩;go_wp2;go_ret;exact⟨rfl,(hid (aY P r P.size)).out⟩
end
def zEf:∀(f:Nat){us vs:List bE}{va vb:zO}{ca cb d:Nat}{w:zW},256-d=f->d<=256->Sub us d->(∀u∈vs,zAH u.idx=32)->(∀u∈us,u.gone=aG)->(∀u∈vs,u.gone=aG)->zAH us<=100000->zAH vs<=100000->bN w va us->bN w vb vs->Calls zq 94 #[aK va (zAH us) ca,aK vb (zAH vs) cb,d] w λe B=>e=aM (aC aD (fS (256-d) (aV us) (aV vs) d:Nat))/\zb w B:=by intro f;induction f with|zero=>intro us vs va vb ca cb d w r E i q y t a g k j;have hl:zAH us<2:=Dv λh=>by{have:=i.deep bm;omega};rw[r];exact KZ _ _ rfl rfl k j a g (aH hl)|succ f C=>intro us vs va vb ca cb d w r E i q y t a g k j;rw[r,fS];by_cases n:zAH us<2\/us=vs;{rw[AE (n.imp (λh=>by rw[cH];exact h) λh=>by rw[h])];exact KZ _ _ rfl rfl k j a g n};.have hl:2<=zAH us:=bm;have p:us≠vs:=by{grind};rw[AF (λh=>n (h.imp (λh=>by grind[cH]) (Au y t)))];have A:∀b,fS f (cG (aV us) d b) (cG (aV vs) d b) (d+1)<=100000000:=λb=>by{have K:=lS f (cG (aV us) d b) (cG (aV vs) d b) (d+1);have J:zAH (cG (aV us) d b)<=100000:=by{rw[<-cX,cH];exact Az (Ex ..) a};have I:f*(zAH (cG (aV us) d b)-1)<=256*100000:=Nat.mul_le_mul bm bm;omega};refine zDb _ _ _ _ rfl rfl k j a g hl p i.idx q (i.deep hl) (A 0) (A 1) λW b v H base z F D o=> ?_;obtain⟨m,c',rfl,_,G⟩:=D.tR;obtain⟨l,c2,rfl,_,s⟩:=o.tR;have:=C (vs:=bJ d b vs) (va:=m) (vb:=l) (ca:=c') (cb:=c2) (d:=d+1) (w:=W) bm bm (i.half b) (λx c=>q x (Bi.1 c).1) (λx c=>y x (Bi.1 c).1) (λx c=>t x (Bi.1 c).1) (Az (Ex ..) a) (Az (Ex ..) g) G s;rw[show((d+1:Nat):Int)=(d:Int)+1 from bm,show 256-(d+1)=f from bm,cX,cX]at this;have e:(if b=0 then fS f (cG (aV us) d 0) (cG (aV vs) d 0) (d+1)else fS f (cG (aV us) d 1) (cG (aV vs) d 1) (d+1))=fS f (cG (aV us) d b) (cG (aV vs) d b) (d+1):=by{grind};rw[e];exact this
noncomputable def GS (vs:List bE)(u:bE):Bool:=vs.any λv=>af [v] [u]
noncomputable def LA (us vs:List bE):Nat:=zAH (us.filter λu=> !GS vs u)
def TZ {v u:bE}:af [v] [u]=aF↔v=u:=by constructor;{intro h;exact Dv λa=>by rw[IM λe=>a (Fj e).1]at h;exact A4};grind[TY]
def Wm (vs:List bE)(u:bE)(s:Nat)(h:s<zAH vs):GS (vs.take (s+1)) u=(GS (vs.take s) u||af [vs[s]] [u]):=by unfold GS;rw[iB h,List.any_append];exact j0
def Vb (us vs:List bE)(t:Nat)(h:t<zAH us):LA (us.take (t+1)) vs=LA (us.take t) vs+(if GS vs us[t]then 0 else 1):=by unfold LA;rw[iB h,Ht,At];exact ji
def aNq {us vs:List bE}(d:∀u∈us,u.gone=aG)(c:∀u∈vs,u.gone=aG):LA us vs=eQ (aV us) (aV vs):=by unfold LA eQ;have k:∀u∈us,GS vs u=(aV vs).contains (u.idx,u.val):=λu b=>by{rw[Bool.eq_iff_iff,List.contains_iff_mem];unfold GS aV;rw[List.any_eq_true];constructor;{rintro⟨v,a,e⟩;rw[TZ.1 e]at a;grind};{intro h;let⟨v,a,e⟩:=Dd.1 h;have e:=Prod.mk.inj e;exact⟨v,a,TZ.2 (RZ.2 ji)⟩}};have:(aV us).filter (λe=> !(aV vs).contains e)=aV (us.filter λu=> !GS vs u):=by{unfold aV;rw[List.filter_map];congr 1;exact List.filter_congr λu b=>by rw[k u b];rfl};rw[this,cH]
section
variable {us vs:List bE}{va vb:zO}{ca cb:Nat}{w:zW}
def Oc (n m x:Nat)(T:n=zAH us)(U:m=zAH vs)(X:bN w va us)(V:bN w vb vs)(hl:n<=100000)(hl2:m<=100000)(hx:x<=100000000) (Y:∀W,zb w W->Calls zq 94 #[aK va n ca,aK vb m cb,aC aD 0] W λe w'=>e=aM x/\zb W w'): Calls zq 70 #[aK va n ca,aK vb m cb] w λe w'=>e=aM (aC aD ((LA us vs+x:Nat):Int))/\zb w w':=by have HU:=hid X;have HV:=hid V;have G:=hid T;have I:=hid U;have HN:=hid Y;have J:Hid (∀t,LA (us.take t) vs<=n):=λt=>by{have b:=Ex (λu=> !GS vs u) (us.take t);have K:zAH (us.take t)<=zAH us:=E7;unfold LA;omega};clear X V Y T U;go_enter (Qz.fn func70),ntmps70;go_wp2;go_loopg [5,6] n (λq a i wr=>∃t:Nat,t+q=n/\i=aC aD t/\a=aC aD (LA (us.take t) vs:Nat)/\zb w wr);(case atStart=>exact⟨0,bm,rfl,rfl,Av _ _⟩);case round=>obtain⟨t,ht,rfl,rfl,b2⟩:=hrel;have L:=hid b2;clear b2;by_cases hlt:t<n;{have d:t<zAH us:=C1;have S:=Be (l:=us) (i:=t) d;have HQ:=hid (Vb us vs t d);have C:=J t;generalize us[t]=u at*;have O:=hid S;clear S;generalize LA (us.take t) vs=nt at*;generalize wr=wq at*;go_upto_region 7 with(fail);go_loopg [7,8] m (λq a i wr=>∃s:Nat,s+q=m/\i=aC aD s/\a= .bool (GS (vs.take s) u)/\zb w wr);(case atStart=>exact⟨0,bm,rfl,rfl,L⟩);case round=>obtain⟨s,hs,rfl,rfl,b3⟩:=hrel;have B:=hid b3;clear b3;by_cases hls:s<m;{have f:s<zAH vs:=by{have:=I.out;omega};have R:=Be (l:=vs) (i:=s) f;have p:=hid (Wm vs u s f);generalize vs[s]=v at*;have F:=TZ (v:=v) (u:=u);let⟨c,k,y⟩:=u;let⟨j,r,z⟩:=v;obtain⟨g,o,rfl,hg,c0,c1,c2⟩:=(HU.below B (je _)).idx t _ O;obtain⟨g',o',rfl,hg',d0,d1,d2⟩:=(HV.below B (je _)).idx s _ R;have Q:=hid B.drew;clear R;generalize GS (vs.take s) ⟨c,k,y⟩=hb at*;generalize M:af [(⟨j,r,z⟩:bE)] [⟨c,k,y⟩]=N at*;have H:Hid (N=aF↔(j=c/\r=k/\z=y)):=by{show _↔_;rw[F,RZ]};clear F M;cases hb with|true=>go_upto_region 9 with(fail);go_region;all_goals go_wp2;go_roundg (m-(s+1));(case measure=>go_light;omega);case rel=>exact U0|false=>rcases(show(j=c/\r=k/\z=y)\/j≠c\/(j=c/\r≠k)\/(j=c/\r=k/\z≠y) by by_cases b:j=c;{by_cases K:r=k;{by_cases Z:z=y;{exact aH ⟨b,K,Z⟩};.exact aI (aI (aI ⟨b,K,Z⟩))};.exact aI (aI (aH ⟨b,K⟩))};.exact aI (aH b))with⟨rfl,rfl,rfl⟩|b|⟨rfl,b⟩|⟨rfl,rfl,b⟩;{obtain rfl:N=aF:=H.2 ⟨rfl,rfl,rfl⟩;clear H;go_upto_region 9 with(fail);go_region;all_goals go_wp2;go_roundg (m-(s+1));(case measure=>go_light;omega);case rel=>exact U0};all_goals have he:N=aG:=Lm.2 λh=>by{have:=H.1 h;simp[b]at this};subst he;clear H;go_upto_region 9 with(fail);go_region;all_goals go_wp2;go_roundg (m-(s+1));(case measure=>go_light;omega);case rel=>exact U0};.obtain rfl:s=m:=bm;have p:Hid (vs.take s=vs):=by{show _=_;rw[I.out,Fq]};have E:=p.out;rw[E];clear E;generalize GS vs u=hb at*;cases hb with|true=>go_wp2;go_roundg (n-(t+1));(case measure=>go_light;omega);case rel=>go_light;exact⟨t+1,bm,j9,by rw[HQ.out];rfl,B⟩|false=>go_wp2;go_roundg (n-(t+1));(case measure=>go_light;omega);case rel=>go_light;exact⟨t+1,bm,j9,by rw[HQ.out];rfl,B⟩};.obtain rfl:t=n:=bm;have p:Hid (us.take t=us):=by{show _=_;rw[G.out,Fq]};have E:=p.out;have C:=J t;rw[E]at C⊢;clear E;generalize A:LA us vs=nt at*;have P:=hid A;clear A;go_wp2_with fail;refine(HN wr L).mono ?_;rintro e w1 ⟨rfl,D⟩;have B:=hid (aY L D L.size);clear D;dsimp only;go_wp2;go_ret;exact⟨by rw[P.out];rfl,B⟩
def FP (k:Sub us 0)(i:∀u∈vs,zAH u.idx=32)(f:∀u∈us,u.gone=aG)(d:∀u∈vs,u.gone=aG)(hl:zAH us<=100000)(h:zAH vs<=100000)(c:bN w va us)(b:bN w vb vs): Calls zq 70 #[aK va (zAH us) ca,aK vb (zAH vs) cb] w λe g=>e=aM (aC aD (dZ (aV us) (aV vs) 0:Nat))/\zb w g:=by have j:fS 256 (aV us) (aV vs) 0<=100000000:=by{grind[cH,lS]};have:=Oc _ _ _ rfl rfl c b hl h j (ca:=ca) (cb:=cb) λW a=>zEf 256 rfl (Cw _) k i f d hl h (c.below a (je _)) (b.below a (je _));rw[aNq f d]at this;exact this
end
abbrev Ep:=zY×zB×zB
def kN (e:Ep):zV:=[e.1,aL ⟨zAL e.2.1⟩,aL ⟨zAL e.2.2⟩]
def gX (l:List Ep):zV:=l.flatMap kN
def Km:∀(l:List Ep)(i:Nat)(e:Ep),l[i]? =aA e->∀j,j<3->(gX l)[i*3+j]? =(kN e)[j]?
 |[],_,_,h,_,_=>by cases h|a::l,0,e,h,j,b=>by cases h;unfold gX;rw[NQ,He,Ce,GN (by assumption)]|a::l,i+1,e,h,j,b=>by unfold gX;rw[NQ,Ec (by show 3<=_;omega),show(i+1)*3+j-zAH (kN a)=i*3+j by show(i+1)*3+j-3=_;omega];exact Km l i e h j b
theorem bN.kept {w w':zW}{va:zO}{us:List bE}(h:bN w va us)(hs:w.heap.size<=w'.heap.size)(hk:∀g o,va=aA ⟨g,o,aB⟩->g<w.heap.size->(∃x,w.cell? ⟨g,o,aB⟩=aA (aL x))/\0<us.length->w'.heap[g]? =w.heap[g]?):bN w' va us:=λc=>by obtain⟨u,hu⟩:∃u,us[0]? =aA u:=by{simp_all};let⟨g,o,e,j,c0,_⟩:=h.idx 0 u hu;let⟨m,i,a,b,l⟩:=h c;rw[e]at a;injection a with a;injection a with f d;subst f;subst d;rw[He,Eo]at c0;grind[Nat.lt_of_lt_of_le,World.cell?_of_block]
structure cI (w:zW)(F:zP)(rd en k win R first:Nat)(v:zY)(Es:List Ep)(S:List (List bE))(H:zLL):Prop where
 k1:1<=k
 k2:k<=32
 r2:R<=1000000
 at':w.heap[rd]? =aA (aJ #[en,k,win,R,v,first] 126 (0,0))
 own:w.ownsRow 0 102 3 v Es.length (gX Es)
 one:0<S.length
 len:S.length<=1000
 EC:Es.length=S.length
 hlen:H.length=S.length
 tU:∀h∈H,h.length<=32
 ep:∀(i:Nat) us,S[i]? =aA us->∃va c h,H[i]? =aA h/\Es[i]? =aA (aK va us.length c,cR k (aV us) 0,h)/\bN w va us/\∀a,va=aA a->0<us.length->F a.block/\v.ownBlock≠aA a.block
 st:∀us∈S,CP us/\us.length<=2000
 wL:F rd/\∀g,v.ownBlock=aA g->F g
 f1:first<=4611686018427387904
section
variable {w w':zW}{F:zP}{rd en k win R first:Nat}{v:zY}{Es:List Ep}{S:List (List bE)}{H:zLL}
theorem cI.lt (h:cI w F rd en k win R first v Es S H):rd<w.heap.size:=(Ax.1 h.at').1
theorem cI.kept (h:cI w F rd en k win R first v Es S H)(hs:w.heap.size<=w'.heap.size)(hk:∀x,F x->x<w.heap.size->w'.heap[x]? =w.heap[x]?):cI w' F rd en k win R first v Es S H:=by refine⟨h.k1,h.k2,h.r2,(hk rd h.wL.1 h.lt).trans h.at',?_,h.one,h.len,h.EC,h.hlen,h.tU,λi us hi=> ?_,h.st,h.wL,h.f1⟩;{refine⟨h.own.1,?_⟩;obtain e|⟨g,cap,cur,e,hb,b,r⟩:=h.own.2;{exact aH e};.exact aI ⟨g,cap,cur,e,hb,(hk g (h.wL.2 g (by rw[e];rfl)) ji).trans b,r⟩};.obtain⟨a,c,x,l,j,f,d⟩:=h.ep i us hi;exact⟨a,c,x,l,j,f.kept hs ji,d⟩
theorem cI.below {B:Nat}(h:cI w F rd en k win R first v Es S H)(a:Below B w w')(b:w.heap.size<=B):cI w' F rd en k win R first v Es S H:=by grind[Below.block,Nat.lt_of_lt_of_le,Below.size,kept]
theorem cI.row (h:cI w F rd en k win R first v Es S H):∃d cap,v=aK (aA ⟨d,0,aB⟩) S.length cap/\d<w.heap.size/\F d/\∀(i:Nat) us,S[i]? =aA us->∃b c x,H[i]? =aA x/\w.cell? ⟨d,i*3,aB⟩=aA (aK b us.length c)/\w.cell? ⟨d,i*3+1,aB⟩=aA (aL ⟨(cR k (aV us) 0).toArray⟩)/\w.cell? ⟨d,i*3+2,aB⟩=aA (aL ⟨x.toArray⟩)/\bN w b us/\Es[i]? =aA (aK b us.length c,cR k (aV us) 0,x):=by have q:=h.one;have n:=h.EC;obtain⟨_,e⟩|⟨g,cap,cur,rfl,hb,m,s,a2,a3,a4⟩:=h.own.2;{exact bm};.refine⟨g,cap,by rw[n],ji,h.wL.2 g rfl,λi us hi=> ?_⟩;let⟨b,c,x,p,f,o,r⟩:=h.ep i us hi;have hlt:=(Bx.1 f).1;have a:∀j,j<3->w.cell? (g,i*3+j)=(kN (aK b (zAH us) c,cR k (aV us) 0,x))[j]? :=λj l=>by{rw[Eh w g _ cur _ (0,0) m,<-Km Es i _ f j l,<-a4,GK,AE bm,Ew]};exact⟨b,c,x,p,a 0 bm,a 1 bm,a 2 bm,o,f⟩
theorem cI.cell (h:cI w F rd en k win R first v Es S H)(i:Nat):w.cell? (rd,i)=(#[en,k,win,R,v,first]:zA)[i]? :=Eh w rd i _ _ (0,0) h.at'
def XR (h:cI w F rd en k win R first v Es S H):
  Calls zq 46 #[aO rd] w λe w'=>e=aM (.tuple #[first,aC aD ((first:Int)+zAH S-1)])/\zb w w':=by
 obtain⟨f,cap,rfl,_⟩:=h.row;have g:=bQ ((h.cell 5).trans (rfl:_=aA (Value.int aD first))) h.lt;have i:=bQ ((h.cell 4).trans (rfl:_=aA (Value.slice f (zAH S) cap))) h.lt;have j:=h.f1;have hl:=h.len;generalize zAH S=n at*;go_enter (Qz.fn func46),ntmps46;go_upto_region 1 with(fail)
 refine Em c9 c9 ?_;repeat (any_goals(first|go_big_quiet_step (fail)|quiet_step (fail)))
 refine Dn ?_;intro W a;let⟨q,b⟩:=a;have c:Hid (zb w W):=by rw[b];exact Dc w q.d q.os
 go_wp2;go_ret2;exact⟨rfl,c⟩
def fH (first n:Nat)(ep:Int):Bool:=decide ((first:Int)<=ep)&&decide (ep<(first:Int)+n)
def vN (h:cI w F rd en k win R first v Es S H)(ep:Int):
  Calls zq 68 #[aO rd,ep] w λe w'=>e=aM (.bool (fH first (zAH S) ep))/\zb w w':=by
 obtain⟨l,cap,rfl,_⟩:=h.row;have i:=bQ ((h.cell 5).trans (rfl:_=aA (Value.int aD first))) h.lt;have j:=bQ ((h.cell 4).trans (rfl:_=aA (Value.slice l (zAH S) cap))) h.lt;have m:=h.f1;have hl:=h.len;generalize zAH S=n at*;by_cases g:(first:Int)<=ep
 .have f:Hid (fH first n ep=decide (ep<(first:Int)+n)):=by
   show fH first n ep=_
   unfold fH;rw[Dz g,Bool.true_and]
  go_enter (Qz.fn func68),ntmps68;go_upto_region 1 with(fail)
  refine Em c9 c9 ?_;repeat (any_goals(first|go_big_quiet_step (fail)|quiet_step (fail)))
  refine Dn ?_;intro W a;let⟨q,b⟩:=a;have c:Hid (zb w W):=by{rw[b];exact Dc w q.d q.os};go_wp2;go_ret;exact⟨by rw[f.out];rfl,c⟩
 .have f:Hid (fH first n ep=aG):=by
   show fH first n ep=_
   unfold fH;rw[Dr g,Md]
  go_enter (Qz.fn func68),ntmps68;go_upto_region 1 with(fail)
  refine Em c9 c9 ?_;repeat (any_goals(first|go_big_quiet_step (fail)|quiet_step (fail)))
  refine Dn ?_;intro W a;let⟨q,b⟩:=a;have c:Hid (zb w W):=by{rw[b];exact Dc w q.d q.os};clear b j i;go_wp2;go_ret;exact⟨by rw[f.out];rfl,c⟩
end
section
variable {w:zW}{t k R b cap n:Nat}{C:zP}{S:List (List bE)}
def zEp (h:dH w t k R b cap C S)(hS:n<zAH S):
  Calls zq 214 #[aO t,n] w λe s=>e=aM (.tuple #[])/\dH s t k R b cap C (S.drop n)/\dA (kV t b C) w s:=by
 let⟨d,l,hM,o,J⟩:=h.mem;have jx:=o.length;have h1:=h.k1;have hk:=h.k2;have Z:=h.GJ;have hb:=h.Bw;have hlen:=h.len;have H:=h.st;have u:=h.wj;have htb:=h.tb;have g1:=o.len;have g2:=o.Qi;obtain⟨c,hc⟩:∃c:Int,c=(cJ S:Nat):=⟨_,rfl⟩;rw[<-hc]at hM;have HL:Hid (∀W c' (j:Nat),jR k t b cap (zAH S) C d R (zAH (fK S)) c' W->nO k t C d cap l S W->dA (kV t b C) w W->wI t W C (l.drop j) aB->c'<=c->j<n->∃vp,W.cell? (b,j)=aA vp/\W.cell? (t,3)=aA (aK b (zAH S) cap)/\Calls zq 219 #[aO t,vp] W λe s=>e=aM (.tuple #[])/\∃c2,jR k t b cap (zAH S) C d R (zAH (fK S)) c2 s/\nO k t C d cap l S s/\dA (kV t b C) w s/\wI t s C (l.drop (j+1)) aB/\c2<=c):=λW c' j a f y Y l2 hj=>by
  obtain⟨us,fy⟩:∃us,S[j]? =aA us:=⟨_,Be bm⟩;let⟨p,I,hr⟩:=f.Su j us fy;have hdr:l.drop j=p::l.drop (j+1):=by have K:j<zAH l:=bm;have h0:=f.at bm I;rw[Be K]at h0;rw[Nf K,Ay h0]
  rw[hdr]at Y;exact⟨ptr p,by rw[bG a.eX];exact I,(bG a.tr 3).trans rfl,(Y.let (a.fg Z) bm a.tr bm).1.mono λe s ⟨e1,hH,hf,c2,hT',k1,k2,k3,_⟩=>⟨e1,c2,a.hl hH Z hT' (a.cs.hl hH),f.hl hH a.cs λ_ h=>h,y.trans (.hl hH hf),k1,bm⟩⟩
 have V:Hid (∀W c',jR k t b cap (zAH S) C d R (zAH (fK S)) c' W->nO k t C d cap l S W->dA (kV t b C) w W->wI t W C (l.drop n) aB->c'<=c->W.cell? (t,3)=aA (aK b (zAH S) cap)/\Calls zq 220 #[aK b (zAH S) cap,aC aD 0,n] W λe D=>e=aM (aK b (zAH S-n) cap)/\(∃x,D.cell? (t,3)=aA x)/\D.frozen? (t,3)=aG/\dH (zAJ D (t,3) (aK b (zAH S-n) cap)) t k R b cap C (S.drop n)/\dA (kV t b C) w (zAJ D (t,3) (aK b (zAH S-n) cap))):=λW c' a f y Y l2=>by
  refine⟨(bG a.tr 3).trans rfl,?_⟩;have hO:fG (tC C) W b 264 1 (aK b (zAH S) cap) (zAH S) (d.toList.take (zAH S)):=by have:=fG.of (S:=tC C) (n:=zAH S) d a.eX (je _) g1 g2 (size:=1) (by rw[f.size];exact bm) (by rw[Hs]) f.vY;exact this
  refine(Ya (S:=tC C) (λx E=>by obtain⟨p,rfl,_⟩:=E;cases p<;>rfl) PO b b (zAH S) cap n _ W hO bm bm).mono ?_
  rintro e D ⟨rfl,h2,U⟩;let⟨m,e1,e2,e3,e4,e5,e6,e7⟩:=fG.row h2;let⟨B,A,G⟩:=a.eD (cap':=cap) (n':=zAH S-n) Z hb U e1;have O:=(U.block t a.tr.lt (λe=>htb (Ay e))).trans a.tr;have L:zAH (S.drop n)=zAH S-n:=GL ..;have yn:fK (S.drop n)=fK S:=by unfold fK;rw[List.getLast?_drop,AF bm]
  have g:∀x,C x->(zAJ D (t,3) (aK b (zAH S-n) cap)).heap[x]? =W.heap[x]? :=λx E=>A x (a.cs.cell E);have F:=Y.kept g (B.tr.c5.trans a.tr.c5.symm);have M:nO k t C m cap (l.drop n) (S.drop n) (zAJ D (t,3) (aK b (zAH S-n) cap)):=by
   refine⟨bm,g2,bm,e7,λi v hi=> ?_,by rw[L,<-Hs (zAH S-n),e6,f.take,List.map_drop],(λi p q us vs h1 h2 U h4=>by rw[Hm]at h1 h2 U h4;let⟨N,n1,n2,n3,n4⟩:=(f.xE.go (.of g) a.cs (oA f.vY f.take)) (n+i) p q us vs h1 h2 U h4;exact⟨N,n1,n2,λx E=>⟨(n3 x E).1,λj r hj hr=>(n3 x E).2 (n+j) r bm (by rw[Hm]at hr;exact hr)⟩,n4⟩)⟩
   rw[Hm]at hi;have hlt:=(Bx.1 hi).1;let⟨q,d1,d2⟩:=f.Su (n+i) v hi;refine⟨q,?_,d2.kept a.cs (KQ f.vY d1) g⟩;have z:m[i]? =(m.toList.take ((zAH S-n)*1))[i]? :=by{rw[GK,AE bm,Ew]};rw[z,e6,Hm,GK,AE hlt,Ew];exact d1
  have hcn:=F.count M bm B.tr;refine⟨rfl,⟨_,(bG O 3).trans rfl⟩,eI O 3,jR.rW (cur:=m) (by rw[L,yn,<-hcn];exact B) M F ⟨bm,u.2⟩ h1 hk Z hb (λv hu=>H v (List.mem_of_mem_drop hu)) bm bm,y.trans G⟩
 have c3:w.cell? (t,3)=aA (aK b (zAH S) cap):=(bG hM.tr 3).trans rfl;have HM:Hid (jR k t b cap (zAH S) C d R (zAH (fK S)) c w):=hM;have HTS:Hid (nO k t C d cap l S w):=o;have HLV:Hid (wI t w C l aB):=J;obtain⟨S',Q⟩:∃S',S'=S.drop n:=⟨_,rfl⟩;rw[<-Q]at V⊢;obtain⟨LU,T⟩:∃LU:Int,LU=(zAH (fK S):Int):=⟨_,rfl⟩;rw[<-T]at HL V HM;clear Q hM h T H o J jx u hc;generalize zAH S=ns at*;go_enter (Qz.fn func214),ntmps214;go_wp2_with fail;go_loopg [13] n (λq i wr=>∃(j:Nat)(c':Int),j+q=n/\i=aC aD j/\jR k t b cap ns C d R LU c' wr/\nO k t C d cap l S wr/\dA (kV t b C) w wr/\wI t wr C (l.drop j) aB/\c'<=c);case atStart=>exact⟨0,c,bm,rfl,HM,HTS,.refl _ _,HLV,bm⟩
 case round=>
  obtain⟨j,c',hj,rfl,a1,a2,a3,a4,a5⟩:=hrel
  by_cases hlt:j<n
  .obtain⟨vp,d1,t3,X⟩:=HL wr c' j a1 a2 a3 a4 a5 hlt;clear HL V a1 a2 a3 a4 t3;go_wp2_with fail;refine X.mono ?_;clear X;rintro e w1 ⟨rfl,c2,b1,b2,b3,b4,b5⟩;go_wp2;go_roundg (n-(j+1));case measure=>omega
   case rel=>go_light;exact⟨j+1,c2,bm,j9,b1,b2,b3,b4,b5⟩
  .obtain rfl:j=n:=bm;obtain⟨t3,X⟩:=V wr c' a1 a2 a3 a4 a5;clear V a1 a2 a3 a4 HL;go_wp2_with fail;refine X.mono ?_;clear X t3;rintro e w2 ⟨rfl,⟨x,t3⟩,f3,hE,P⟩;have HE:Hid (dH (zAJ w2 (t,3) (aK b (ns-j) cap)) t k R b cap C S'):=hE;have HSv:Hid (dA (kV t b C) w (zAJ w2 (t,3) (aK b (ns-j) cap))):=P;clear hE P;go_wp2;go_end0;exact⟨rfl,HE,HSv⟩
def XI (h:dH w t k R b cap C S){i:Nat}{us:List bE}(hi:S[i]? =aA us): Calls zq 217 #[aO t,i] w (RF λx f=>x=aL ⟨zAL (cR k (aV us) 0)⟩/\zb w f):=by let⟨l,m,a,d,_⟩:=h.mem;let⟨p,c,g⟩:=d.Su i us hi;have H:=hid (xV ⟨a.tr.lt,(bG a.tr 0).trans rfl,(bG a.tr 2).trans rfl⟩ g);have c3:=(bG a.tr 3).trans rfl;have d1:w.cell? (b,i)=aA (ptr p):=by{rw[bG a.eX];exact c};have j:=(Bx.1 hi).1;generalize ptr p=v at*;generalize zAH S=n at*;go_enter (Qz.fn func217),ntmps217;go_wp2_with fail;refine H.mono ?_;rintro e w1 ⟨rfl,rfl⟩;go_wp2;go_ret;exact .of ⟨rfl,Av _ _⟩
end
def zCc {W ops o a K Q E}(m:o.guard=aB)(s x)
  (A:o.op= .call ⟨.builtin .append,#[s,x],#[48,48]⟩)
  (base) (v) (l) (hs:a.eval s=v) (d:bO W base v l) (u) (c) (z:a.eval x=aK (aA ⟨W.heap.size,0,aB⟩) 1 c)
  (F:l.length<=1000000) (q:base<=W.heap.size)
  (h:∀g cap w',bO w' base (aK (aA ⟨g,0,aB⟩) (l.length+1) cap) (l++[u])->W.grownBy w' v.ownBlock->K (a.put o.dst (aK (aA ⟨g,0,aB⟩) (l.length+1) cap)) w'):if Region.wanted o (yielded ops a.tmps)=aF then Oper.wp zq o a (W.alloc (aJ #[aL ⟨u.idx.toArray⟩,aL ⟨u.val.toArray⟩,.bool u.gone] 53)) K Q else E:=by let⟨i,hi,r,f,p⟩:=rM;refine step_append_lies _ m s x 48 A base 53 i _ 3 40 j1 hi r f p rfl bm v (zAH l) (bL l) hs (World.ownsRow.alloc d _) W 1 c u.cells z rfl (λj y D=> ?_) (pW u) bm j7 bm j6 _ rfl (λg cap w' G B _ _=>h g cap w' ?_ (dF B));{have e:(W:Addr).add j=(W,j):=r9;rw[e];exact Z1};.unfold bO;grind[List.length_append,qQ]
def zEa {us d}(h:Sub us d):bJ d 0 us++bJ d 1 us=us:=by grind[List.take_append_drop,Sub.cut]
def wJ (w:zW)(p:Option Nat)(us:List bE):Prop:=∀(l:List bE)(v:zY)(W:zW)(base:Nat),zb w W->w.heap.size<=base->base<=W.heap.size->bO W base v l->zAH l+zAH us<=1000000->Calls zq 218 #[ptr p,v] W λe c=>∃a,e=aM a/\bO c base a (l++us)/\Below base W c
section
variable {w:zW}{b:Nat}{z o:Option Nat}{i v g:zB}{hs:Int}{us tc us1:List bE}{k d:Nat}{p:Option Nat}
def Pt (w):wJ w aB []:=by intro l v W base c a e h hl;have H:=hid h;go_enter (Qz.fn func218),ntmps218;go_wp2;go_ret;exact⟨v,rfl,by rw[Bj];exact H.out,Av _ _⟩
theorem Pv {u}(h:aW w b aB aB u.idx u.val g hs)(s:u.gone=aG):wJ w (aA b) [u]:=by intro l v W base x E A y hl;let⟨q,n,B⟩:=u;subst s;have m:aW W b aB aB q n g hs:=⟨by rw[x.block b h.lt];exact h.at'⟩;have H:Hid (bO W.drew base v l):=bO.kept y λ_ _=>rfl;have k2:=m.c2;have D:=m.c3;have f:zAH l<=1000000:=by{simp only[Ie]at hl;omega};have c:=A;go_enter (Qz.fn func218),ntmps218;go_wp2_with fail;refine(hid (iZ m)).out.mono ?_;rintro e w1 ⟨rfl,rfl⟩;go_upto_region 4 with(fail);go_region_law (refine zCc rfl _ _ rfl base _ _ A6 H ⟨q,n,aG⟩ 1 A6 f c ?_;intro F r w2 a j);all_goals go_wp2;go_ret;exact⟨_,rfl,(hid a).out,(hid (fJ (cP (Av _ w1.drew) H j (je _) c))).out⟩
def Pu (h:aW w b z o i v g hs)(y:(z.isNone&&o.isNone)=aG)(hz:wJ w z tc)(T:wJ w o us1):wJ w (aA b) (tc++us1):=by intro l M W base I s O U hl;rw[At]at hl;have G:aW W b z o i v g hs:=⟨by rw[I.block b h.lt];exact h.at'⟩;have X:Hid (Calls zq 227 #[ptr (aA b)] W λe r=>e=aM (.bool aG)/\r=W):=by{have:=iZ G;rw[y]at this;exact this};have m:=Ao h.lt s;have P:Hid (Calls zq 218 #[ptr z,M] W.drew λe j=>∃c,e=aM c/\bO j base c (l++tc)/\Below base W j):=(hz l M W.drew base I.drew s O (bO.kept U λ_ _=>rfl) bm).mono λe j ⟨c,L,K,J⟩=>⟨c,L,K,fJ J⟩;have Q:Hid (∀f c,Below base W f->bO f base c (l++tc)->Calls zq 218 #[ptr o,c] f λe j=>∃v2,e=aM v2/\bO j base v2 (l++(tc++us1))/\Below base W j):=λf c a F=>by{have:=T (l++tc) c f base (I.trans (a.mono s)) s (Az O a.size) F I4;refine this.mono λe j ⟨v2,L,K,J⟩=>⟨v2,L,by rw[<-Df];exact K,a.trans J⟩};have N:=G.c0;have k1:=G.c1;have H:Hid (∀f,Below base W f->f.cell? b=aA (ptr z)/\f.cell? (b,1)=aA (ptr o)):=λf a=>⟨by rw[a.cell m];exact N,by rw[a.cell m];exact k1⟩;let⟨u,A⟩:=zzx (ptr z);let⟨x,B⟩:=zzx (ptr o);rw[<-A]at P N H;rw[<-B]at Q k1 H;clear I G h U hz T A B y;go_enter (Qz.fn func218),ntmps218;go_wp2_with fail;refine X.mono ?_;rintro e w1 ⟨rfl,rfl⟩;go_upto_region 5 with(fail);go_region_held3 (λr=>r.cell? b=aA u/\r.cell? (b,1)=aA x) (go_keep) (first|(go_at_call 218;refine P.mono ?_;rintro e w2 ⟨c,rfl,E,q⟩;let⟨q0,Z⟩:=H w2 q;dsimp only)|(go_at_call 218;refine(Q w2 c q E).mono ?_;rintro e w3 ⟨v2,rfl,D,n⟩;let⟨r0,r1⟩:=H w3 n;dsimp only));all_goals have V:=hid D;have Y:=hid n;go_wp2;go_ret;exact⟨_,rfl,V,Y⟩
def Xp (h:dQ k w p us d):Sub us d->(∀u∈us,u.gone=aG)->wJ w p us:=by induction h with|nil d=>intro _ _;exact Pt w|leaf h=>grind[Pv]| @node b us d z o hs x s h m n c a=>intro j l;have e:=zEa j;have:=Pu h (by have hl:=pM us d;have r:=m.fR;have q:=n.fR;cases z with|some _=>rfl|none=>cases o<;>grind) (c (j.half 0) λu f=>l u (Bi.1 f).1) (a (j.half 1) λu f=>l u (Bi.1 f).1);exact ji
end
section
variable {w:zW}{t k R b cap:Nat}{C:zP}{S:List (List bE)}
def zFx (h:dH w t k R b cap C S){i:Nat}{us:List bE}(hi:S[i]? =aA us): Calls zq 213 #[aO t,i] w λe c=>∃v,e=aM v/\bO c w v us/\zb w c:=by let⟨u,y,m,j,_⟩:=h.mem;let⟨p,f,q⟩:=j.Su i us hi;have a:=h.st us (Ek hi);have H:Hid (Calls zq 218 #[ptr p,aK aB 0 0] w λe c=>∃l,e=aM l/\bO c w l us/\zb w c):=Xp q a.1.sub a.1.here [] _ w w (Av _ _) (je _) (je _) (bO.nil _ _) (by have:=a.2;exact I0);have c3:=(bG m.tr 3).trans rfl;have d1:w.cell? (b,i)=aA (ptr p):=by{rw[bG m.eX];exact f};have s:=(Bx.1 hi).1;generalize ptr p=x at*;generalize zAH S=n at*;go_enter (Qz.fn func213),ntmps213;go_wp2_with fail;refine H.mono ?_;rintro e w1 ⟨v,rfl,r,hb⟩;go_wp2;go_ret;exact⟨v,rfl,(hid r).out,(hid hb).out⟩
end
open Go.RowKit Sha
def vA (w:zW)(va:zO)(S:zLL):Prop:=0<S.length->∃g o,va=aA ⟨g,o,aB⟩/\g<w.heap.size/\∀i x,S[i]? =aA x->w.cell? ⟨g,o+i,aB⟩=aA (aL ⟨x.toArray⟩)
theorem vA.below {w w' B va S}(h:vA w va S)(b:Below B w w')(f:w.heap.size<=B):vA w' va S:=λj=>by obtain⟨g,o,e,a,d⟩:=h j;refine⟨g,o,e,Ao a b.size,λi x c=> ?_⟩;rw[b.cell (p:=⟨g,o+i,aB⟩) (Ao a f)];exact d i x c
theorem Ja (D:zB):∀S:zLL,(∀x∈S,zAH x<=32)->zAH (fZ D S)<=32*zAH S
 |[],_=>je _|x::S,h=>by have i:=Ja D S λy a=>h y (Ig _ a);have b:=h x (EJ ..);rw[fZ,At,Bf];split;{simp only[CH];omega};{omega}
def nL (kd d:Nat):zB:=[Dw kd,Dw (d/256),Dw (d%256)]
def lL (D:zB)(kd:Nat)(S:zLL)(X:zB):zB:=nL kd (zAH S)++(cF D S (zAH S)++(fZ D S++X))
def wQ (w:zW)(base:Nat)(v:zY)(l:zB):Prop:=w.ownsRow base 5 1 v (zAH l) (zAM (gV l))
def wrote (D:zB)(kd:Nat)(S:zLL)(t:Nat):zB:=nL kd (zAH S)++(cF D S t++fZ D (S.take t))
def zFc (D)(kd)(S)(t):zAH (wrote D kd S t)=3+(zAH S+7)/8+zAH (fZ D (S.take t)):=by unfold wrote nL;grind[List.length_append,List.length_cons,List.length_nil,iX]
def zDa (D)(kd)(S)(t)(a:t<S.length)(h:S[t]=D):wrote D kd S (t+1)=wrote D kd S t:=by have b:S.getD t []=D:=by{grind};unfold wrote;rw[cF,AE b,Lz a,sI,h];simp[fZ]
def zAp (D)(kd)(S)(t)(a:t<S.length)(h:S[t]≠D):
  wrote D kd S (t+1)=(wrote D kd S t).set (3+t/8) (jZ ((wrote D kd S t).getD (3+t/8) 0) (t%8))++S[t]:=by have c:¬S.getD t []=D:=by{grind};have hl:=iX D S t;have d:(wrote D kd S t).getD (3+t/8) 0=(cF D S t).getD (t/8) 0:=by{unfold wrote nL;rw[Mn,Ec j0,GN j3,Mn];simp};rw[d];unfold wrote;rw[cF,AF c,Lz a,sI];have e:∀b,(nL kd (zAH S)++(cF D S t++fZ D (S.take t))).set (3+t/8) b=nL kd (zAH S)++((cF D S t).set (t/8) b++fZ D (S.take t)):=λb=>by{rw[Ml _ _ (by simp[nL]),List.set_append_left _ _ (by simp[nL];exact bm)];simp[nL]};rw[e];simp[fZ,h,Df]
def CZ (D)(S:zLL)(t)(h:∀x∈S,zAH x<=32):zAH (fZ D (S.take t))<=32*zAH S:=by grind[Ja]
def ou (x:UInt8)(r)(h:r<8):bits .or aQ (x.toNat:Int) (128/2^r)=((jZ x r).toNat:Int):=by have H:∀x:Fin 256,∀r:Fin 8,bits .or aQ (x.val:Int) (128/2^r.val)=(((x.val|||128/2^r.val)%256:Nat):Int):=by{decide+kernel};have:=H ⟨x.toNat,x.toNat_lt⟩ ⟨r,h⟩;exact j5
def wQ.set {w base g n cap i l}(h:wQ w base (aK (aA ⟨g,0,aB⟩) n cap) l)(hi:i<l.length)(b:UInt8):wQ (w.setCell ⟨g,i,aB⟩ (aC aQ (b.toNat:Int))) base (aK (aA ⟨g,0,aB⟩) n cap) (l.set i b):=by
 let⟨f,d⟩:=h;obtain⟨e,_⟩|⟨k,c,cur,e,hb,hh,r1,r2,r3,r4⟩:=d
 .cases e
 .injection e with a m j;iterate 2 (injection a with a)
  subst a j;refine⟨by rw[Ln];simpa [gV]using f,aI ⟨g,cap,zAI cur i (aC aQ (b.toNat:Int)),ji,hb,?_,ji,r2,ji,?_⟩⟩;{grind[setRow_heap,setCell_eq_setRow]};{rw[<-OU,Ng,Ng,<-r4,Ln,List.take_set]}
theorem wQ.cell {w base g n cap i l}(h:wQ w base (aK (aA ⟨g,0,aB⟩) n cap) l)(hi:i<l.length):w.cell? ⟨g,i,aB⟩=aA (aC aQ ((l.getD i 0).toNat:Int))/\w.frozen? ⟨g,i,aB⟩=aG/\base<=g/\g<w.heap.size/\l.length<=cap/\n=l.length:=by
 obtain⟨e,_⟩|⟨f,c,cur,e,hb,hh,r1,r2,r3,r4⟩:=h.2
 .cases e
 .injection e with a d b;iterate 2 (injection a with a)
  subst a b;refine⟨?_,by simp[World.frozen?,hh],hb,ji,r1,d⟩;rw[Eh w g i cur _ (0,0) hh,<-CX l i hi,<-Ew,<-Ew,<-r4,GK,AE bm]
def wQ.form {w base v l}(h:wQ w base v l)(hl:0<l.length):∃g cap,v=aK (aA ⟨g,0,aB⟩) l.length cap:=by obtain⟨_,a⟩|⟨b,c,_,e,_⟩:=h.2;all_goals grind
def FD (s):aNs ⟨s.toArray⟩=(gV s).toList:=by simp[aNs,gV]
def yM (l m):zAM (gV (l++m))=zAM (gV l)++zAM (gV m):=by simp[gV]
def zEc (kd:Nat)(D X)(va)(vc)(S)(w)(yq:kd<=2)(hS:S.length<=256)(ye:∀x∈S,x.length<=32)(hX:X.length<=1000)(hD:D.length<=32)(hsv:vA w va S):
  Calls zq 161 #[aC aD kd,aK va S.length vc,aL ⟨D.toArray⟩,aL ⟨X.toArray⟩] w λe w'=>e=aM (aL ⟨(lL D kd S X).toArray⟩)/\zb w w':=by
 have ky:=hid hsv;have Y:=hid ye;obtain⟨nb,K⟩:∃nb,(S.length+7)/8=nb:=⟨_,rfl⟩;have Q:=λW=>zAo S.length W (by omega);rw[K]at Q;have Wc:∀W,(Instr.makeSlice 50 (aC aD (3+(nb:Int))) (aC aD (3+(nb:Int)))).run zq W= .ok (aK (aA ⟨W.heap.size,0,aB⟩) (3+nb) (3+nb)) (W.alloc (aJ (wK (3+nb)) 5)):=λW=>by have:=LF (3+nb) (by omega) W;rw[show((3+nb:Nat):Int)=3+(nb:Int) by omega]at this;exact this
 go_enter (Qz.fn func161),ntmps161;go_wp2_with fail;refine(Q w).mono ?_;rintro e w1 ⟨rfl,Vz⟩;obtain rfl:w=w1:=Vz.symm;go_upto_region 3 with(fail)
 have O2:Hid (wQ (w.alloc (aJ (wK (3+nb)) 5)) w.heap.size (aK (aA ⟨w.heap.size,0,aB⟩) (3+nb) (3+nb)) (List.replicate (3+nb) 0)):=by refine⟨by simp[gV],aI ⟨w.heap.size,3+nb,wK (3+nb),by rw[Dm],je _,Ei w _,by rw[Dm];exact je _,by simp only[maxLen];omega,by simp[wK,gV],?_⟩⟩;rw[Dm,Hs];show List.take _ (gV (List.replicate (3+nb) 0)).toList=_;rw[KC (by simp[gV])]
 have B2:Hid (zb w (w.alloc (aJ (wK (3+nb)) 5))):=(Av _ _).alloc (je _) _;generalize w.alloc (aJ (wK (3+nb)) 5)=w2 at*;have hz:∀i,i<3->w2.cell? ⟨w.heap.size,i,aB⟩=aA (aC aQ 0)/\w2.frozen? ⟨w.heap.size,i,aB⟩=aG:=λi hi=>by have:=O2.out.cell (i:=i) (by rw[Dm];omega);refine⟨?_,this.2.1⟩;rw[this.1,Mn,Na,AE (by omega)];rfl
 obtain⟨z0,f0⟩:=hz 0 (by omega);obtain⟨z1,f1⟩:=hz 1 (by omega);obtain⟨z2,f2⟩:=hz 2 (by omega);have J:(0:Int)<3+(nb:Int):=by omega
 have I:(1:Int)<3+(nb:Int):=by omega
 have G:(2:Int)<3+(nb:Int):=by omega
 clear hz Wc;go_upto_region 4 with(fail)
 have E:Hid (wQ (((w2.setCell ⟨w.heap.size,0,aB⟩ (aC aQ (kd:Int))).setCell ⟨w.heap.size,1,aB⟩ (aC aQ ((S.length:Int)/256))).setCell ⟨w.heap.size,2,aB⟩ (aC aQ ((S.length:Int)%256))) w.heap.size (aK (aA ⟨w.heap.size,0,aB⟩) (3+nb) (3+nb)) (wrote D kd S 0)):=by
  have h1:=O2.out.set (i:=0) (by rw[Dm];omega) (Dw kd);have h2:=h1.set (i:=1) (by rw[Ln,Dm];omega) (Dw (S.length/256));have h3:=h2.set (i:=2) (by rw[Ln,Ln,Dm];omega) (Dw (S.length%256));have e1:(((Dw kd).toNat:Nat):Int)=(kd:Int):=by{rw[Hh];omega};have e2:(((Dw (S.length/256)).toNat:Nat):Int)=(S.length:Int)/256:=by{rw[Hh];omega};have e3:(((Dw (S.length%256)).toNat:Nat):Int)=(S.length:Int)%256:=by rw[Hh];omega
  rw[e1,e2,e3]at h3;have e4:(((List.replicate (3+nb) (0:UInt8)).set 0 (Dw kd)).set 1 (Dw (S.length/256))).set 2 (Dw (S.length%256))=wrote D kd S 0:=by rw[show 3+nb=nb+1+1+1 by omega,NW,NW,NW];unfold wrote nL;rw[Fy,cF,K];simp[fZ]
  rw[e4]at h3;exact h3
 have B3:Hid (zb w (((w2.setCell ⟨w.heap.size,0,aB⟩ (aC aQ (kd:Int))).setCell ⟨w.heap.size,1,aB⟩ (aC aQ ((S.length:Int)/256))).setCell ⟨w.heap.size,2,aB⟩ (aC aQ ((S.length:Int)%256)))):=((B2.out.setCell (je _) _).setCell (je _) _).setCell (je _) _;generalize((w2.setCell ⟨w.heap.size,0,aB⟩ (aC aQ (kd:Int))).setCell ⟨w.heap.size,1,aB⟩ (aC aQ ((S.length:Int)/256))).setCell ⟨w.heap.size,2,aB⟩ (aC aQ ((S.length:Int)%256))=w3 at*;clear z0 z1 z2 f0 f1 f2 J I G O2 B2;have HW:Hid (lL D kd S X=wrote D kd S S.length++X):=by show _=_;unfold lL wrote;rw[Fq,Df,Df]
 have F:Hid (∀t,(wrote D kd S t).length<=10000/\3+(S.length+7)/8<=(wrote D kd S t).length):=λt=>by have h1:=zFc D kd S t;have h2:=CZ D S t Y.out;omega
 have HSM:Hid (∀t (ht:t<S.length),S[t]=D->wrote D kd S (t+1)=wrote D kd S t):=zDa D kd S;have HMK:Hid (∀t (ht:t<S.length),S[t]≠D->wrote D kd S (t+1)=(wrote D kd S t).set (3+t/8) (jZ ((wrote D kd S t).getD (3+t/8) 0) (t%8))++S[t]):=zAp D kd S;go_upto_region 5 with(fail)
 obtain⟨n,hn⟩:∃n,n=S.length:=⟨_,rfl⟩;go_loopg [10,34] S.length (λq x i wr=>∃t:Nat,t+q=S.length/\i=aC aD (t:Int)/\zb w wr/\wQ wr w.heap.size x (wrote D kd S t));case atStart=>exact⟨0,by omega,rfl,B3.out,E.out⟩
 case round=>
  obtain⟨t,ht,rfl,b1,o1⟩:=hrel
  have B1:=hid b1
  have y:=hid o1
  have N:=b1.size
  clear b1 o1
  by_cases hlt:t<S.length
  .have hu:=Be (l:=S) (i:=t) hlt;have B:=HSM.out t hlt;have A:=HMK.out t hlt;have LR:=Y.out S[t] (Fp _);obtain⟨hl1,hl2⟩:=F.out t;obtain⟨g,o,rfl,hg,b⟩:=ky.out.below B1.out (je _) (by omega);have q0:=b t S[t] hu;generalize S[t]=s at*;have jz:¬((t:Int)<0):=by{omega};have qh:(t:Int)<(S.length:Int):=by{omega};by_cases f:s=D
   .have Z:Hid (wrote D kd S (t+1)=wrote D kd S t):=B f;have R:(s==D)=aF:=by{rw[f];exact Mg _};clear B A b hu f;generalize wrote D kd S t=L at*;go_wp2_with fail;go_roundg (S.length-(t+1));case measure=>omega
    case rel=>
     go_light
     exact⟨t+1,by omega,by go_num,B1.out,by rw[Z.out];exact y.out⟩
   .have Z:Hid (wrote D kd S (t+1)=(wrote D kd S t).set (3+t/8) (jZ ((wrote D kd S t).getD (3+t/8) 0) (t%8))++s):=A f;have R:(s==D)=aG:=GM.2 f;clear B A b hu f;generalize wrote D kd S t=L at*;have C:3+t/8<L.length:=by omega
    obtain⟨gx,c,rfl⟩:∃gx c,u10=aK (aA ⟨gx,0,aB⟩) L.length c:=by obtain⟨_,h0⟩|⟨g',p,_,e,_⟩:=y.out.2;{omega};{exact⟨g',p,e⟩}
    obtain⟨y0,y1,y2,y3,y4,_⟩:=y.out.cell C;have H:Hid (bits .or aQ ((L.getD (3+t/8) 0).toNat:Int) (128/2^(t%8))=((jZ (L.getD (3+t/8) 0) (t%8)).toNat:Int)):=ou _ _ (LV _ (by omega));have hxr:=(L.getD (3+t/8) 0).toNat_lt;generalize L.getD (3+t/8) 0=z at*;obtain⟨r,hr⟩:∃r,t%8=r:=⟨_,rfl⟩;obtain⟨d,hd⟩:∃d,t/8=d:=⟨_,rfl⟩;have ht8:(t:Int)/8=(d:Int):=by{omega};have ht9:(t:Int)%8=(r:Int):=by{omega};have aHU:(t:Int).tdiv 8=(d:Int):=by{rw[Int.tdiv_eq_ediv_of_nonneg (by omega)];exact ht8};have aHT:(t:Int).tmod 8=(r:Int):=by{rw[Int.tmod_eq_emod_of_nonneg (by omega)];exact ht9};have hdi:(3:Int)+(d:Int)<(L.length:Int):=by{omega};have hr8:r<8:=by{omega};rw[hd]at y0 y1 C Z;rw[hr]at H Z;clear hd hr;go_wp2_with fail;go_region;rw[H.out];have O4:Hid (wQ (wr.setCell ⟨gx,3+d,aB⟩ (aC aQ ((jZ z r).toNat:Int))).drew w.heap.size (aK (aA ⟨gx,0,aB⟩) L.length c) (L.set (3+d) (jZ z r))):=y.out.set C (jZ z r);have B4:Hid (zb w (wr.setCell ⟨gx,3+d,aB⟩ (aC aQ ((jZ z r).toNat:Int))).drew):=iH (B1.out.setCell y2 _);generalize(wr.setCell ⟨gx,3+d,aB⟩ (aC aQ ((jZ z r).toNat:Int))).drew=w4 at*;have v:w.heap.size<=w4.heap.size:=B4.out.size;clear y0 y1 H y B1 q0;obtain⟨ib,i1,i2,i3,i4⟩:=rZ;have a:(⟨s.toArray⟩:ByteArray).size=s.length:=by show s.toArray.size=_;simp
    have T:(L.set (3+d) (jZ z r)).length=L.length:=Ln ..;generalize L.set (3+d) (jZ z r)=L2 at*;have O:=O4.out;unfold wQ at O;rw[T]at O;go_wp2_with (at_builtin;refine aNt _ rfl _ _ 50 9 rfl w.heap.size 5 ib ((Qz.eR 50).trans underlying50) ((Qz.eR 9).trans underlying9) i1 i2 i3 i4 _ L.length _ rfl O ⟨s.toArray⟩ rfl (by rw[a];simp only[maxLen];omega) (by rw[a];omega) v ?_;intro v' w5 h m _);have HO:Hid (wQ w5 w.heap.size v' (L2++s)):=by show w5.ownsRow _ _ _ _ _ _;rw[At,yM,T,<-a];rw[FD]at h;exact h
    have u:w4.grownBy w5 (aA gx):=m;have B5:Hid (zb w w5):=B4.out.grown u v λk M=>by{injection M with M;omega};clear h m u O i1 i2 i3 i4;go_roundg (S.length-(t+1));case measure=>omega
    case rel=>
     go_light
     exact⟨t+1,by omega,by go_num,B5.out,by rw[Z.out];exact HO.out⟩
  .obtain rfl:t=S.length:=by omega
   have hl1:=(F.out S.length).1;have hl3:=(F.out S.length).2;have hlt:=hlt;have V:=HW.out;generalize wrote D kd S S.length=L at*;have HW3:=hid V;clear V;obtain⟨gx,c,rfl⟩:∃gx c,u10=aK (aA ⟨gx,0,aB⟩) L.length c:=by obtain⟨_,h0⟩|⟨g',p,_,e,_⟩:=y.out.2;{omega};{exact⟨g',p,e⟩}
   obtain⟨_,_,y2,y3,y4,_⟩:=y.out.cell (i:=0) (by omega);obtain⟨ib,i1,i2,i3,i4⟩:=rZ;have a:(⟨X.toArray⟩:ByteArray).size=X.length:=by show X.toArray.size=_;simp
   have O:=y.out;unfold wQ at O;go_wp2_with (first
    |(at_builtin;refine aNt _ rfl _ _ 50 9 rfl w.heap.size 5 ib ((Qz.eR 50).trans underlying50) ((Qz.eR 9).trans underlying9) i1 i2 i3 i4 _ L.length _ rfl O ⟨X.toArray⟩ rfl (by rw[a];simp only[maxLen];omega) (by rw[a];omega) N ?_;intro v' w5 h m _;
      have HO:wQ w5 w.heap.size v' (L++X):=(by show w5.ownsRow _ _ _ _ _ _;rw[At,yM,<-a];rw[FD]at h;exact h);
      obtain⟨gy,U,hvy⟩:=wQ.form HO (by rw[At];omega);
      subst hvy;
      have ab:=(gO (P:=zq) w5 50 9 5 gy 0 U (L++X) (by simp_all) (by simp_all) (by simp_all) (λj hj=>by rw[Ce];exact(HO.cell hj).1));rw[At]at ab;
      have B5:Hid (zb w w5):=B1.out.grown (show wr.grownBy w5 (aA gx)from m) N (λk M=>by injection M with M;omega);
      clear h m HO O i1 i2 i3 i4))
   go_ret;exact⟨by rw[HW3.out];simp,B5.out⟩
def ia (k)(I)(e)(T)(h:e.1=I):jP k {CC k I [e]with tQ:=T}=lL (dg k [0]) 1 T e.2:=by rw[show CC k I [e]=⟨1,[],e.2,[],[]⟩from AE h];rfl
def gz (k)(I)(e)(T)(h:¬e.1=I):jP k {CC k I [e]with tQ:=T}=lL (dg k [0]) 2 T (e.1++dg k (4::e.2)):=by rw[show CC k I [e]=⟨2,[],[],e.1,dg k (4::e.2)⟩from AF h];rfl
def kF (k:Nat)(I:zB)(us xs:List bE)(d:Nat)(T:zLL):Prop:=qP k I 256 (aV us) 0={qP k I (256-d) (aV xs) d with tQ:=T++(qP k I (256-d) (aV xs) d).tQ}
def Sk (k)(I){xs d}(h:2<=zAH xs)(c:d<256):qP k I (256-d) (aV xs) d={qP k I (256-(d+1)) (aV (bJ d (cM I d) xs)) (d+1)with tQ:=gY k (bJ d (1-cM I d) xs) (d+1)::(qP k I (256-(d+1)) (aV (bJ d (cM I d) xs)) (d+1)).tQ}:=by rw[show 256-d=(256-(d+1))+1 from bm,cX];unfold gY cR;rw[cX];match xs,h with|a::b::xs,_=>rfl
def kF.step {k I us xs d T}(h:kF k I us xs d T)(c:2<=zAH xs)(a:d<256):kF k I us (bJ d (cM I d) xs) (d+1) (T++[gY k (bJ d (1-cM I d) xs) (d+1)]):=by unfold kF at h⊢;rw[h,Sk k I c a];exact ji
def Sj (k)(I){xs}(f d)(h:zAH xs<=1):qP k I f (aV xs) d=CC k I (aV xs):=by match xs,h with|[],_=>cases f<;>rfl|[a],_=>cases f<;>rfl
def Xt (k)(I)(l):(CC k I l).tQ=[]:=by match l with|[]=>rfl|e::l=>show(if e.1=I then(⟨1,[],e.2,[],[]⟩:PW)else⟨2,[],[],e.1,dg k (4::e.2)⟩).tQ=[];exact ji
def kF.ends {k I us xs d T}(h:kF k I us xs d T)(a:zAH xs<=1):qP k I 256 (aV us) 0={CC k I (aV xs)with tQ:=T}:=by rw[h,Sj k I _ _ a,Xt,Bj]
def Zd (w:zW)(base:Nat)(v:zY)(T:zLL):Prop:=Own w base 9 v (zAH T) (T.map λx=>aL ⟨zAL x⟩)
def Zd.strs {w base v T}(h:Zd w base v T):∃a c,v=aK a (zAH T) c/\vA w a T:=by by_cases f:0<zAH T;{obtain⟨g,cap,rfl⟩:=Own.form h f;refine⟨_,cap,rfl,λ_=>⟨g,0,rfl,(Own.base h).2.1,λi x d=> ?_⟩⟩;have hi:=(Bx.1 d).1;rw[Ce,Own.cell h i hi,JN,d];rfl};.obtain rfl:T=[]:=by{exact ji};obtain⟨rfl,_⟩|⟨g,cap,cur,j,e,_⟩:=h.2;{exact⟨aB,0,rfl,λh=>bm⟩};{exact⟨_,_,e,λh=>bm⟩}
section
variable {w:zW}{t k R b cap:Nat}{C:zP}{S:List (List bE)}
def zFb (h:dH w t k R b cap C S){i:Nat}{us:List bE}(hi:S[i]? =aA us)(I:zB)(hI:I.length=32):
  Calls zq 216 #[aO t,i,I] w (RF λx l=>x=aL ⟨(jP k (qP k I 256 (aV us) 0)).toArray⟩/\zb w l):=by
 obtain⟨cur,tp,hM,hTp,_⟩:=h.mem;obtain⟨p,tu,hr⟩:=hTp.Su i us hi;have Pb:=h.k1;have U:=h.k2;have GQ:=h.st us (Ek hi);have HR:=hid hr;have HB:Hid (∀W (d:Nat),d<256->Calls zq 82 #[I,d] W λe l=>e=aM (.bool (decide (cM I d=1)))/\l=W):=λW d hd=>(AV ⟨I.toArray⟩ d W (by show d/8<I.length;exact bm) (by show I.length<=_;exact bm) bm).mono λe l h=>by simpa using h
 have qc:qJ w t k:=⟨hM.tr.lt,(bG hM.tr 0).trans rfl,(bG hM.tr 2).trans rfl⟩;have aAy:=hid qc;have aEg:=hid hM.jJ;have M:Hid (∀W x f d,zb w W->dQ k w x f d->Calls zq 226 #[aO t,ptr x] W λe l=>e=aM (gY k f d)/\l=W):=λW x f d P hx=>xV (qc.below P (je _)) (hx.hl Pb U (.below (t:=t) P (je _)));have A:Hid (∀W x f d,zb w W->dQ k w x f d->Calls zq 225 #[ptr x] W λe l=>e=aM (.bool (decide (f.length<=1)))/\l=W):=λW x f d P hx=>(cU.done (hx.hl Pb U (.below (t:=t) P (je _))) (je 0)).ends;have F:Hid (∀(kd:Nat)(X:zB)(T:zLL) O c W,kd<=2->X.length<=1000->T.length<=256->(∀x∈T,x.length<=32)->vA W O T->Calls zq 161 #[kd,aK O T.length c,dg k [0],X] W λe l=>e=aM (lL (dg k [0]) kd T X)/\zb W l):=λkd X T O c W h1 h2 h3 h4 h5=>
  zEc kd (dg k [0]) X O c T W h1 h3 h4 h2 (by have:=iN k [0] U;exact bm) h5
 have c3:=(bG hM.tr 3).trans rfl;have d1:w.cell? (b,i)=aA (ptr p):=by rw[bG hM.eX];exact tu
 have hil:=(Bx.1 hi).1;have Ri:=hid GQ.1;have jx:=hM.tr.lt;obtain⟨WP,hWP⟩:=zzx (jP k (qP k I 256 (aV us) 0));have HWP:=hid hWP;rw[<-hWP];obtain⟨vp,py⟩:=zzx (ptr p);have HVP:=hid py;rw[<-py]at d1;clear h hi hM hTp hr tu GQ qc hWP py;generalize S.length=n at*;go_enter (Qz.fn func216),ntmps216;go_wp2_with fail;go_loopg [7,8] 257 (λq x s wr=>∃(d:Nat)(p':Option Nat)(f:List bE)(T:zLL),d+q=257/\d<=256/\x=ptr p'/\dQ k w p' f d/\(∀u∈f,u∈us)/\T.length=d/\(∀y∈T,y.length<=32)/\Zd wr w s T/\kF k I us f d T/\zb w wr);case atStart=>exact⟨0,p,us,[],rfl,bm,HVP.out,HR.out,λ_ h=>h,rfl,λ_ h=>by simp at h,Own.nil _ _ _,(rfl),Av _ _⟩
 case round=>
  obtain⟨d,p',f,T,hd,hd2,rfl,r1,r2,r3,r4,r5,r6,r7⟩:=hrel
  subst r3
  have j:=hid r7
  have HA:=hid r6
  have HT:=hid r5
  have H32:=hid r4
  have hTl:=hd2
  have Q:∀u∈f,u.idx.length=32/\u.val.length<=100:=λu hu=>⟨Ri.out.sub.idx u (r2 u hu),Ri.out.val u (r2 u hu)⟩
  have V:=A.out wr p' f T.length r7 r1
  have e2:=(aAy.out.below j.out (je _)).emp
  have a:∀{b:Nat}{z o:Option Nat}{i v g:zB}{hs:Int},aW w b z o i v g hs->aW wr b z o i v g hs:=λhc=>⟨by rw[j.out.block _ hc.lt];exact hc.at'⟩
  clear r4 r5 r6 r7
  cases r1 with
  |nil=>
   have G:Hid (WP=lL (dg k [0]) 0 T []):=by show WP=_;rw[HWP.out,HA.out.ends j0];exact rfl
   rw[Dz j0]at V;obtain⟨O,cT,Z,hS⟩:=HT.out.strs;subst Z;have H:=F.out 0 [] T O cT wr bm j0 hTl H32.out hS;generalize lL (dg k [0]) 0 T []=WB at*;generalize T.length=nT at*;clear F A M HB hS HT HA;go_wp2_with fail;refine V.mono ?_;clear V;rintro e w2 ⟨rfl,rfl⟩;go_wp2_with fail;refine H.mono ?_;clear H;rintro e w3 ⟨rfl,E⟩;have B3:=hid (aY j.out E j.out.size);clear E e2;go_wp2;go_ret;exact .of ⟨by rw[G.out];rfl,B3.out⟩
  | @leaf b' u _ hs hc=>
   have hv:=(Q u j0).2;have hix:=(Q u j0).1;have m:=a hc;have k2:=m.c2;have k3:=m.c3;have Wi:=m.lt;rw[Dz j0]at V;obtain⟨O,cT,Z,hS⟩:=HT.out.strs;subst Z;have ky:=hid hS;have yb:=Ao jx j.out.size;have e0:=(aAy.out.below j.out (je _)).wid;by_cases r:u.idx=I
   .have G:Hid (WP=lL (dg k [0]) 1 T u.val):=by
     show WP=_;rw[HWP.out,HA.out.ends j0];exact ia k I (u.idx,u.val) T r
    have zm:(u.idx==I)=aF:=by{rw[r];exact Mg _};have H:Hid (∀W,zb wr W->Calls zq 161 #[aC aD 1,aK O T.length cT,dg k [0],u.val] W λe l=>e=aM (lL (dg k [0]) 1 T u.val)/\zb W l):=λW P=>F.out 1 u.val T O cT W bm bm hTl H32.out (ky.out.below P (je _));rw[r]at k2;generalize lL (dg k [0]) 1 T u.val=WB at*;generalize T.length=nT at*;generalize u.val=uv at*;clear F A M HB hS HT HA ky hc m a Q r zm hix;go_wp2_with fail;refine V.mono ?_;clear V;rintro e w2 ⟨rfl,rfl⟩;go_upto_region 13 with(fail)
    go_quiet (fail);have J:Hid (zb w2 (w2.drewN nq)):=⟨rfl,rfl,rfl,je _,λ_ _=>rfl⟩;have e3:(w2.drewN nq).cell? (t,2)=aA (dg k [0]:zY):=e2;generalize w2.drewN nq=wn at*;exact q9
   .have G:Hid (WP=lL (dg k [0]) 2 T (u.idx++dg k (4::u.val))):=by
     show WP=_;rw[HWP.out,HA.out.ends j0];exact gz k I (u.idx,u.val) T r
    have zm:=GM.2 r;have hdv:=iN k (4::u.val) U;have H:Hid (∀W,zb wr W->Calls zq 161 #[aC aD 2,aK O T.length cT,dg k [0],u.idx++dg k (4::u.val)] W λe l=>e=aM (lL (dg k [0]) 2 T (u.idx++dg k (4::u.val)))/\zb W l):=λW P=>F.out 2 _ T O cT W bm I4 hTl H32.out (ky.out.below P (je _));have HV:=quiet_of (w:=wr) λW P=>RN k ⟨u.val.toArray⟩ W Pb U (by show u.val.toArray.size<=_;exact j3) ((aEg.out.below j.out (je _)).below P (je _));have HV':=hid HV.out;have q0:=bQ k2 Wi;have q1:=bQ k3 Wi;have q2:=bQ e0 yb;generalize lL (dg k [0]) 2 T (u.idx++dg k (4::u.val))=WB at*;generalize T.length=nT at*;generalize dg k (4::u.val)=DV at*;clear F A M HB hS HT HA ky hc m a Q HV;generalize u.val=uv at*;generalize hui:u.idx=ui at*;clear hui;go_wp2_with fail;refine V.mono ?_;clear V;rintro e w2 ⟨rfl,rfl⟩;go_upto_region 10 with(fail)
    refine Em c9 c9 ?_;(repeat (any_goals(first|go_big_quiet_step (exact HV'.out _ _)|quiet_step (exact HV'.out _ _))));refine Dn ?_;intro wn hw';obtain⟨q,hq⟩:=hw';have J:Hid (zb w2 wn):=by{rw[hq];exact Dc w2 q.d q.os};have e3:wn.cell? (t,2)=aA (dg k [0]:zY):=by{rw[J.out.cell (p:=⟨t,2,aB⟩) yb];exact e2};clear hq HV' q0 q1 q2;exact q9
  | @node b' _ _ z o hs h2 hd3 hc hz ho=>
   rw[Dr bm]at V;have m:=a hc;have k0:=m.c0;have k1:=m.c1;have Rz:∀f:List bE,(gY k f (T.length+1)).length<=32:=λf=>by{have:=CF (us:=f) (d:=T.length+1) U;exact bm};obtain⟨O,cT,Z,hS⟩:=HT.out.strs;subst Z;clear hS;obtain h0|h0:=qF I T.length
   .have HBC:Hid (∀W,Calls zq 82 #[I,T.length] W λe l=>e=aM (.bool aG)/\l=W):=λW=>by
     have:=HB.out W T.length hd3;rw[Dr bm]at this;exact this
    have N:=HA.out.step h2 hd3;rw[h0]at N;have sn:=hid N;have HN:Hid (∀W,zb w W->Calls zq 226 #[aO t,ptr o] W λe l=>e=aM (gY k (bJ T.length 1 f) (T.length+1))/\l=W):=λW P=>M.out W o _ (T.length+1) P ho;have HTO:=hid hz;have HSB:Hid (∀u∈bJ T.length 0 f,u∈us):=λu hu=>r2 u (Bi.1 hu).1;have hdg:=Rz (bJ T.length 1 f);obtain⟨vz,K⟩:=zzx (ptr z);obtain⟨vo,L⟩:=zzx (ptr o);have HVT:=hid K;rw[<-K]at k0;rw[<-L]at k1;rw[<-L]at HN;generalize gY k (bJ T.length 1 f) (T.length+1)=DG at*;clear K L N HA HB M A F Rz hc m a hz ho r2 Q HR h2 h0 e2;go_wp2_with fail;refine V.mono ?_;clear V;rintro e w2 ⟨rfl,rfl⟩;go_upto_region 4 with(fail)
    go_quiet (fail);have J:Hid (zb w (w2.drewN nq)):=⟨j.out.os,j.out.tape,j.out.output,j.out.size,j.out.block⟩;have O2:Hid (Own (w2.drewN nq) w.heap.size 9 (aK O T.length cT) T.length (T.map λx=>aL ⟨x.toArray⟩)):=Own.kept HT.out λ_ _=>rfl;have hjT:T.length+1<=1000000:=by omega
    generalize w2.drewN nq=wn at*;have ae:=J.out.size;go_wp2_with fail;refine(HBC.out wn).mono ?_;rintro e w3 ⟨rfl,rfl⟩;go_wp2_with fail;refine(HN.out w3 J.out).mono ?_;rintro e w4 ⟨rfl,rfl⟩;go_wp2_with (first|(at_builtin;refine GC rfl _ _ rfl w _ _ _ rfl O2.out [_] 1 rfl j0 C9 hjT ae ?_;intro v5 w5 D Rx));have B5:Hid (zb w w5):=lH (B:=w.heap.size) J.out O2.out Rx (je _) ae;have O5:Hid (Zd w5 w v5 (T++[DG])):=by show Own _ _ _ _ _ _;rw[At,Gr];exact D
    have so:Hid (∀y∈T++[DG],y.length<=32):=λy Y=>by obtain Y|Y:=Bl.1 Y;{exact H32.out y Y};{rw[Cy.1 Y];exact hdg}
    clear D Rx;go_roundg (257-(T.length+1));case measure=>omega
    case rel=>
     go_light
     exact⟨T.length+1,z,_,T++[DG],bm,bm,HVT.out,HTO.out,HSB.out,by rw[At];rfl,so.out,O5.out,sn.out,B5.out⟩
   .have HBC:Hid (∀W,Calls zq 82 #[I,T.length] W λe l=>e=aM (.bool aF)/\l=W):=λW=>by
     have:=HB.out W T.length hd3;rw[Dz h0]at this;exact this
    have N:=HA.out.step h2 hd3;rw[h0]at N;have sn:=hid N;have HN:Hid (∀W,zb w W->Calls zq 226 #[aO t,ptr z] W λe l=>e=aM (gY k (bJ T.length 0 f) (T.length+1))/\l=W):=λW P=>M.out W z _ (T.length+1) P hz;have HTO:=hid ho;have HSB:Hid (∀u∈bJ T.length 1 f,u∈us):=λu hu=>r2 u (Bi.1 hu).1;have hdg:=Rz (bJ T.length 0 f);obtain⟨vz,K⟩:=zzx (ptr z);obtain⟨vo,L⟩:=zzx (ptr o);have HVT:=hid L;rw[<-K]at k0;rw[<-L]at k1;rw[<-K]at HN;generalize gY k (bJ T.length 0 f) (T.length+1)=DG at*;clear K L N HA HB M A F Rz hc m a hz ho r2 Q HR h2 h0 e2;go_wp2_with fail;refine V.mono ?_;clear V;rintro e w2 ⟨rfl,rfl⟩;go_upto_region 4 with(fail)
    go_quiet (fail);have J:Hid (zb w (w2.drewN nq)):=⟨j.out.os,j.out.tape,j.out.output,j.out.size,j.out.block⟩;have O2:Hid (Own (w2.drewN nq) w.heap.size 9 (aK O T.length cT) T.length (T.map λx=>aL ⟨x.toArray⟩)):=Own.kept HT.out λ_ _=>rfl;have hjT:T.length+1<=1000000:=by omega
    generalize w2.drewN nq=wn at*;have ae:w.heap.size<=wn.heap.size:=J.out.size;go_wp2_with fail;refine(HBC.out wn).mono ?_;rintro e w3 ⟨rfl,rfl⟩;go_wp2_with fail;refine(HN.out w3 J.out).mono ?_;rintro e w4 ⟨rfl,rfl⟩;go_wp2_with (first|(at_builtin;refine GC rfl _ _ rfl w _ _ _ rfl O2.out [_] 1 rfl j0 C9 hjT ae ?_;intro v5 w5 D Rx));have B5:Hid (zb w w5):=lH (B:=w.heap.size) J.out O2.out Rx (je _) ae;have O5:Hid (Zd w5 w v5 (T++[DG])):=by show Own _ _ _ _ _ _;rw[At,Gr];exact D
    have so:Hid (∀y∈T++[DG],y.length<=32):=λy Y=>by obtain Y|Y:=Bl.1 Y;{exact H32.out y Y};{rw[Cy.1 Y];exact hdg}
    clear D Rx;go_roundg (257-(T.length+1));case measure=>omega
    case rel=>
     go_light
     exact⟨T.length+1,o,_,T++[DG],bm,bm,HVT.out,HTO.out,HSB.out,by rw[At];rfl,so.out,O5.out,sn.out,B5.out⟩
end
open Go Go.RowKit
def reaches {name f}(h:(zq.info? 146).bind (λi=>(i.methods.find? (·.name==name)).map λm=>(m.path,m.func))=aA (#[],aA (f,aF)))(a)(w): (method (zq.types.size+100) 146 (.pointer a) name).run zq w= .ok (f,.pointer a) w:=by cases hi:zq.info? 146 with|none=>rw[hi]at h;cases h|some i=>rw[hi]at h;simp only[Option.bind_some]at h;cases hm:i.methods.find? (·.name==name)with|none=>rw[hm]at h;cases h|some m=>rw[hm]at h;simp only[Fz,Option.some.injEq,Prod.mk.injEq]at h;rw[show zq.types.size+100=(zq.types.size+99)+1 from rfl];have c:=run_underlying ((Qz.eR 146).trans underlying146);have b:(typeInfo 146).run zq w= .ok i w:=by{simp[typeInfo,hi]};unfold method;simp only[Sem.run_bind,b,Result.andThen_ok,hm,h.1,h.2];simp[follow,receiverAt,c,Place.get]
def gG (S:zLL):zV:=S.map λx=>aL ⟨zAL x⟩
def OL (x:zY):Prop:=∃s,x=aL s
structure cW (w:zW)(d k win first hb dN t R b cap:Nat)(C:zP)(S:List (List bE))(H:zLL):Prop where
 rW:dH w t k R b cap C S
 Pz:zq.globals.size<d
 sS:zq.globals.size<hb
 at':w.heap[d]? =aA (aJ #[k,win,first,aK hb S.length dN,.iface 146 (aO t)] 86 (0,0))
 hlen:H.length=S.length
 tU:∀h∈H,h.length<=32
 eU:fG OL w hb 9 1 (aK hb S.length dN) S.length (gG H)
 f1:first<=4611686018427387904
section
variable {w w':zW}{d k win first hb dN t R b cap:Nat}{C:zP}{S:List (List bE)}{H:zLL}
theorem cW.lt (h:cW w d k win first hb dN t R b cap C S H):d<w.heap.size:=(Ax.1 h.at').1
theorem cW.cell (h:cW w d k win first hb dN t R b cap C S H)(i:Nat):w.cell? (d,i)=(#[k,win,first,aK hb (zAH S) dN,.iface 146 (aO t)]:zA)[i]? :=Eh w d i _ _ (0,0) h.at'
theorem cW.below {B:Nat}(h:cW w d k win first hb dN t R b cap C S H)(a:Below B w w')(c:w.heap.size<=B):cW w' d k win first hb dN t R b cap C S H:=⟨h.rW.below a c,h.Pz,h.sS,by rw[a.block d (Ao h.lt c)];exact h.at',h.hlen,h.tU,h.eU.below a c,h.f1⟩
def LP (h:cW w d k win first hb dN t R b cap C S H):
  Calls zq 23 #[aO d] w λe w'=>e=aM (.tuple #[first,aC aD ((first:Int)+zAH S-1)])/\zb w w':=by
 have g:=bQ ((h.cell 2).trans (rfl:_=aA (Value.int aD first))) h.lt;have f:=bQ ((h.cell 3).trans (rfl:_=aA (Value.slice hb (zAH S) dN))) h.lt;have i:=h.f1;have hl:=h.rW.len;generalize zAH S=n at*;go_enter (Qz.fn func23),ntmps23;go_upto_region 1 with(fail)
 refine Em c9 c9 ?_;repeat (any_goals(first|go_big_quiet_step (fail)|quiet_step (fail)))
 refine Dn ?_;intro W a;let⟨q,c⟩:=a;have hb:Hid (zb w W):=by rw[c];exact Dc w q.d q.os
 go_wp2;go_ret2;exact⟨rfl,hb⟩
def oS (h:cW w d k win first hb dN t R b cap C S H){i:Nat}(hi:i<zAH S): Calls zq 36 #[aO d,aC aD ((first:Int)+i)] w λe w'=>e=aM (.bool aF)/\zb w w':=by have c:=LP h;have f:(first:Int)<=first+(i:Int):=by{omega};have a:(first:Int)+i<=(first:Int)+zAH S-1:=by{omega};generalize(first:Int)+zAH S-1=l at*;generalize(first:Int)+i=ep at*;go_enter (Qz.fn func36),ntmps36;go_wp2_with fail;refine c.mono ?_;exact V0
def aMZ (h:cW w d k win first hb dN t R b cap C S H){i:Nat}{us:List bE}(hi:S[i]? =aA us): Calls zq 49 #[aO d,aC aD ((first:Int)+i)] w λe w'=>∃v,e=aM (.tuple #[v,aC aD 0])/\bO w' w v us/\zb w w':=by have m:=(Bx.1 hi).1;have s:=oS h m;have x:=hid h;have F:=h.f1;have hl:=h.rW.len;have u:=hid hi;have D:∀W,(method (zq.types.size+100) 146 (aO t) "Entries").run zq W= .ok (213,aO t) W:=λW=>reaches c9 _ W;have p:IntKind.i64.wrap (i:Int)=i:=by{rw[Dt];omega};have n:(first:Int)+i-(first:Int)=i:=by{omega};go_enter (Qz.fn func49),ntmps49;go_wp2_with fail;refine s.mono ?_;rintro e w2 ⟨rfl,j⟩;have A:=hid j;have E:=hid (x.below j (je _));have o:=E.cell 2;have q:=E.cell 4;have y:Hid (dH w2.drew t k R b cap C S):=E.rW.kept (je _) λ_ _=>rfl;have B:Hid (zb w w2.drew):=iH A;have a:w.heap.size<=w2.drew.heap.size:=B.size;go_wp2_with fail;go_region_with (first|(go_at_call 213;refine(zFx y u).mono ?_;rintro e w3 ⟨v3,rfl,c,f⟩;dsimp only));all_goals have z:Hid (zb w w3):=aY B f a;have O:Hid (bO w3 w v3 us):=by{refine⟨c.1,?_⟩;obtain h|⟨g,l,cur,e,h1,r⟩:=c.2;{exact aH h};{exact aI ⟨g,l,cur,e,Az a h1,r⟩}};clear c f o q;go_wp2;go_ret2;exact⟨v3,rfl,O,z⟩
def zAc (h:cW w d k win first hb dN t R b cap C S H){i:Nat}{us:List bE}(hi:S[i]? =aA us): Calls zq 21 #[aO d,aC aD ((first:Int)+i)] w (RF λx w'=>x= .tuple #[cR k (aV us) 0,aC aD 0]/\zb w w'):=by have j:=(Bx.1 hi).1;have o:=oS h j;have r:=hid h;have z:=h.f1;have hl:=h.rW.len;have p:=hid hi;have y:∀W,(method (zq.types.size+100) 146 (aO t) "Root").run zq W= .ok (217,aO t) W:=λW=>reaches c9 _ W;have n:IntKind.i64.wrap (i:Int)=i:=by{rw[Dt];omega};have l:(first:Int)+i-(first:Int)=i:=by{omega};go_enter (Qz.fn func21),ntmps21;go_wp2_with fail;refine o.mono ?_;rintro e w2 ⟨rfl,g⟩;have v:=hid g;have E:=hid (r.below g (je _));have m:=E.cell 2;have q:=E.cell 4;have s:Hid (dH w2.drew t k R b cap C S):=E.rW.kept (je _) λ_ _=>rfl;have B:Hid (zb w w2.drew):=iH v;have a:w.heap.size<=w2.drew.heap.size:=B.size;go_wp2_with fail;go_region_with (first|(go_at_call 217;refine(XI s p).mono ?_;rintro e w3 (⟨_,rfl,rfl,f⟩|⟨c,rfl,he⟩);rotate_left;exact⟨rfl,.told he⟩;dsimp only));all_goals have u:Hid (zb w w3):=aY B f a;clear f m q;go_wp2;go_ret2;exact .of ⟨rfl,u⟩
def UC (h:cW w d k win first hb dN t R b cap C S H){i:Nat}{us:List bE}(hi:S[i]? =aA us)(I:zB)(p:zAH I=32): Calls zq 24 #[aO d,aC aD ((first:Int)+i),I] w (RF λx w'=>x= .tuple #[jP k (qP k I 256 (aV us) 0),aC aD 0]/\zb w w'):=by have j:=(Bx.1 hi).1;have r:=oS h j;have m:=hid h;have A:=h.f1;have hl:=h.rW.len;have s:=hid hi;have z:∀W,(method (zq.types.size+100) 146 (aO t) "Prove").run zq W= .ok (216,aO t) W:=λW=>reaches c9 _ W;have o:IntKind.i64.wrap (i:Int)=i:=by{rw[Dt];omega};have l:(first:Int)+i-(first:Int)=i:=by{omega};go_enter (Qz.fn func24),ntmps24;go_wp2_with fail;refine r.mono ?_;rintro e w2 ⟨rfl,a⟩;have y:=hid a;have E:Hid (cW w2 d k win first hb dN t R b cap C S H):=m.below a (je _);clear a m;dsimp only;have n:w2.cell? (d,2)=aA (first:zY):=E.cell 2;have q:w2.cell? (d,4)=aA (.iface 146 (aO t)):=E.cell 4;have u:Hid (dH w2.drew t k R b cap C S):=E.rW.kept (je _) λ_ _=>rfl;have B:Hid (zb w w2.drew):=iH y;have f:w.heap.size<=w2.drew.heap.size:=B.size;go_wp2_with fail;go_region_with (first|(go_at_call 216;refine(zFb u s I p).mono ?_;rintro e w3 (⟨_,rfl,rfl,g⟩|⟨c,rfl,he⟩);rotate_left;exact⟨rfl,.told he⟩;dsimp only));all_goals have v:Hid (zb w w3):=aY B g f;clear g n q;go_wp2;go_ret2;exact .of ⟨rfl,v⟩
end
def yL (S:List (List bE)):Nat->List bE
 |0=>[]|i+1=>(S[i]?).getD []
def CV {S:List (List bE)}{t:Nat}(h:t<zAH S):yL S (t+1)=S[t]:=by show(S[t]?).getD []=_;exact ji
def zAk (S:List (List bE))(t:Nat)(us:List bE)(h:S[t]? =aA us):cJ (S.take (t+1))=cJ (S.take t)+dZ (aV us) (aV (yL S t)) 0:=by have e:S.take (t+1)=S.take t++[us]:=by{rw[Hg,h];rfl};rw[e];cases t with|zero=>show dZ (aV us) [] 0+0=0+dZ (aV us) [] 0;omega|succ t=>have hlt:=(Bx.1 h).1;have b:S.take (t+1)=S.take t++[S[t]' bm]:=j1;have a:yL S (t+1)=S[t]' bm:=CV bm;unfold cJ;rw[b,qD,a]
section
variable {w w':zW}{F:zP}{rd en k win R first:Nat}{v:zY}{Es:List Ep}{S:List (List bE)}{H:zLL}
def AN (h:cI w F rd en k win R first v Es S H)(T:cJ S<=1000000): Calls zq 47 #[aO rd] w λe w'=>e=aM (aC aD (cJ S:Nat))/\zb w w':=by obtain⟨O,cap,rfl,M,_,p⟩:=h.row;have HR:Hid (∀(W:zW)(i:Nat) us,zb w W->S[i]? =aA us->∃j c,W.cell? (O,i*3)=aA (aK j (zAH us) c)/\bN W j us):=λW i us I hi=>by{let⟨j,c,x,_,e1,_,_,e4,_⟩:=p i us hi;exact⟨j,c,by rw[I.cell M];exact e1,e4.below I (je _)⟩};have HQ:Hid (∀W,zb w W->W.cell? (rd,4)=aA (aK O (zAH S) cap)):=λW I=>by{rw[I.cell h.lt];exact(h.cell 4).trans rfl};have C:=hid h.st;have D:Hid (∀t,t<=zAH S->cJ (S.take t)<=1000000):=λt G=>by{have K:∀(S:List (List bE))(l:List qN)(t:Nat),rF l (S.take t)<=rF l S:=by{intro S;induction S with|nil=>intro l t;rw[List.take_nil];exact je _|cons a S ih=>intro l t;cases t with|zero=>exact Cw _|succ t=>show dZ _ _ _+rF _ (S.take t)<=dZ _ _ _+rF _ S;have:=ih (aV a) t;exact bm};exact Az (K S [] t) T};have hl:=h.len;let⟨n,L⟩:=zzx (zAH S);have y:=hid L;rw[<-L]at HQ hl;have HM:Hid (∀(W:zW)(t:Nat) us j Y d m,S[t]? =aA us->bN W j us->bN W d (yL S t)->Calls zq 70 #[aK j (zAH us) Y,aK d (zAH (yL S t)) m] W λe w'=>e=aM (aC aD (dZ (aV us) (aV (yL S t)) 0:Nat))/\zb W w'):=λW t us j Y d m G J b=>by{have X:=C us (Ek G);have V:CP (yL S t)/\zAH (yL S t)<=2000:=by{cases t with|zero=>exact⟨CP.nil,Cw _⟩|succ t=>have hlt:=(Bx.1 G).1;have e:yL S (t+1)=S[t]' bm:=CV bm;rw[e];exact C _ (Fp _)};exact FP X.1.sub V.1.sub.idx X.1.here V.1.here bm bm J b};clear h p T L;go_enter (Qz.fn func47),ntmps47;go_wp2;go_loopg [3,4,5] n (λq a i x wr=>∃t:Nat,t+q=n/\i=aC aD t/\a=aC aD (cJ (S.take t):Nat)/\zb w wr);(case atStart=>exact⟨0,bm,rfl,rfl,Av _ _⟩);case round=>obtain⟨t,G,rfl,rfl,Z⟩:=hrel;have B:=hid Z;clear Z;have Q:=HQ wr B;by_cases hlt:t<n;{have f:S[t]? =aA (S[t]' H8):=Be _;generalize S[t]' H8=us at f;let⟨j,c,c0,J⟩:=HR wr t us B f;have s:=hid (zAk S t us f);have hle:=D t H8;have A:=D (t+1) H8;have r:∃d m,bN wr d (yL S t)/\((t=0/\d=aB/\m=0/\zAH (yL S t)=0)\/(0<t/\wr.cell? (O,(t-1)*3)=aA (aK d (zAH (yL S t)) m))):=by{cases t with|zero=>exact⟨aB,0,λh=>absurd h (Io 0),aH ⟨rfl,rfl,rfl,rfl⟩⟩|succ t=>have z:t<zAH S:=H8;let⟨d,m,d0,b⟩:=HR wr t _ B (Be z);have e:=CV z;rw[e];exact⟨d,m,b,aI ⟨bm,d0⟩⟩};let⟨d,m,b,r⟩:=r;have o:=HM wr t us j c d m f J b;rw[s.out]at A;generalize dZ (aV us) (aV (yL S t)) 0=nw at*;generalize(yL S t).length=wl at*;generalize N:cJ (S.take t)=ct at*;have E:=hid s;clear s N;clear J b f;obtain⟨rfl,rfl,rfl,rfl⟩|⟨ht0,d0⟩:=r;{have hz:¬((0:Int)<((0:Nat):Int)):=j2;go_wp2_with fail;refine o.mono ?_;clear o;rintro e w1 ⟨rfl,g⟩;have P:=hid (aY B g B.size);clear g c0 Q;dsimp only;go_wp2;go_roundg (n-(0+1));(case measure=>go_light;omega);case rel=>go_light;exact⟨0+1,bm,j9,by rw[E.out];rfl,P⟩};.have hz:(0:Int)<t:=bm;obtain⟨u,rfl⟩:∃u,t=u+1:=⟨t-1,bm⟩;rw[show u+1-1=u from bm]at d0;go_wp2_with fail;refine o.mono ?_;clear o;rintro e w1 ⟨rfl,g⟩;have P:=hid (aY B g B.size);clear g c0 Q d0;dsimp only;go_wp2;go_roundg (n-(u+1+1));(case measure=>go_light;omega);case rel=>go_light;exact⟨u+1+1,bm,j9,by rw[E.out];rfl,P⟩};.obtain rfl:t=n:=bm;have HT:Hid (S.take t=S):=by{show _=_;rw[y.out,Fq]};have U:=HT.out;rw[U];clear U;exact X7
end
def KH {P:zZ}{fn:Func}{p q:Tmp}{ty:zD}(h:fn.results= #[.cell p ty,.tmp q])(tmps:zA)(w:zW)(g:Nat)(t:zD)(cs:zA)(fr:Nat×Nat)(d:TypeDesc) (j:tmps.getD p undef=aO g) (e:w.heap[g]? =aA (aJ cs t fr)) (c:P.underlying ty=aA d) (f:(match d with| .struct _| .array _ _=>aF|_=>aG)=aF) (hi:(P.info? ty).map (·.size)=aA cs.size) (v:zY) (i:tmps.getD q undef=v): (results fn tmps).run P w= .ok (.tuple #[.agg cs,v]) w:=by have b:tmps[p]?.getD undef=aO g:=by{simp_all};have a:tmps[q]?.getD undef=v:=by{simp_all};simp[results,h,b,a,asAddr,run_loadVar_row w g t ty cs fr d e c f hi]
section
variable {w w':zW}{F:zP}{rd en k win R first:Nat}{v:zY}{Es:List Ep}{S:List (List bE)}{H:zLL}
def XQ (h:cI w F rd en k win R first v Es S H)(ep:Int)(b:fH first (zAH S) ep=aG):
  Calls zq 48 #[aO rd,ep] w λe w'=>e=aM (.tuple #[.agg #[aK aB 0 0,aL ⟨#[]⟩,aL ⟨#[]⟩],aC aD 4])/\zb w w':=by
 have B0:Hid (zb w (zAK w (aJ #[aK aB 0 0,aL ⟨#[]⟩,aL ⟨#[]⟩] 102))):=(Av _ w).alloc (je _) _;have a:=vN (h.below B0 (je _)) ep;rw[b]at a;have K0:Hid (bT (zAK w (aJ #[aK aB 0 0,aL ⟨#[]⟩,aL ⟨#[]⟩] 102)) w.heap.size 102 #[aK aB 0 0,aL ⟨#[]⟩,aL ⟨#[]⟩]):=bT.new _ _ _;go_enter (Qz.fn func48),ntmps48;go_wp2_with fail;generalize zAK w (aJ #[aK aB 0 0,aL ⟨#[]⟩,aL ⟨#[]⟩] 102)=w0 at*;refine a.mono ?_;rintro e w1 ⟨rfl,hb⟩;have K1:=hid (K0.below hb K0.lt);have c0:=(K1.cell 0).trans rfl;have c1:=(K1.cell 1).trans rfl;have c2:=(K1.cell 2).trans rfl;have f0:=K1.frozen 0;have f1:=K1.frozen 1;have f2:=K1.frozen 2;go_wp2;refine Fx (KH results48 _ _ w _ _ _ _ rfl (((K1.bR 0 _).bR 1 _).bR 2 _) ((Qz.eR 102).trans underlying102) rfl c9 _ rfl) rfl ?_;exact⟨rfl,(((hid (aY B0 hb B0.size)).out.setCell (je _) _).setCell (je _) _).setCell (je _) _⟩
def DN (h:cI w F rd en k win R first v Es S H)(i:Nat)(us:List bE)(x:zB)(hi:S[i]? =aA us)(o:H[i]? =aA x):
  Calls zq 48 #[aO rd,aC aD ((first:Int)+i)] w λe w'=>∃b c,e=aM (.tuple #[.agg #[aK b (zAH us) c,cR k (aV us) 0,x],aC aD 0])/\bN w' b us/\zb w w':=by
 have A:=(Bx.1 hi).1;have E:=h.f1;have hl:=h.len;obtain⟨f,cap,rfl,d,_,a⟩:=h.row;let⟨b,c,l,g,u,t,s,r,_⟩:=a i us hi;obtain rfl:l=x:=Ay (g.symm.trans o);have B0:Hid (zb w (zAK w (aJ #[aK aB 0 0,aL ⟨#[]⟩,aL ⟨#[]⟩] 102))):=(Av _ w).alloc (je _) _;have m:=vN (h.below B0 (je _)) ((first:Int)+i);have q:fH first (zAH S) ((first:Int)+i)=aF:=by unfold fH;rw[Dz bm,Dz bm];rfl
 rw[q]at m;have K0:Hid (bT (zAK w (aJ #[aK aB 0 0,aL ⟨#[]⟩,aL ⟨#[]⟩] 102)) w.heap.size 102 #[aK aB 0 0,aL ⟨#[]⟩,aL ⟨#[]⟩]):=bT.new _ _ _;have y:Hid (∀W,zb w W->W.cell? (rd,4)=aA (aK f (zAH S) cap)/\W.cell? (rd,5)=aA (first:zY)/\W.cell? (f,i*3)=aA (aK b (zAH us) c)/\W.cell? (f,i*3+1)=aA (cR k (aV us) 0:zY)/\W.cell? (f,i*3+2)=aA (l:zY)):=λW j=>⟨by rw[j.cell (p:=⟨rd,4,aB⟩) h.lt];exact(h.cell 4).trans rfl,by rw[j.cell (p:=⟨rd,5,aB⟩) h.lt];exact(h.cell 5).trans rfl,by rw[j.cell (p:=(f,i*3)) d];exact u,by rw[j.cell (p:=(f,i*3+1)) d];exact t,by rw[j.cell (p:=(f,i*3+2)) d];exact s⟩;have C:Hid (bN w b us):=r;clear h q a hi o g u t s r;generalize cR k (aV us) 0=rt at*;generalize zAH S=n at*;generalize zAH us=ul at*;go_enter (Qz.fn func48),ntmps48;go_wp2_with fail;generalize zAK w (aJ #[aK aB 0 0,aL ⟨#[]⟩,aL ⟨#[]⟩] 102)=w0 at*;refine m.mono ?_;clear m;rintro e w1 ⟨rfl,hb⟩;have z:Hid (zb w w1):=aY B0 hb B0.size;have K1:Hid (bT w1 w 102 #[aK aB 0 0,aL ⟨#[]⟩,aL ⟨#[]⟩]):=K0.below hb K0.lt;have D:Hid (zb w w1.drew):=z.drew;have K:Hid (bT w1.drew w 102 #[aK aB 0 0,aL ⟨#[]⟩,aL ⟨#[]⟩]):=K1.out;have c0:w1.cell? w=aA (aK aB 0 0):=(K1.cell 0).trans rfl;have c1:w1.cell? (w,1)=aA (aL ⟨#[]⟩):=(K1.cell 1).trans rfl;have c2:w1.cell? (w,2)=aA (aL ⟨#[]⟩):=(K1.cell 2).trans rfl;have f0:=K1.frozen 0;have f1:=K1.frozen 1;have f2:=K1.frozen 2;let⟨d4,d5,a0,G,a2⟩:=y w1 z;clear hb B0 K0 y;dsimp only;go_upto_region 4 with(fail)
 go_region;all_goals
  go_wp2
  refine Fx (KH results48 _ _ w _ _ _ _ rfl (((K.bR 0 _).bR 1 _).bR 2 _) ((Qz.eR 102).trans underlying102) rfl c9 _ rfl) rfl ?_
  have B:zb w (zAJ (zAJ (zAJ w1.drew w (aK b ul c)) (w,1) (aL ⟨zAL rt⟩)) (w,2) (aL ⟨zAL l⟩)):=((D.setCell (je _) _).setCell (je _) _).setCell (je _) _
  exact⟨b,c,rfl,C.below B (je _),B⟩
end
def Kn:∃i,zq.info? 102=aA i/\i.zero=aA (.agg #[aK aB 0 0,aL ⟨#[]⟩,aL ⟨#[]⟩])/\i.size=3/\i.bytes=56:=BP c9
abbrev GV (w:zW)(base:Nat)(v:zY)(l:List Ep):Prop:=w.ownsRow base 102 3 v l.length (gX l)
def Rg {W:zW}{ops:zQ}{rest:List Oper}{o:Oper}{a:Act}{Q:zX}(n:o.guard=aB)(s x:Operand)
  (u:o.op= .call ⟨.builtin .append,#[s,x],#[124,124]⟩)
  (base:Nat) (v:zY) (l:List Ep) (hs:a.eval s=v) (b:GV W base v l) (e:Ep) (c:Nat) (t:a.eval x=aK (aA ⟨W.heap.size,0,aB⟩) 1 c) (A:e.1.oneCell'=aF)
  (B:l.length<=1000000) (q:base<=W.heap.size)
  (h:∀g cap w',GV w' base (aK (aA ⟨g,0,aB⟩) (l.length+1) cap) (l++[e])->W.grownBy w' v.ownBlock->wpList zq ops Q rest (a.put o.dst (aK (aA ⟨g,0,aB⟩) (l.length+1) cap)) w'):wpList zq ops Q (o::rest) a (W.alloc (aJ #[e.1,aL ⟨e.2.1.toArray⟩,aL ⟨e.2.2.toArray⟩] 102)):=by let⟨i,hi,r,m,p⟩:=Kn;refine wpList_append_lies _ n s x 124 u base 102 i _ 3 56 j1 hi r m p rfl bm v (zAH l) (gX l) hs (World.ownsRow.alloc b _) W 1 c (kN e) t rfl (λj y f=> ?_) (λy f=> ?_) bm j7 bm j6 _ rfl (λg cap w' C z _ _=>h g cap w' ?_ (dF z));{exact J2};{simp only[kN,Bb,Bq,Bm]at f;obtain rfl|rfl|rfl:=f;{exact A};{rfl};.rfl};.have D:gX (l++[e])=gX l++kN e:=by{unfold gX;exact ji};exact ji
section
variable {w w':zW}{F:zP}{rd en k win R first:Nat}{v:zY}{Es:List Ep}{S:List (List bE)}{H:zLL}
def cI.jq (h:cI w F rd en k win R first v Es S H){g o:Nat}(a:∃x,w.cell? (g,o)=aA (aL x)):g≠rd:=λe=>by subst e;let⟨x,a⟩:=a;rw[h.cell]at a;obtain⟨b,cap,rfl,_⟩:=h.row;grind[Array.mem_of_getElem?]
def cI.drop {c:Nat}{v':zY}(h:cI w F rd en k win R first v Es S H)(z:c<zAH S)(hs:w.heap.size<=w'.heap.size)(hk:∀x,F x->x<w.heap.size->x≠rd->w'.heap[x]? =w.heap[x]?)(p:w'.heap[rd]? =aA (aJ #[en,k,win,R,v',aC aD ((first:Int)+c)] 126 (0,0)))(b:GV w' w v' (Es.drop c))(j:first+c<=4611686018427387904):cI w' (λx=>F x\/w.heap.size<=x) rd en k win R (first+c) v' (Es.drop c) (S.drop c) (H.drop c):=by refine⟨h.k1,h.k2,h.r2,j5,?_,ji,by grind[len,List.length_drop],by grind[EC,List.length_drop],by grind[hlen,List.length_drop],λx f=>h.tU x ji,λi us hi=> ?_,λus y=>h.st us ji,⟨aH h.wL.1,λg d=>aI ?_⟩,j⟩;{refine⟨b.1,?_⟩;obtain e|⟨g,cap,cur,e,hb,r⟩:=b.2;all_goals grind};{rw[Hm]at hi;let⟨m,u,x,B,A,l,t⟩:=h.ep _ us hi;refine⟨m,u,x,ji,ji,l.kept hs λg o e d f=>hk g (t _ e f.2).1 d (h.jq f.1),λa q s=>⟨ji,λn=> ?_⟩⟩;let⟨g,o,e,d,_⟩:=l s;rw[q]at e;have:=(World.ownsRow.lt b _ n).1;exact ji};.exact(World.ownsRow.lt b g d).1
def xA (h:cI w F rd en k win R first v Es S H){c:Nat}(hc:c<S.length)(U:first+c<=4611686018427387904):
  Calls zq 69 #[aO rd,aC aD ((first:Int)+c)] w λe w'=>∃j,e=aM (.tuple #[])/\cI w' (λx=>F x\/w.heap.size<=x) rd en k win R (first+c) j (Es.drop c) (S.drop c) (H.drop c)/\dA (λx=>x=rd) w w':=by
 obtain⟨u,cap,hv,s,_,l⟩:=h.row;have o:Hid (∀W j,zb w W->GV W w j (Es.drop c)->cI ((W.setCell (rd,4) j).setCell (rd,5) (aC aD ((first:Int)+c))) (λx=>F x\/w.heap.size<=x) rd en k win R (first+c) j (Es.drop c) (S.drop c) (H.drop c)/\dA (λx=>x=rd) w ((W.setCell (rd,4) j).setCell (rd,5) (aC aD ((first:Int)+c)))):=λW j d ho=>by have J:=h.lt;have f:bT W rd 126 #[en,k,win,R,v,first]:=(d.block rd J).trans h.at';have b:∀x,x≠rd->((W.setCell (rd,4) j).setCell (rd,5) (aC aD ((first:Int)+c))).heap[x]? =W.heap[x]? :=λx hx=>(Du _ _ _ _ hx).trans (Du _ _ _ _ hx);have y:((W.setCell (rd,4) j).setCell (rd,5) (aC aD ((first:Int)+c))).heap.size=W.heap.size:=n9;refine⟨h.drop hc (y▸d.size) (λx _ hlt K=>(b x K).trans (d.block x hlt)) ((f.bR 4 _).bR 5 _) ?_ U,⟨d.os,d.tape,d.output,by rw[y];exact d.size,λx hlt hn=>(b x hn).trans (d.block x hlt)⟩⟩;refine⟨ho.1,?_⟩;obtain e|⟨g,cap,cur,e,hb,hg,r⟩:=ho.2;{exact aH e};{exact aI ⟨g,cap,cur,e,hb,(b g bm).trans hg,r⟩}
 have HQ:Hid (∀W,zb w W->W.cell? (rd,4)=aA v/\W.cell? (rd,5)=aA (first:zY)/\W.frozen? (rd,4)=aG/\W.frozen? (rd,5)=aG):=λW d=>by have f:bT W rd 126 #[en,k,win,R,v,first]:=(d.block rd h.lt).trans h.at';exact⟨(f.cell 4).trans rfl,(f.cell 5).trans rfl,f.frozen 4,f.frozen 5⟩
 have HR:Hid (∀(W:zW)(t:Nat),zb w W->t<(Es.drop c).length->∃e:Ep,(Es.drop c)[t]? =aA e/\e.1.oneCell'=aF/\W.cell? (u,(c+t)*3)=aA e.1/\W.cell? (u,(c+t)*3+1)=aA (e.2.1:zY)/\W.cell? (u,(c+t)*3+2)=aA (e.2.2:zY)):=λW t d ht=>by rw[GL,h.EC]at ht;have I:S[c+t]? =aA (S[c+t]' bm):=Be _;obtain⟨va,cc,x,_,d0,d1,d2,_,Y⟩:=l _ _ I;exact⟨_,by rw[Hm];exact Y,rfl,by rw[d.cell (p:=(u,(c+t)*3)) s];exact d0,by rw[d.cell (p:=(u,(c+t)*3+1)) s];exact d1,by rw[d.cell (p:=(u,(c+t)*3+2)) s];exact d2⟩
 have hf:=h.f1;have hl:=h.len;have hlen:(Es.drop c).length+c=S.length:=by rw[GL,h.EC];omega
 subst hv;clear h l;generalize Es.drop c=E at*;generalize X:S.length=n at*;generalize S.drop c=Sd at*;generalize H.drop c=Hd at*;obtain⟨m,N⟩:=zzx E.length;have HM:Hid (m=E.length):=N;rw[<-N]at HR hlen;clear N X;have hs2:IntKind.i64.wrap ((first:Int)+c-(first:Int))=(c:Int):=by rw[Dt];omega
 obtain⟨q4,q5,_,_⟩:=HQ.out w (Av _ _);go_enter (Qz.fn func69),ntmps69;go_wp2;clear q4 q5;go_loopg [4,5] m (λq x i wr=>∃t:Nat,t+q=m/\i=aC aD ((c:Int)+t)/\zb w wr/\GV wr w x (E.take t));case atStart=>exact⟨0,bm,j0,Av _ _,World.ownsRow_nil _ _ _ _⟩
 case round=>
  obtain⟨t,ht,rfl,b2,o2⟩:=hrel
  have B:Hid (zb w wr):=b2
  have O:Hid (GV wr w u4 (E.take t)):=o2
  clear b2 o2
  obtain⟨q4,q5,f4,f5⟩:=HQ.out wr B.out
  by_cases hlt:t<m
  .obtain⟨e,he,h1,c0,c1,c2⟩:=HR.out wr t B.out hlt;have gd:t<E.length:=by have:=HM.out;omega
   have HT:Hid (E.take (t+1)=E.take t++[e]):=by show _=_;rw[Hg,he];rfl
   have P:(E.take t).length<=1000000:=E7;have V:w.heap.size<=wr.heap.size:=B.out.size;obtain⟨e1,Y,e3⟩:=e;dsimp only at*;have A:(c:Int)+t<(n:Int):=bm;have Q:¬((c:Int)+t<0):=bm;have M:((c:Int)+t).toNat=c+t:=bm;have G:(c:Int)+t=((c+t:Nat):Int):=bm;have HCT:Hid (((c+t:Nat):Int)+1=(c:Int)+((t+1:Nat):Int)):=by{show _=_;exact bm};rw[G]at A Q⊢;clear he G M;generalize c+t=ct at*;generalize E.take t=L at*;go_wp2_with (at_builtin;refine Rg rfl _ _ rfl w _ _ rfl O.out (e1,Y,e3) 1 rfl h1 P V ?_;intro g' cap' w1 z T);go_roundg (m-(t+1));case measure=>go_light;omega
   case rel=>go_light;exact⟨t+1,bm,by rw[<-HCT.out],B.out.grown T B.out.size λk hk=>(World.ownsRow.lt O.out k hk).1,by rw[HT.out];exact z⟩
  .obtain rfl:t=m:=bm;have A:¬((c:Int)+t<(n:Int)):=bm;have HT:Hid (E.take t=E):=by show _=_;rw[HM.out,Fq]
   have Z:Hid (GV wr w u4 E):=by have:=O.out;rw[HT.out]at this;exact this
   obtain⟨D,C⟩:=o.out wr u4 B.out Z.out;have HE1:Hid (cI ((wr.setCell (rd,4) u4).setCell (rd,5) (aC aD ((first:Int)+c))) (λx=>F x\/w.heap.size<=x) rd en k win R (first+c) u4 E Sd Hd):=D;have HE2:Hid (dA (λx=>x=rd) w ((wr.setCell (rd,4) u4).setCell (rd,5) (aC aD ((first:Int)+c)))):=C;clear D C o O;obtain⟨a4,n4,c4,rfl⟩:∃a n c,u4=aK a n c:=by obtain e|⟨g,cap,cur,e,_⟩:=Z.out.2;{exact⟨_,_,_,e.1⟩};{exact⟨_,_,_,e⟩}
   clear Z;go_wp2;go_end0;exact⟨rfl,⟨_,HE1.out⟩,HE2.out⟩
end
def zCs (n t:Nat)(h:t<8):(eight n).drop (8-(t+1))=mP n (8-(t+1))::(eight n).drop (8-t):=by have hl:zAH (eight n)=8:=by{simp[eight]};rw[Nf bm,show 8-(t+1)+1=8-t from bm];simp[eight]
def zEm (n t:Nat)(h:t<8):((n/256^t%256:Nat):Int)=((mP n (8-(t+1))).toNat:Int):=by rw[mP,Hh,show 7-(8-(t+1))=t from bm,Nat.pow_mul]
section
variable {w w':zW}{F G:zP}{rd en k win R first:Nat}{v:zY}{Es:List Ep}{S:List (List bE)}{H:zLL}
def cI.wide (h:cI w F rd en k win R first v Es S H)(hs:∀x,F x->G x):cI w G rd en k win R first v Es S H:= ⟨h.k1,h.k2,h.r2,h.at',h.own,h.one,h.len,h.EC,h.hlen,h.tU,λi us hi=>by let⟨b,c,x,j,f,d,e⟩:=h.ep i us hi;exact ji,h.st,⟨hs _ h.wL.1,λg a=>hs _ (h.wL.2 g a)⟩,h.f1⟩
end
def zCl (n:Nat)(w:zW)(d:n<=9000000000000000000):
  Calls zq 93 #[n] w λe w'=>e=aM (eight n)/\zb w w':=by
 have B0:Hid (zb w w):=Av _ _;go_enter (Qz.fn func93),ntmps93;go_wp2;go_loopg [0,3,4] 8 (λq x s i wr=>∃t:Nat,t+q=8/\i=aC aD t/\x=aC aD ((n/256^t:Nat):Int)/\s=aL ⟨zAL ((eight n).drop (8-t))⟩/\zb w wr);case atStart=>exact⟨0,rfl,rfl,j0,by simp[eight],B0⟩
 case round=>
  obtain⟨t,p,rfl,rfl,rfl,g⟩:=hrel
  have B:=hid g
  by_cases hlt:t<8
  .have o:=hid (zCs n t hlt);have a:=hid (zEm n t hlt);have l:Hid (((n/256^(t+1):Nat):Int)=((n/256^t/256:Nat):Int)):=by{show _=_;rw[Nat.pow_succ,Nat.div_div_eq_div_mul]};have r:n/256^t<=9000000000000000000:=Az (Nat.div_le_self _ _) d;have hlen:zAH ((eight n).drop (8-t))<=8:=by{simp[eight]};generalize(eight n).drop (8-t)=L at*;generalize n/256^t=m at*;generalize mP n (8-(t+1))=b at*;have h:(m:Int)%256=(b.toNat:Int):=by have:=a.out;omega
   have c:(convert 50 9 (aK wr 1 1)).run zq (zAK wr (aJ #[aC aQ ((m:Int)%256)] 5))= .ok (aL ⟨#[b]⟩) (zAK wr (aJ #[aC aQ ((m:Int)%256)] 5)):=
    gO (P:=zq) _ 50 9 5 wr 0 1 [b] ((Qz.eR 50).trans underlying50) ((Qz.eR 5).trans underlying5) ((Qz.eR 9).trans underlying9) (λj f=>by
     obtain rfl:j=0:=by simpa using f
     rw[h];exact((bT.new wr 5 #[aC aQ (b.toNat:Int)]).cell 0).trans rfl)
   clear h a;go_wp2;go_roundg (7-t);case measure=>omega
   case rel=>
    go_light
    refine⟨t+1,bm,j9,?_,?_,B.alloc B.size _⟩
    .rw[l.out];exact j0
    .rw[o.out];have:=mU b L;exact j1
  .obtain rfl:t=8:=bm;exact X7
section
variable {w w':zW}{F:zP}{rd en k win R first:Nat}{v:zY}{Es:List Ep}{S:List (List bE)}{H:zLL}
def XO (h:cI w F rd en k win R first v Es S H)(ep:Int)(b:fH first (zAH S) ep=aG): Calls zq 45 #[aO rd,ep] w λe w'=>e=aM (aC aD 4)/\zb w w':=by have a:=vN h ep;rw[b]at a;go_enter (Qz.fn func45),ntmps45;go_wp2_with fail;refine a.mono ?_;exact X2
def TB (h:cI w F rd en k win R first v Es S H){c:Nat}(m:c<zAH S)(j:first+c<=4611686018427387904): Calls zq 45 #[aO rd,aC aD ((first:Int)+c)] w λe w'=>∃b,e=aM (aC aD 0)/\cI w' (λx=>F x\/w.heap.size<=x) rd en k win R (first+c) b (Es.drop c) (S.drop c) (H.drop c)/\dA (λx=>x=rd) w w':=by have l:=vN h ((first:Int)+c);have i:fH first (zAH S) ((first:Int)+c)=aF:=by{unfold fH;rw[Dz bm,Dz bm];rfl};rw[i]at l;have q:Hid (∀w1,zb w w1->Calls zq 69 #[aO rd,aC aD ((first:Int)+c)] w1 λe w'=>e=aM (.tuple #[])/\∃b,cI w' (λx=>F x\/w.heap.size<=x) rd en k win R (first+c) b (Es.drop c) (S.drop c) (H.drop c)/\dA (λx=>x=rd) w w'):=λw1 a=>(xA (h.below a (je _)) m j).mono λe w2 ⟨b,he,g,d⟩=>⟨he,b,g.wide λx f=>f.imp_right λh=>Az a.size h,(⟨d.os.trans a.os,d.tape.trans a.tape,d.output.trans a.output,Az a.size d.size,λx f i=>(d.block x (Ao f a.size) i).trans (a.block x f)⟩)⟩;go_enter (Qz.fn func45),ntmps45;go_wp2_with fail;refine l.mono ?_;rintro e w1 ⟨rfl,a⟩;go_wp2_with fail;refine(q w1 (hid a).out).mono ?_;rintro e w2 ⟨rfl,g⟩;have p:=hid g;go_wp2;go_ret;let⟨b,o,n⟩:=p;exact⟨b,rfl,o,n⟩
end
structure Base (w:zW):Prop where
 iJ:mG w
 jJ:iO w
 low:zq.globals.size<w.heap.size
theorem Base.below {w w':zW}{B:Nat}(h:Base w)(a:Below B w w')(b:w.heap.size<=B):Base w':= ⟨h.iJ.kept (by grind[Below.block,low]),h.jJ.below a b,Ao h.low a.size⟩
def gu {w:zW}(h:Base w)(k room t c:Nat)(g:1<=k)(f:k<=32)(n:room<=1000000)(m:cS w t k (aC aD room) (aL ⟨zAL (dg k [0])⟩) (aK c 1 1) (aC aD 0) 0)(r:w.heap[c]? =aA (aJ #[.pointer aB] 264 (0,0)))(d:zq.globals.size<t)(j:zq.globals.size<c):dH w t k room c 1 (λ_=>False) [[]]:=by have u:cJ [[]]=0:=Nat.le_zero.1 (pE (aV []) [] 0 (Cw _));refine⟨g,f,h.iJ,h.jJ,d,j,j5,bm,λx a=>a.elim,⟨_,[aB],r,je _,j7,rfl,λx a=> ?_,λi us hi=> ?_,rfl,⟨[],⟨λx=>Cw _,⟨.nil,ji,ji,λx _=>rfl,ji⟩,λx a=>a,m.c5⟩,λk o=>(by cases o),ji,λb e=>(by cases e)⟩,λi p q us v _ s=>(by cases s)⟩,λus l=> ?_,j0,j0⟩;{simp only[Bb,Bq,Bm]at a;subst a;exact⟨aB,rfl,ji⟩};{match i,hi with|0,hi=>simp at hi;subst hi;exact⟨aB,rfl,.nil 0⟩};.rw[Cy.1 l];exact⟨CP.nil,Cw _⟩
def ee (k room:Nat)(w:zW)(h:Base w)(c:1<=k)(b:k<=32)(f:room<=1000000):
  Calls zq 87 #[aC aD k,aC aD room] w λe g=>∃t i,e=aM (aO (aA ⟨t,0,aB⟩))/\dH g t k room i 1 (λ_=>False) [[]]/\w.heap.size<=t/\w.heap.size<=i/\zb w g:=by
 have H:=hid h;go_enter (Qz.fn func87),ntmps87;go_wp2_with fail;refine(Rm k w c b H.jJ).mono ?_;rintro e w1 ⟨rfl,d⟩;have B:=hid d;have H1:=hid (H.below d (je _));go_wp2_with fail;have a:∀(v:zW)(o:Obj),(zAK v o).heap.size=v.heap.size+1:=λv o=>Lq ..;have k1:Hid (bT (zAK (zAK w1 (aJ #[.pointer aB] 264)) (aJ #[k,room,dg k [0],aK w1 1 1,aC aD 0,aC aD 0] 168)) w1.heap.size 264 #[.pointer aB]):=(bT.new _ _ _).alloc _;have k2:Hid (bT (zAK (zAK w1 (aJ #[.pointer aB] 264)) (aJ #[k,room,dg k [0],aK w1 1 1,aC aD 0,aC aD 0] 168)) (w1.heap.size+1) 168 #[k,room,dg k [0],aK w1 1 1,aC aD 0,aC aD 0]):=by have:=bT.new (zAK w1 (aJ #[.pointer aB] 264)) 168 #[k,room,dg k [0],aK w1 1 1,aC aD 0,aC aD 0];rw[a]at this;exact this
 have j:Hid (zb w1 (zAK (zAK w1 (aJ #[.pointer aB] 264)) (aJ #[k,room,dg k [0],aK w1 1 1,aC aD 0,aC aD 0] 168))):=((Av _ _).alloc (je _) _).alloc (by rw[a];exact bm) _;generalize(zAK w1 (aJ #[.pointer aB] 264)).alloc (aJ #[k,room,dg k [0],aK w1 1 1,aC aD 0,aC aD 0] 168)=w2 at*;have m:=hid (aY B j B.size);have hl:=H1.low;have l:=B.size;go_ret;exact⟨w1.heap.size+1,w1.heap.size,rfl,(hid (gu (H1.below j (je _)) k room _ _ c b f k2 k1 bm hl)).out,bm,l,m⟩
def TO (k win cells:Nat)(w)(f:1<=k)(d:k<=32)(c:1<=win)(h:win<=50)(i:1<=cells)(g:cells<=100000):
  Calls zq 57 #[.agg #[aC aD 0,k,win,cells]] w λe b=>e=aM (.bool aF)/\zb w b:=by
 have l:Hid (zb w (zAK w (aJ #[aC aD 0,k,win,cells] 23))):=(Av _ _).alloc (je _) _;have a:Hid (bT (zAK w (aJ #[aC aD 0,k,win,cells] 23)) w.heap.size 23 #[aC aD 0,k,win,cells]):=bT.new _ _ _;have j:(cells:Int)<=100000:=by omega
 go_enter (Qz.fn func57),ntmps57;go_upto_region 1 with(fail)
 generalize zAK w (aJ #[aC aD 0,k,win,cells] 23)=w0 at*;have c0:=(a.cell 0).trans rfl;have c1:=(a.cell 1).trans rfl;have c2:=(a.cell 2).trans rfl;have c3:=(a.cell 3).trans rfl;go_wp2;go_ret;exact⟨by simp[j],l⟩
def UA (k win room:Nat)(w:zW)(h:Base w)(g:1<=k)(f:k<=32)(d:room<=1000000):
  Calls zq 59 #[.agg #[aC aD 0,aC aD k,aC aD win,aC aD room]] w λe j=>∃t b,e=aM (.iface 146 (aO (aA ⟨t,0,aB⟩)))/\dH j t k room b 1 (λ_=>False) [[]]/\w.heap.size<=t/\w.heap.size<=b/\zb w j:=by
 have a:Hid (zb w (zAK w (aJ #[aC aD 0,k,win,room] 23))):=(Av _ _).alloc (je _) _;have c:Hid (bT (zAK w (aJ #[aC aD 0,k,win,room] 23)) w.heap.size 23 #[aC aD 0,k,win,room]):=bT.new _ _ _;go_enter (Qz.fn func59),ntmps59;go_upto_region 1 with(fail)
 generalize zAK w (aJ #[aC aD 0,k,win,room] 23)=w0 at*;have c0:=(c.cell 0).trans rfl;have c1:=(c.cell 1).trans rfl;have c3:=(c.cell 3).trans rfl;go_wp2_with fail;refine(ee k room w0 ((hid h).out.below a (je _)) g f d).mono ?_;rintro e w1 ⟨t,b,rfl,l,h1,n,i⟩;have B:=hid (aY a i a.size);have m:=a.size;go_wp2;go_ret;exact⟨t,b,rfl,(hid l).out,bm,bm,B⟩
def aNc (k:Nat)(w)(d:iO w)(a:1<=k)(h:k<=32): Calls zq 58 #[k] w λe c=>e=aM (dg k [3])/\zb w c:=by go_enter (Qz.fn func58),ntmps58;go_wp2_with fail;refine(hid (yD k ⟨#[3]⟩ w a h j2 d)).out.mono ?_;rintro e w1 ⟨rfl,b⟩;go_wp2;go_ret;exact⟨rfl,(hid b).out⟩
def Ks {w:zW}{d k win a t room b:Nat}{h:zB}(f:dH w t k room b 1 (λ_=>False) [[]])(e:w.heap[d]? =aA (aJ #[k,win,aC aD 0,aK a 1 1,.iface 146 (aO t)] 86 (0,0)))(hh:w.heap[a]? =aA (aJ #[h] 9 (0,0)))(hl:zAH h<=32)(i:zq.globals.size<d)(g:zq.globals.size<a): cW w d k win 0 a 1 t room b 1 (λ_=>False) [[]] [h]:= ⟨f,i,g,e,rfl,ji,fG.of _ hh (je _) (je _) j7 rfl rfl (λx c=>by simp only[Bb,Bq,Bm]at c;exact⟨_,c⟩),Cw _⟩
def zDd (k win room:Nat)(w:zW)(h:Base w)(q:1<=k)(m:k<=32)(D:1<=win)(C:win<=50)(F:1<=room)(E:room<=100000):
  Calls zq 35 #[.agg #[aC aD 0,aC aD k,aC aD win,aC aD room]] w λe j=>∃d O t i,e=aM (.tuple #[aO (aA ⟨d,0,aB⟩),aC aD 0])/\cW j d k win 0 O 1 t room i 1 (λ_=>False) [[]] [dg k [3]]/\w.heap.size<=d/\w.heap.size<=O/\w.heap.size<=t/\w.heap.size<=i/\zb w j:=by
 have S:Hid (zb w (w.alloc (aJ #[aC aD 0,aC aD (k:Int),aC aD (win:Int),aC aD (room:Int)] 23))):=(Av _ _).alloc (je _) _;have A:Hid (bT (w.alloc (aJ #[aC aD 0,aC aD (k:Int),aC aD (win:Int),aC aD (room:Int)] 23)) w.heap.size 23 #[aC aD 0,aC aD (k:Int),aC aD (win:Int),aC aD (room:Int)]):=bT.new _ _ _;have sS:=h.low;go_enter (Qz.fn func35),ntmps35;go_upto_region 1 with(fail)
 generalize w.alloc (aJ #[aC aD 0,aC aD (k:Int),aC aD (win:Int),aC aD (room:Int)] 23)=w0 at*;go_wp2_with (refine Dx rfl 23 _ rfl w.heap.size rfl 23 _ (0,0) _ A.out ((Qz.eR 23).trans underlying23) rfl (by kernel_rfl) ?_);refine(TO k win room w0 q m D C F E).mono ?_;rintro e w1 ⟨rfl,x⟩;have B:=hid (aY S.out x S.out.size);have K1:=hid (A.out.below x A.out.lt);have H1:=hid ((hid h).out.below B.out (je _));have N:=B.out.size;go_upto_region 3 with(fail)
 have G:Hid (∀W,zb w1 W->W.cell? ⟨w.heap.size,0,aB⟩=aA (aC aD 0)/\W.cell? ⟨w.heap.size,1,aB⟩=aA (aC aD (k:Int))/\W.cell? ⟨w.heap.size,2,aB⟩=aA (aC aD (win:Int))/\W.cell? ⟨w.heap.size,3,aB⟩=aA (aC aD (room:Int))/\w.heap.size<W.heap.size):=λW n=>⟨((K1.out.below n K1.out.lt).cell 0).trans rfl,((K1.out.below n K1.out.lt).cell 1).trans rfl,((K1.out.below n K1.out.lt).cell 2).trans rfl,((K1.out.below n K1.out.lt).cell 3).trans rfl,(K1.out.below n K1.out.lt).lt⟩;obtain⟨c0,c1,c2,c3,c4⟩:=G.out w1 (Av _ _);have v:(dg k [3]).length<=32:=by have:=iN k [3] m;omega
 have y:=hid v;have V:Hid (∀W,zb w1 W->Calls zq 58 #[aC aD k] W λe j=>e=aM (aL ⟨(dg k [3]).toArray⟩)/\zb W j):=λW n=>aNc k W (H1.out.below n (je _)).jJ q m;have I:Hid (∀W,zb w1 W->Calls zq 59 #[.agg #[aC aD 0,aC aD k,aC aD win,aC aD room]] W λe j=>∃t i,e=aM (.iface 146 (aO (aA ⟨t,0,aB⟩)))/\dH j t k room i 1 (λ_=>False) [[]]/\W.heap.size<=t/\W.heap.size<=i/\zb W j):=λW n=>UA k win room W (H1.out.below n (je _)) q m (by omega);generalize X:dg k [3]=g at*;have Y:=hid X;clear X;clear v K1 H1;go_region_held3 (λj=>j.cell? ⟨w.heap.size,0,aB⟩=aA (aC aD 0)/\j.cell? ⟨w.heap.size,1,aB⟩=aA (aC aD (k:Int))/\j.cell? ⟨w.heap.size,2,aB⟩=aA (aC aD (win:Int))/\j.cell? ⟨w.heap.size,3,aB⟩=aA (aC aD (room:Int))) (go_keep) (first
  |(go_at_call 58;
    first
    |(refine(V.out _ (iH (Av _ w1))).mono ?_;rintro e wf ⟨rfl,l⟩;have b:Hid (zb w1 wf):=fJ l)
    |(refine(V.out _ c.out).mono ?_;rintro e wf ⟨rfl,l⟩;have b:Hid (zb w1 wf):=aY c.out l c.out.size);
    obtain⟨f0,f1,f2,f3,f4⟩:=G.out wf b.out;dsimp only)
  |(go_at_call 59;
    first
    |(refine(I.out _ (iH (Av _ w1))).mono ?_;rintro e a ⟨t,i,rfl,z,u,s,f⟩;have c:Hid (zb w1 a):=fJ f)
    |(refine(I.out _ b.out).mono ?_;rintro e a ⟨t,i,rfl,z,u,s,f⟩;have c:Hid (zb w1 a):=aY b.out f b.out.size)
    |(refine(I.out _ (b.out.alloc b.out.size _)).mono ?_;rintro e a ⟨t,i,rfl,z,u,s,f⟩;have c:Hid (zb w1 a):=aY (b.out.alloc b.out.size _) f (b.out.alloc b.out.size _).size);
    obtain⟨g0,R,Q,P,g4⟩:=G.out a c.out;have H:Hid (dH a t k room i 1 (λ_=>False) [[]]):=z;have r:=f;clear z;dsimp only))
 .have p:bT (wf.alloc (aJ #[aL ⟨g.toArray⟩] 9)) wf.heap.size 9 #[aL ⟨g.toArray⟩]:=bT.new _ _ _;have U:Hid (bT a wf.heap.size 9 #[aL ⟨g.toArray⟩]):=p.below r p.lt;have o:(wf.alloc (aJ #[aL ⟨g.toArray⟩] 9)).heap.size=wf.heap.size+1:=Lq ..;have L:Hid (zb w (a.alloc (aJ #[aC aD (k:Int),aC aD (win:Int),aC aD 0,aK (aA ⟨wf.heap.size,0,aB⟩) 1 1,.iface 146 (aO (aA ⟨t,0,aB⟩))] 86))):=(aY B.out c.out N).out.alloc (by omega) _;have K:Hid (bT (a.alloc (aJ #[aC aD (k:Int),aC aD (win:Int),aC aD 0,aK (aA ⟨wf.heap.size,0,aB⟩) 1 1,.iface 146 (aO (aA ⟨t,0,aB⟩))] 86)) a.heap.size 86 #[aC aD (k:Int),aC aD (win:Int),aC aD 0,aK (aA ⟨wf.heap.size,0,aB⟩) 1 1,.iface 146 (aO (aA ⟨t,0,aB⟩))]):=bT.new _ _ _;have J:Hid (cW (a.alloc (aJ #[aC aD (k:Int),aC aD (win:Int),aC aD 0,aK (aA ⟨wf.heap.size,0,aB⟩) 1 1,.iface 146 (aO (aA ⟨t,0,aB⟩))] 86)) a.heap.size k win 0 wf.heap.size 1 t room i 1 (λ_=>False) [[]] [g]):=Ks (H.out.below ((Av _ _).alloc (je _) _) (je _)) K.out (U.out.alloc _) y.out (by omega) (by omega);generalize a.alloc (aJ #[aC aD (k:Int),aC aD (win:Int),aC aD 0,aK (aA ⟨wf.heap.size,0,aB⟩) 1 1,.iface 146 (aO (aA ⟨t,0,aB⟩))] 86)=Z at*;clear p r f l c0 c1 c2 c3 f0 f1 f2 f3 g0 R Q P U K;go_wp2;go_ret2;exact⟨a.heap.size,wf.heap.size,t,i,rfl,by rw[Y.out];exact J.out,by omega,by omega,by omega,by omega,L.out⟩
 .have b.out.size:=b.out.size;have c.out.size:=c.out.size;have o:∀M,(a.alloc M).heap.size=a.heap.size+1:=λM=>Lq ..;have T:Hid (bT ((a.alloc (aJ #[aL ⟨g.toArray⟩] 9)).alloc (aJ #[aC aD (k:Int),aC aD (win:Int),aC aD 0,aK (aA ⟨a.heap.size,0,aB⟩) 1 1,.iface 146 (aO (aA ⟨t,0,aB⟩))] 86)) a.heap.size 9 #[aL ⟨g.toArray⟩]):=(bT.new _ _ _).alloc _;have K:Hid (bT ((a.alloc (aJ #[aL ⟨g.toArray⟩] 9)).alloc (aJ #[aC aD (k:Int),aC aD (win:Int),aC aD 0,aK (aA ⟨a.heap.size,0,aB⟩) 1 1,.iface 146 (aO (aA ⟨t,0,aB⟩))] 86)) (a.heap.size+1) 86 #[aC aD (k:Int),aC aD (win:Int),aC aD 0,aK (aA ⟨a.heap.size,0,aB⟩) 1 1,.iface 146 (aO (aA ⟨t,0,aB⟩))]):=by
   have:=bT.new (a.alloc (aJ #[aL ⟨g.toArray⟩] 9)) 86 #[aC aD (k:Int),aC aD (win:Int),aC aD 0,aK (aA ⟨a.heap.size,0,aB⟩) 1 1,.iface 146 (aO (aA ⟨t,0,aB⟩))];rw[o]at this;exact this
  have be:zb a ((a.alloc (aJ #[aL ⟨g.toArray⟩] 9)).alloc (aJ #[aC aD (k:Int),aC aD (win:Int),aC aD 0,aK (aA ⟨a.heap.size,0,aB⟩) 1 1,.iface 146 (aO (aA ⟨t,0,aB⟩))] 86)):=((Av _ _).alloc (je _) _).alloc (by rw[o];omega) _;have L:Hid (zb w ((a.alloc (aJ #[aL ⟨g.toArray⟩] 9)).alloc (aJ #[aC aD (k:Int),aC aD (win:Int),aC aD 0,aK (aA ⟨a.heap.size,0,aB⟩) 1 1,.iface 146 (aO (aA ⟨t,0,aB⟩))] 86))):=aY (aY B.out c.out N).out be (by omega);have J:Hid (cW ((a.alloc (aJ #[aL ⟨g.toArray⟩] 9)).alloc (aJ #[aC aD (k:Int),aC aD (win:Int),aC aD 0,aK (aA ⟨a.heap.size,0,aB⟩) 1 1,.iface 146 (aO (aA ⟨t,0,aB⟩))] 86)) (a.heap.size+1) k win 0 a.heap.size 1 t room i 1 (λ_=>False) [[]] [g]):=Ks (H.out.below be (je _)) K.out T.out y.out (by omega) (by omega);generalize(a.alloc (aJ #[aL ⟨g.toArray⟩] 9)).alloc (aJ #[aC aD (k:Int),aC aD (win:Int),aC aD 0,aK (aA ⟨a.heap.size,0,aB⟩) 1 1,.iface 146 (aO (aA ⟨t,0,aB⟩))] 86)=Z at*;clear r f l c0 c1 c2 c3 f0 f1 f2 f3 g0 R Q P T K be;go_wp2;go_ret2;exact⟨a.heap.size+1,a.heap.size,t,i,rfl,by rw[Y.out];exact J.out,by omega,by omega,by omega,by omega,L.out⟩
def EW (en k win room:Int):Prop:=(en<0\/1<en)\/en=0/\(k<1\/1<=k/\(32<k\/k<=32/\(win<1\/1<=win/\(50<win\/win<=50/\(room<1\/1<=room/\100000<room)))))
def Ra (en k win room:Int)(h:en≠1):EW en k win room\/en=0/\1<=k/\k<=32/\1<=win/\win<=50/\1<=room/\room<=100000:=by unfold EW;exact bm
def ZM (en k win cells:Int)(w:zW)(h:EW en k win cells):
  Calls zq 57 #[.agg #[en,k,win,cells]] w λe c=>e=aM (.bool aG)/\zb w c:=by
 have b:Hid (zb w (zAK w (aJ #[en,k,win,cells] 23))):=(Av _ _).alloc (je _) _;have a:Hid (bT (zAK w (aJ #[en,k,win,cells] 23)) w.heap.size 23 #[en,k,win,cells]):=bT.new _ _ _;go_enter (Qz.fn func57),ntmps57;go_upto_region 1 with(fail)
 generalize zAK w (aJ #[en,k,win,cells] 23)=w0 at*;have c0:=(a.cell 0).trans rfl;have c1:=(a.cell 1).trans rfl;have c2:=(a.cell 2).trans rfl;have c3:=(a.cell 3).trans rfl;obtain h|⟨rfl,h|⟨h1,h|⟨j,h|⟨i,h|⟨g,h|⟨f,h⟩⟩⟩⟩⟩⟩:=h
 .have l:¬en=0:=bm;have d:¬en=1:=bm;go_wp2;go_ret;exact⟨by simp[d],b⟩
 all_goals
  go_wp2
  go_ret
  refine⟨?_,b⟩
  first|rfl|(simp;done)|(simp;omega)|(simp[*];done)
def Qa (en k win room:Int)(w:zW)(h:EW en k win room):
  Calls zq 35 #[.agg #[en,k,win,room]] w λe c=>e=aM (.tuple #[.pointer aB,aC aD 1])/\zb w c:=by
 have b:Hid (zb w (zAK w (aJ #[en,k,win,room] 23))):=(Av _ _).alloc (je _) _;have d:Hid (bT (zAK w (aJ #[en,k,win,room] 23)) w.heap.size 23 #[en,k,win,room]):=bT.new _ _ _;go_enter (Qz.fn func35),ntmps35;go_upto_region 1 with(fail)
 generalize zAK w (aJ #[en,k,win,room] 23)=w0 at*;go_wp2_with (refine Dx rfl 23 _ rfl w rfl 23 _ (0,0) _ d ((Qz.eR 23).trans underlying23) rfl c9 ?_);refine(ZM en k win room w0 (hid h).out).mono ?_;rintro e w1 ⟨rfl,a⟩;go_wp2;go_ret2;exact⟨rfl,(hid (aY b a b.size)).out⟩
def aMr (en k win cells:Int)(w:zW)(h:EW en k win cells):
  Calls zq 43 #[.agg #[en,k,win,cells]] w λe c=>e=aM (.tuple #[.pointer aB,aC aD 1])/\zb w c:=by
 have b:Hid (zb w (zAK w (aJ #[en,k,win,cells] 23))):=(Av _ _).alloc (je _) _;have a:Hid (bT (zAK w (aJ #[en,k,win,cells] 23)) w.heap.size 23 #[en,k,win,cells]):=bT.new _ _ _;go_enter (Qz.fn func43),ntmps43;go_upto_region 1 with(fail)
 generalize zAK w (aJ #[en,k,win,cells] 23)=w0 at*;have c0:=(a.cell 0).trans rfl;have c1:=(a.cell 1).trans rfl;have c2:=(a.cell 2).trans rfl;have c3:=(a.cell 3).trans rfl;obtain(h|h)|⟨rfl,h|⟨h1,h|⟨i,h|⟨g,h|⟨f,h|⟨d,h⟩⟩⟩⟩⟩⟩:=h
 .go_wp2;go_ret2;exact⟨rfl,b⟩
 .have j:¬en<0:=bm;go_wp2;go_ret2;exact⟨rfl,b⟩
 all_goals
  go_wp2
  go_ret2
  exact⟨rfl,b⟩
def db {w:zW}{d k win room:Nat}{h r:zB}{g:Nat}(e:1<=k)(c:k<=32)(s:room<=100000)(j:r=dg k [0])(m:w.heap[d]? =aA (aJ #[aC aD 0,k,win,room,aK g 1 1,aC aD 0] 126 (0,0)))(l:w.heap[g]? =aA (aJ #[aK aB 0 0,r,h] 102 (0,0)))(hh:zAH h<=32){F:zP}(p:F d)(o:F g): cI w F d 0 k win room 0 (aK g 1 1) [(aK aB 0 0,r,h)] [[]] [h]:=by refine⟨e,c,bm,m,⟨rfl,aI ⟨g,1,_,rfl,Cw _,l,je _,j7,rfl,rfl⟩⟩,j0,j0,rfl,rfl,λx b=>by rw[Cy.1 b];exact hh,λi us hi=> ?_,λus f=> ?_,⟨p,λx b=> ?_⟩,Cw _⟩;{match i,hi with|0,hi=>simp at hi;subst hi;exact⟨aB,0,h,rfl,by rw[j];rfl,λq=>absurd q j0,λa n=>by cases n⟩};{rw[Cy.1 f];exact⟨CP.nil,Cw _⟩};.cases b;exact o
def zBh (k win room:Nat)(w:zW)(i:1<=k)(c:k<=32)(G:1<=win)(F:win<=50)(J:1<=room)(n:room<=100000):
  Calls zq 43 #[.agg #[aC aD 0,aC aD k,aC aD win,aC aD room]] w λe a=>∃rd v O,e=aM (.tuple #[aO (aA ⟨rd,0,aB⟩),aC aD 0])/\cI a (λx=>w.heap.size<=x) rd 0 k win room 0 v O [[]] [dg k [3]]/\zb w a:=by
 have r:Hid (zb w (zAK w (aJ #[aC aD 0,k,win,room] 23))):=(Av _ _).alloc (je _) _;have b:Hid (bT (zAK w (aJ #[aC aD 0,k,win,room] 23)) w.heap.size 23 #[aC aD 0,k,win,room]):=bT.new _ _ _;have L:zAH (dg k [3])<=32:=by have:=iN k [3] c;omega
 have H:Hid (∀W,zb w W->cI (zAK (zAK W (aJ #[aK aB 0 0,dg k [0],dg k [3]] 102)) (aJ #[aC aD 0,k,win,room,aK W 1 1,aC aD 0] 126)) (λx=>w.heap.size<=x) (W.heap.size+1) 0 k win room 0 (aK W 1 1) [(aK aB 0 0,dg k [0],dg k [3])] [[]] [dg k [3]]/\zb w (zAK (zAK W (aJ #[aK aB 0 0,dg k [0],dg k [3]] 102)) (aJ #[aC aD 0,k,win,room,aK W 1 1,aC aD 0] 126))):=λW f=>by have p:=f.size;have q:(zAK W (aJ #[aK aB 0 0,dg k [0],dg k [3]] 102)).heap.size=W.heap.size+1:=Lq ..;have kd:=bT.new (zAK W (aJ #[aK aB 0 0,dg k [0],dg k [3]] 102)) 126 #[aC aD 0,k,win,room,aK W 1 1,aC aD 0];rw[q]at kd;exact⟨db i c n rfl kd ((bT.new W 102 _).alloc _) L bm p,(f.alloc p _).alloc (by rw[q];exact bm) _⟩
 have t:Hid (∀W,Calls zq 66 #[k,aL ⟨#[0]⟩] W λe a=>e=aM (dg k [0])/\zb W a):=λW=>oI k [0] W i c j0;have s:Hid (∀W,Calls zq 66 #[k,aL ⟨#[3]⟩] W λe a=>e=aM (dg k [3])/\zb W a):=λW=>oI k [3] W i c j0;generalize H0:dg k [0]=d0 at*;generalize Q:dg k [3]=d3 at*;go_enter (Qz.fn func43),ntmps43;go_upto_region 1 with(fail)
 generalize zAK w (aJ #[aC aD 0,k,win,room] 23)=w0 at*;have o:Hid (∀W,zb w0 W->W.heap[w.heap.size]? =aA (aJ #[aC aD 0,k,win,room] 23 (0,0))/\W.cell? w=aA (aC aD 0)/\W.cell? (w,1)=aA (k:zY)/\W.cell? (w,2)=aA (win:zY)/\W.cell? (w,3)=aA (room:zY)):=λW f=>⟨b.below f b.lt,((b.below f b.lt).cell 0).trans rfl,((b.below f b.lt).cell 1).trans rfl,((b.below f b.lt).cell 2).trans rfl,((b.below f b.lt).cell 3).trans rfl⟩;let⟨kb,c0,c1,c2,c3⟩:=o w0 (Av _ _);go_upto_region 3 with(fail)
 go_region_held3 (λa=>a.cell? w=aA (aC aD 0)/\a.cell? (w,1)=aA (k:zY)/\a.cell? (w,2)=aA (win:zY)/\a.cell? (w,3)=aA (room:zY)) (go_keep) (first
  |(go_at_call_of 66 (Value.string {data:= #[0]});
    first
    |(refine(t _).mono ?_;rintro e m ⟨rfl,l⟩;have d:Hid (zb w0 m):=fJ l)
    |(refine(t _).mono ?_;rintro e m ⟨rfl,l⟩;have d:Hid (zb w0 m):=aY h l h.size);
    let⟨ka,E,D,C,B⟩:=o m d;dsimp only)
  |(go_at_call_of 66 (Value.string {data:= #[3]});
    first
    |(refine(s _).mono ?_;rintro e g ⟨rfl,j⟩;have h:Hid (zb w0 g):=fJ j)
    |(refine(s _).mono ?_;rintro e g ⟨rfl,j⟩;have h:Hid (zb w0 g):=aY d j d.size);
    let⟨kc,A,z,y,u⟩:=o g h;dsimp only))
 let⟨I,K⟩:=H g (aY r h r.size).out;generalize(zAK g (aJ #[aK aB 0 0,d0,d3] 102)).alloc (aJ #[aC aD 0,k,win,room,aK g 1 1,aC aD 0] 126)=P at*;have M:=hid I;have N:=hid K;go_wp2;go_ret2;exact⟨_,_,_,rfl,M,N⟩
def Wh (k ep:Nat)(h r:zB)(w:zW)(o:iO w)(f:1<=k)(c:k<=32)(hh:zAH h<=32)(u:zAH r<=32)(j:ep<=4611686018427389000): Calls zq 40 #[k,h,ep,r] w λe w'=>e=aM (dg k (3::(h++eight ep++r)))/\zb w w':=by have p:Hid (∀W (m:ByteArray),m.size<=1000->iO W->Calls zq 53 #[k,aL m] W λe w'=>e=aM (dg k (zAM m.data))/\zb W w'):=λW m v n=>yD k m W f c bm n;have l:zAH (eight ep)=8:=by{simp[eight]};go_enter (Qz.fn func40),ntmps40;go_wp2_with fail;refine(uV ep w).mono ?_;rintro e w1 ⟨rfl,g⟩;have B:=hid g;generalize q:eight ep=E at*;have i:=hid q;go_wp2_with fail;refine(p w1 _ ?_ ((hid o).out.below B (je _))).mono ?_;{simp only[ByteArray.size_append];show 1+h.toArray.size+E.toArray.size+r.toArray.size<=1000;simp only[Dq];exact bm};rintro e w2 ⟨rfl,a⟩;have s:=hid (aY B a B.size);clear a;dsimp only;go_wp2;go_ret;exact⟨by rw[i.out];congr 5,s⟩
def jA (d hb t b:Nat)(C:zP):zP:=λx=>x=d\/x=hb\/kV t b C x
def dA.four {w w1 w':zW}{d hb c t b g:Nat}{C i:zP}(h:dA (jA d hb t b C) w w1)(j:dA (jA d c t g i) w1 w')(f:c=hb\/w.heap.size<=c)(e:g=b\/w.heap.size<=g)(l:∀x,i x->x<w.heap.size->C x):dA (jA d hb t b C) w w':=h.then j λx a hlt=>by obtain a|a|a|a|a:=a;{exact aH a};{obtain f|f:=f;{exact aI bm};.exact bm};{exact aI (aI (aH a))};{obtain e|e:=e;{exact aI (aI (aI bm))};.exact bm};.exact aI (aI (aI ji))
section
variable {w w':zW}{d k win first hb dN t R b cap:Nat}{C:zP}{S:List (List bE)}{H:zLL}
def Ee {x y:Nat}{cs cs' a ty c f}(g:w.heap[x]? =aA (aJ cs a c))(e:w.heap[y]? =aA (aJ cs' ty f))(h:a≠ty):x≠y:=ji
def cW.ne (h:cW w d k win first hb dN t R b cap C S H):d≠hb/\d≠t/\d≠b/\hb≠t/\hb≠b:=by let⟨a,c1⟩:=h.rW.bat;let⟨ct,t1⟩:=h.rW.tat;let⟨c,e,_⟩:=fG.row h.eU;exact⟨Ee h.at' e j2,Ee h.at' t1 j2,Ee h.at' c1 j2,ji,ji⟩
def cW.two (h:cW w d k win first hb dN t R b cap C S H):¬kV t b C d/\¬kV t b C hb:=by let⟨i,f,n3,e,n⟩:=h.ne;let⟨c,g,_⟩:=fG.row h.eU;refine⟨λa=> ?_,λa=> ?_⟩;{obtain a|a|a:=a;{exact f a};{exact n3 a};.exact(h.rW.cs.cell a).ne h.at' j2 rfl};.obtain a|a|a:=a;{exact e a};{exact n a};.exact(h.rW.cs.cell a).ne g j2 rfl
def cW.hlt (h:cW w d k win first hb dN t R b cap C S H):hb<w.heap.size:=by let⟨c,e,_⟩:=fG.row h.eU;exact ji
def xG {c:Nat}(h:cW w d k win first hb dN t R b cap C S H)(F:c<zAH S): Calls zq 41 #[aO d,c] w λe w'=>e=aM (.tuple #[])/\(first+c<=4611686018427387904->cW w' d k win (first+c) hb dN t R b cap C (S.drop c) (H.drop c))/\dA (jA d hb t b C) w w':=by let⟨y,M,n3,L,K⟩:=h.ne;have N:∀W,(method (zq.types.size+100) 146 (aO t) "Forget").run zq W= .ok (214,aO t) W:=λW=>reaches c9 _ W;have J:=h.cell 4;have a:=hid h;have hlen:=h.rW.len;have P:=h.f1;go_enter (Qz.fn func41),ntmps41;go_wp2_with fail;refine(zEp h.rW F).mono ?_;rintro e w1 ⟨rfl,v,l⟩;have E:=hid v;have V:=hid l;have D1:Hid (bT w1 d 86 #[k,win,first,aK hb S.length dN,.iface 146 (aO t)]):=(l.block d a.lt a.two.1).trans a.at';have u:=a.eU;have O:Hid (fG OL w1 hb 9 1 (aK hb S.length dN) S.length (gG H)):=u.kept λg q=>by{have e:=Ay q;subst e;exact l.block hb a.hlt a.two.2};dsimp only;have D:w1.cell? (d,3)=aA (aK hb (zAH S) dN):=(D1.cell 3).trans rfl;have B:=Xz (S:=OL) (λx i=>by obtain⟨s,rfl⟩:=i;rfl) (λx i=>by simp[Value.cells]at i;exact⟨_,i⟩) hb hb (zAH S) dN c (gG H) w1 O bm bm;go_wp2_with fail;refine B.mono ?_;clear B;rintro e w2 ⟨rfl,m,f⟩;have D2:Hid (bT w2 d 86 #[k,win,first,aK hb (zAH S) dN,.iface 146 (aO t)]):=D1.grown f (λe=>by injection e with e;exact y e);let⟨z,p,_⟩:=fG.row O;have I:Hid (dH w2 t k R b cap C (S.drop c)):=E.other f p j2 a.sS;have G:Hid (dA (jA d hb t b C) w w2):=(V.mono λx i=>aI (aI i)).trans (dA.grown f (aI (aH rfl)));have A:Hid (fG OL w2 hb 9 1 (aK hb (zAH S-c) dN) (zAH S-c) (gG (H.drop c))):=by{have e:List.drop c (gG H)=gG (H.drop c):=by{simp[gG]};rw[e]at m;exact m};have p3:w2.cell? (d,3)=aA (aK hb (zAH S) dN):=(D2.cell 3).trans rfl;have p2:w2.cell? (d,2)=aA (first:zY):=(D2.cell 2).trans rfl;have f3:=D2.frozen 3;have f2:=D2.frozen 2;clear m f p D E V O D1;dsimp only;go_wp2_with fail;go_end0;have n:zAJ (zAJ w2 (d,3) (aK hb (zAH S-c) dN)) (d,2) (aC aD ((first:Int)+c))=w2.setRow d (#[k,win,aC aD ((first:Int)+c),aK hb (zAH S-c) dN,.iface 146 (aO t)]:zA):=by{rw[setCell_eq_setRow w2 d 3 _ _ (0,0) _ D2.out,setCell_eq_setRow _ d 2 _ _ (0,0) _ (D2.out.gH _),setRow_setRow];rfl};have j:=lW w2 d (#[k,win,aC aD ((first:Int)+c),aK hb (zAH S-c) dN,.iface 146 (aO t)]:zA);have o:=D2.gH (#[k,win,aC aD ((first:Int)+c),aK hb (zAH S-c) dN,.iface 146 (aO t)]:zA);rw[n];refine⟨rfl,λr=>⟨I.other j D2 j2 a.Pz,a.Pz,a.sS,by rw[GL];exact o,by rw[GL,GL,a.out.hlen],λx i=>a.tU x (List.mem_of_mem_drop i),?_,r⟩,G.out.trans (dA.grown j (aH rfl))⟩;rw[GL];exact A.kept λg q=>by have e:hb=g:=Ay q;subst e;exact j.block hb ((fG.lt A hb rfl).2) (λe=>by injection e with e;exact y e.symm)
end
end Go.Proofs.Zq
