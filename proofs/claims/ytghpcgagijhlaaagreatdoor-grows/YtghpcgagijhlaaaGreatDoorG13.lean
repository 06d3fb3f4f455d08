import Derived.Laws.Rows
import Derived.ArgAppend
import Derived.Test.YtghpcgagijhlaaaGreatDoorG12
set_option linter.all false
set_option maxRecDepth 100000
set_option maxHeartbeats 16000000
open Option renaming some->aA,none->aB
open Bool renaming true->aF,false->aG
open Or renaming inl->aH,inr->aI
open Go.Ending renaming returned->aM
open Go.Obj renaming cells->aJ
open Go.IntKind renaming i64->aD,u8->aQ
open Go.Value renaming slice->aK,string->aL,pointer->aO,int->aC
open Go.RowKit.Below renaming heap_setCell->Eg,cell->KE
open Nat renaming min_eq_left->Nx,lt_trans->aNA,le_of_lt->aNB
open Go.Proofs.Tryz
open List renaming length->zAH,toArray->zAL
open Array renaming setIfInBounds->zAI,toList->zAM
open Go.World renaming setCell->zAJ,alloc->zAK
section
variable {P:Prop}
def G5(h:P:=by dsimp only;go_wp2;go_ret;exact .of ⟨j0,(b.out _ N.out).1⟩):=h
def I1(h:P:=by go_light;exact⟨s+1,bm,j9,j0,B7.out.trans ⟨f.os,f.tape,f.output,f.size,λk hk hn=>f.block k hk λe=>hn (Ay e)⟩,by rw[<-M.out];exact ho⟩):=h
def J1(h:P:=by rw[Ay (ha.symm.trans e)]):=h
def K7(h:P:=by unfold uZ tL qI xI;exact ji):=h
def X1(h:P:=by rw[Ml _ _ (Dm▸(je _)),Dm,Gj,Nf h,Fs,Mk,Df];rfl):=h
def u9(h:P:=by unfold jC;exact ji):=h
end
namespace Go.Proofs.Zq
open Go Go.RowKit Sha Go.Ga Go.Ren
structure eJ (P:zP)(own own':Nat->Nat)(w w':zW):Prop where
 save:dA (λx=>P (own x)) w w'
 own:∀x,x<w.heap.size->own' x=own x
def gT (own:Nat->Nat)(n i:Nat):Nat->Nat:=λx=>if x<n then own x else i
def dK {own:Nat->Nat}{n i x:Nat}(h:x<n):gT own n i x=own x:=AE h
def jN {own:Nat->Nat}{n i x:Nat}(h:n<=x):gT own n i x=i:=AF (Nat.not_lt.2 h)
def sD (own:Nat->Nat):Prop:=∀x,x<=zq.globals.size->own x=0
section
variable {w w' w1:zW}{own own' own1:Nat->Nat}{P Q F G:zP}{d k win first hb dN t R b cap rd i:Nat}{C:zP}{v:zY}{Es:List Ep}{S:List (List bE)}{H:zLL}
def eJ.trans (h:eJ P own own1 w w1)(c:eJ P own1 own' w1 w'):eJ P own own' w w':= ⟨h.save.then c.save (by grind[own]),λx a=>(c.own x (Ao a h.save.size)).trans (h.own x a)⟩
def eJ.mono (h:eJ P own own' w w')(a:∀i,P i->Q i):eJ Q own own' w w':=⟨h.save.mono ji,h.own⟩
theorem eJ.below (h:zb w w'):eJ P own own w w':=⟨.of h (je _),λ_ _=>rfl⟩
def eJ.to (h:dA F w w')(hF:∀x,F x->x<w.heap.size->own x=i):eJ (λj=>j=i) own (gT own w i) w w':= ⟨⟨h.os,h.tape,h.output,h.size,λx a c=>h.block x a ji⟩,λ_ a=>dK a⟩
def eJ.block (h:eJ P own own' w w'){x:Nat}(a:x<w.heap.size)(c:¬P (own x)):w'.heap[x]? =w.heap[x]? :=h.save.block x a c
def sD.eD (h:sD own)(c:eJ P own own' w w')(e:zq.globals.size<w.heap.size):sD own':=λx a=>(c.own x bm).trans (h x a)
theorem cW.kept (h:cW w d k win first hb dN t R b cap C S H)(hs:w.heap.size<=w'.heap.size)(hk:∀x,x<=zq.globals.size\/jA d hb t b C x->w'.heap[x]? =w.heap[x]?):cW w' d k win first hb dN t R b cap C S H:= ⟨h.rW.kept hs λx a=>hk x (a.imp id λh=>aI (aI h)),h.Pz,h.sS,by rw[hk d (aI (aH rfl))];exact h.at',h.hlen,h.tU,h.eU.kept λg c=>by have e:hb=g:=Ay c;subst e;exact hk hb (aI (aI (aH rfl))),h.f1⟩
theorem cW.inside (h:cW w d k win first hb dN t R b cap C S H){x:Nat}(a:jA d hb t b C x):x<w.heap.size:=by obtain rfl|rfl|rfl|rfl|a:=a;{exact h.lt};{exact h.hlt};{exact h.rW.jg};{exact h.rW.blt};.exact(h.rW.cs.cell a).lt
def nP (w:zW)(own:Nat->Nat)(i d k win first R:Nat)(S:List (List bE))(H:zLL):Prop:=∃hb dN t b cap C,cW w d k win first hb dN t R b cap C S H/\∀x,jA d hb t b C x->own x=i
theorem nP.kept (h:nP w own i d k win first R S H)(hs:w.heap.size<=w'.heap.size)(hk:∀x,x<w.heap.size->x<=zq.globals.size\/own x=i->w'.heap[x]? =w.heap[x]?)(e:∀x,x<w.heap.size->own' x=own x):nP w' own' i d k win first R S H:=by let⟨hb,dN,t,b,cap,C,c,f⟩:=h;refine⟨hb,dN,t,b,cap,C,c.kept hs λx a=> ?_,λx a=>(e x (c.inside a)).trans (f x a)⟩;obtain a|a:=a;{exact hk x (by have:=c.rW.GJ;have:=c.rW.jg;exact bm) (aH a)};grind[cW.inside]
def nP.eD (h:nP w own i d k win first R S H)(c:eJ P own own' w w')(g:sD own)(e:¬P 0)(j:¬P i):nP w' own' i d k win first R S H:=by refine h.kept c.save.size (λx f a=>c.block f ?_) c.own;obtain a|a:=a;{rw[g x a];exact e};exact ji
def cI.clip {en:Nat}(h:cI w F rd en k win R first v Es S H)(j:∀x,F x->x<w.heap.size->G x):cI w (λx=>x<w.heap.size/\G x) rd en k win R first v Es S H:= ⟨h.k1,h.k2,h.r2,h.at',h.own,h.one,h.len,h.EC,h.hlen,h.tU,λi us hi=>by let⟨m,c,x,q,p,l,s⟩:=h.ep i us hi;refine⟨m,c,x,q,p,l,λa r n=> ?_⟩;let⟨g,o,e,f,_⟩:=l n;exact ji,h.st,⟨⟨h.lt,j _ h.wL.1 h.lt⟩,λg f=>⟨(World.ownsRow.lt h.own g f).2,j _ (h.wL.2 g f) (World.ownsRow.lt h.own g f).2⟩⟩,h.f1⟩
def pO (w:zW)(own:Nat->Nat)(i rd k win first R:Nat)(S:List (List bE))(H:zLL):Prop:=∃v Es,cI w (λx=>x<w.heap.size/\own x=i) rd 0 k win R first v Es S H
theorem pO.kept (h:pO w own i rd k win first R S H)(hs:w.heap.size<=w'.heap.size)(hk:∀x,x<w.heap.size->own x=i->w'.heap[x]? =w.heap[x]?)(a:∀x,x<w.heap.size->own' x=own x):pO w' own' i rd k win first R S H:=by let⟨v,Es,h⟩:=h;exact⟨v,Es,(h.kept hs ji).clip ji⟩
def pO.eD (h:pO w own i rd k win first R S H)(a:eJ P own own' w w')(f:¬P i):pO w' own' i rd k win first R S H:=by exact h.kept a.save.size (λx e c=>a.block e (c▸f)) a.own
def bT.eD {x:Nat}{ty:zD}{cs:zA}(h:bT w x ty cs)(c:eJ P own own' w w')(a:¬P (own x)):bT w' x ty cs:=(c.block h.lt a).trans h
def bN.eD {va:zO}{us:List bE}(h:bN w va us)(c:eJ P own own' w w')(f:∀a,va=aA a->0<zAH us->¬P (own a.block)):bN w' va us:=h.kept c.save.size λg o e j l=>c.block j (f _ e l.2)
end
def jC (R:Nat)(S:List (List bE))(us:List bE):Nat:=if us.all nI=aG then 5 else if 200<zAH us\/2000<zAH (bC (fK S) us) then 6 else if R<cJ S+dZ (aV (bC (fK S) us)) (aV (fK S)) 0 then 7 else 0
def Kc (k first:Nat)(S:List (List bE))(H:zLL)(us:List bE):zB:=dg k (3::((H[zAH S-1]?).getD []++eight (first+zAH S)++cR k (aV (bC (fK S) us)) 0))
def qI (win R:Nat)(S:List (List bE))(us:List bE):List (List bE):=if jC R S us=0 then(if win<zAH S+1 then(S++[bC (fK S) us]).drop 1 else S++[bC (fK S) us])else S
def xI (k win first R:Nat)(S:List (List bE))(H:zLL)(us:List bE):zLL:=if jC R S us=0 then(if win<zAH S+1 then(H++[Kc k first S H us]).drop 1 else H++[Kc k first S H us])else H
def tL (win first R:Nat)(S:List (List bE))(us:List bE):Nat:=if jC R S us=0 then(if win<zAH S+1 then first+1 else first)else first
def uZ (first R:Nat)(S:List (List bE))(us:List bE):Int:=if jC R S us=0 then(first:Int)+S.length else 0
def Rf {win R:Nat}{S:List (List bE)}{us:List bE}(h:zAH S<=win):zAH (qI win R S us)<=win:=by unfold qI;exact ji
def Yp {win first R:Nat}{S:List (List bE)}{us:List bE}:tL win first R S us+zAH (qI win R S us)<=first+zAH S+1:=by unfold tL qI;exact ji
def QN {S:List (List bE)}(h:0<zAH S):∃S0,S=S0++[fK S]/\S[zAH S-1]? =aA (fK S):=by obtain⟨S0,x,rfl⟩:∃S0 x,S=S0++[x]:=⟨S.dropLast,S.getLast ji,(List.dropLast_concat_getLast _).symm⟩;have e:fK (S0++[x])=x:=by{unfold fK;simp};exact ji
section
variable {w w':zW}{own:Nat->Nat}{i d rd k win first R:Nat}{S:List (List bE)}{H:zLL}
def QB {us:List bE}{a:zB}(h:vE k first (zAH S) (bC (fK S) us) H a):a=Kc k first S H us:=by let⟨b,c,e⟩:=h;rw[e];unfold Kc;exact ji
def aNd (h:nP w own i d k win first R S H)(v:zY)(us:List bE)(Q:tE w v us)(A:zAH us<=4611686018427387904)(z:∀u∈us,zAH u.idx<=4611686018427387904/\zAH u.val<=4611686018427387904)(hl:zAH S<1000)(D:first+2<=4611686018427387904)(g:1<=win)(l:win<=1000): Calls zq 19 #[aO d,v] w (RF λx w'=>x= .tuple #[aC aD (uZ first R S us),aC aD (jC R S us:Nat)]/\nP w' (gT own w i) i d k win (tL win first R S us) R (qI win R S us) (xI k win first R S H us)/\eJ (λj=>j=i) own (gT own w i) w w'):=by let⟨L,c,t,b,cap,C,n,r⟩:=h;let⟨S0,I,B⟩:=QN n.rW.one;have m:=n.rW.st (fK S) ji;have K:=Re S0 (fK S) us v (I▸n) Q A z (I▸hl) D g l;rw[<-I]at K;refine K.mono λe w' O=>O.imp (λ⟨x,P,p⟩=>⟨x,P,?_⟩) id;have same:∀{W:zW},zb w W->nP W (gT own w i) i d k win first R S H/\eJ (λj=>j=i) own (gT own w i) w W:=λq=>⟨⟨L,c,t,b,cap,C,n.below q (je _),λy a=>(dK (n.inside a)).trans (r y a)⟩,eJ.to (F:=λ_=>False) (.of q (je _)) ji⟩;obtain⟨s,rfl,q⟩|⟨s,a2,rfl,q⟩|⟨s,a2,a3,N,U,G,p⟩:=p;{have e:jC R S us=5:=u9;exact K7};{rw[uL m.1 s]at a2;have e:jC R S us=6:=u9;exact K7};.rw[uL m.1 s]at a3 p;have M:=eJ.to G λy a _=>r y a;obtain⟨a4,rfl,J⟩|⟨a4,rfl,E,f,X,o,HX,T,J,Z,Y⟩:=p;{have e:jC R S us=7:=u9;unfold uZ tL qI xI;simp only[e];refine⟨rfl,⟨L,c,t,b,cap,N,J,λy a=> ?_⟩,M⟩;by_cases hlt:y<w.heap.size;{rw[dK hlt];exact r y (by obtain a|a|a|a|a:=a;{exact aH a};{exact aI (aH a)};{exact aI (aI (aH a))};{exact aI (aI (aI (aH a)))};{exact aI (aI (aI (by grind)))})};.exact jN bm};.have e:jC R S us=0:=u9;have V:=QB T;subst V;unfold uZ tL qI xI;simp only[e,Cx];refine⟨rfl,⟨E,f,t,X,o,N,J,λy a=> ?_⟩,M⟩;by_cases hlt:y<w.heap.size;{rw[dK hlt];exact r y (by obtain a|a|a|a|a:=a;{exact aH a};{exact aI bm};{exact aI (aI (aH a))};{exact aI (aI (aI bm))};{exact aI (aI (aI (by grind)))})};.exact jN bm
def XS (h:pO w own i rd k win first R S H)(us:List bE)(va:zO)(vc:Nat)(t:bN w va us)(m:zAH us<=4611686018427387904)(l:∀u∈us,zAH u.idx<=4611686018427387904/\zAH u.val<=4611686018427387904)(hl:zAH S<1000)(n:first+2<=4611686018427387904)(c:1<=win)(f:win<=1000)(o:cJ S<=1000000): Calls zq 67 #[aO rd,aK va (zAH us) vc] w λe w'=>e=aM (.tuple #[aC aD (uZ first R S us),aC aD (jC R S us:Nat)])/\pO w' (gT own w i) i rd k win (tL win first R S us) R (qI win R S us) (xI k win first R S H us)/\eJ (λj=>j=i) own (gT own w i) w w':=by let⟨v,C,h⟩:=h;let⟨S0,D,b⟩:=QN h.one;refine(TE h (fK S) us b va vc t m l hl n c f o).mono λe w' ⟨x,he,s⟩=> ?_;subst he;have same:∀{W:zW},zb w W->pO W (gT own w i) i rd k win first R S H/\eJ (λj=>j=i) own (gT own w i) w W:=λg=>⟨⟨v,C,(h.below g (je _)).clip λy a _=>(dK a.1).trans a.2⟩,eJ.to (F:=λ_=>False) (.of g (je _)) ji⟩;obtain⟨q,rfl,g⟩|⟨q,a2,rfl,g⟩|⟨q,a2,a3,a4,rfl,g⟩|⟨q,a2,a3,a4,rfl,p,r,E,G,A,z⟩:=s;{have e:jC R S us=5:=u9;exact K7};{have e:jC R S us=6:=u9;exact K7};{have e:jC R S us=7:=u9;exact K7};.have e:jC R S us=0:=u9;have B:=QB A;subst B;unfold uZ tL qI xI;simp only[e,Cx];refine⟨rfl,⟨r,E,z.clip λy a _=> ?_⟩,eJ.to p λy a hlt=> ?_⟩;{obtain a|a:=a;{exact(dK a.1).trans a.2};.exact jN a};.obtain rfl|a:=a;{exact h.wL.1.2};.exact(h.wL.2 y a).2
def NV (first:Nat)(S:List (List bE))(ep:Int):Nat:=if fH first (zAH S) ep=aF then(ep-first).toNat else 0
def AU (first:Nat)(S:List (List bE))(ep:Int):Int:=if fH first (zAH S) ep=aF then 0 else 4
def BL {n:Nat}{ep:Int}(h:fH first n ep=aF):∃c,c<n/\ep=(first:Int)+c:=by unfold fH at h;simp only[De,Ev]at h;exact⟨(ep-first).toNat,bm,bm⟩
def BM {n:Nat}{ep:Int}(h:fH first n ep=aG):¬((first:Int)<=ep/\ep<=(first:Int)+n-1):=λhh=>by unfold fH at h;exact ji
def zAg (h:nP w own i d k win first R S H)(ep:Int)(u:first+zAH S<=4611686018427387904): Calls zq 25 #[aO d,ep] w λe w'=>e=aM (aC aD (AU first S ep))/\∃o,nP w' o i d k win (first+NV first S ep) R (S.drop (NV first S ep)) (H.drop (NV first S ep))/\eJ (λj=>j=i) own o w w':=by let⟨g,a,t,b,cap,C,f,s⟩:=h;have m:∀{x},jA d g t b C x->gT own w i x=i:=λl=>(dK (f.inside l)).trans (s _ l);unfold AU NV;cases hk:fH first (zAH S) ep with|false=>refine(XX f (BM hk)).mono λe w' ⟨he,n⟩=> ?_;exact⟨he,_,⟨g,a,t,b,cap,C,f.below n (je _),j5⟩,eJ.to (F:=λ_=>False) (.of n (je _)) ji⟩|true=>obtain⟨c,p,rfl⟩:=BL hk;have e:((first:Int)+c-first).toNat=c:=bm;rw[AE rfl,AE rfl,e];exact(UB f p bm).mono λe w' ⟨he,r,q⟩=>⟨he,_,⟨g,a,t,b,cap,C,r,j5⟩,eJ.to q ji⟩
def XN (h:pO w own i rd k win first R S H)(ep:Int)(n:first+zAH S<=4611686018427387904): Calls zq 45 #[aO rd,ep] w λe w'=>e=aM (aC aD (AU first S ep))/\∃o,pO w' o i rd k win (first+NV first S ep) R (S.drop (NV first S ep)) (H.drop (NV first S ep))/\eJ (λj=>j=i) own o w w':=by let⟨v,E,h⟩:=h;unfold AU NV;cases hk:fH first (zAH S) ep with|false=>refine(XO h ep hk).mono λe w' ⟨he,b⟩=> ?_;exact⟨he,_,⟨v,E,(h.below b (je _)).clip λy a _=>(dK a.1).trans a.2⟩,eJ.to (F:=λ_=>False) (.of b (je _)) ji⟩|true=>obtain⟨c,g,rfl⟩:=BL hk;have e:((first:Int)+c-first).toNat=c:=bm;rw[AE rfl,AE rfl,e];refine(TB h g bm).mono λe w' ⟨f,he,m,l⟩=>⟨he,_,⟨f,_,m.clip λy a _=> ?_⟩,eJ.to l λy a _=>by subst a;exact h.wL.1.2⟩;obtain a|a:=a;{exact(dK a.1).trans a.2};{exact jN a}
end
open Go Go.RowKit
section
variable {P:zZ}
def run_storeVar_mid (w)(g o)(t ty)(cur cells)(d:w.heap[g]? =aA (aJ cur t (0,0)))(hi:(P.info? ty).map (·.size)=aA cells.size) (c:o+cells.size<=cur.size) (e:∀v∈cells.toList,v.oneCell'=aF): (storeVar ty (g,o) (.agg cells)).run P w= .ok () (w.setRow g (zAL (over (zAM cur) o (zAM cells)))):=by have:=run_storeCells_at P g o t (zAM cells) 0 cur w d (by simpa using c) e;simp only[Eo]at this;cases b:P.info? ty with|none=>grind|some i=>have h:cells.size=i.size:=ji;simp[storeVar,sizeOf,typeInfo,b,Value.cells,h,this,over]
variable {ops:zQ}{rest:List Oper}{o:Oper}{a:Act}{w:zW}{K:Act->zW->Prop}{Q:zX}{E:Prop}
def wpList_store_mid (c:o.guard=aB)(ty:zD)(x y:Operand)(f:o.op= .store ty x y)(g p:Nat)(cells:zA)(e:a.eval x=aO (g,p))(d:a.eval y= .agg cells) (t:zD) (cur:zA) (i:w.heap[g]? =aA (aJ cur t (0,0))) (hi:(P.info? ty).map (·.size)=aA cells.size) (b:p+cells.size<=cur.size) (k:∀v∈cells.toList,v.oneCell'=aF) (h:wpList P ops Q rest (a.put o.dst undef) (w.setRow g (zAL (over (zAM cur) p (zAM cells))))):wpList P ops Q (o::rest) a w:=wpList_plain c λ_ j=>by unfold Oper.wp execOp;simp only[f,e,d,Instr.storeAt,Instr.sureAddr,Sem.run_bind,Sem.run_pure,Result.andThen_ok,run_storeVar_mid w g p t ty cur cells i hi b k];exact(j _ _ h)
end
theorem aNl (l:List bE)(i:Nat)(u:bE)(hi:i<zAH l):over (bL l) (i*3) u.cells=bL (l.set i u):=by have e:bL l=bL (l.take i)++(l[i].cells++bL (l.drop (i+1))):=by{rw[<-qR,List.getElem_cons_drop];unfold bL;rw[<-Lx,GO]};have h:zAH (bL (l.take i))=i*3:=by{grind[Nx,cQ,List.length_take]};have a:zAH (bL (l.take i)++l[i].cells)=i*3+zAH u.cells:=by{rw[At,h];rfl};rw[List.set_eq_take_append_cons_drop,AE hi];unfold over;rw[e,<-a,<-Df,List.drop_left,Df (bL (l.take i)),<-h,List.take_left,Df];unfold bL;exact ji
theorem KT {c n:zV}{o m:Nat}(h:o+zAH n<=m)(a:m<=zAH c):(over c o n).take m=over (c.take m) o n:=by unfold over;have b:(c.take m).take o=c.take o:=by{grind};have e:zAH (c.take o++n)=o+zAH n:=by{grind};grind[List.take_of_length_le,List.drop_take,List.take_append]
def vL {W:zW}{ops:zQ}{rest:List Oper}{o:Oper}{a:Act}{Q:zX}(f:o.guard=aB)(x y:Operand) (q:o.op= .store 53 x y) (base g n cap:Nat) (l:List bE) (b:bO W base (aK g n cap) l) (i:Nat) (hi:i<zAH l) (u:bE) (p:a.eval x=aO (g,i*3)) (m:a.eval y= .agg #[u.idx,u.val,.bool u.gone]) (h:∀w',bO w' base (aK g n cap) (l.set i u)->W.grownBy w' (aA g)->wpList zq ops Q rest (a.put o.dst undef) w'):wpList zq ops Q (o::rest) a W:=by obtain⟨c,h1,t,s,r⟩:∃c,W.heap[g]? =aA (aJ c 53 (0,0))/\i*3+3<=c.size/\bO (W.setRow g (zAL (over (zAM c) (i*3) u.cells))) base (aK g n cap) (l.set i u)/\W.grownBy (W.setRow g (zAL (over (zAM c) (i*3) u.cells))) (aA g):=by{obtain⟨e,_⟩|⟨B,k,c,e,hb,hh,r1,r2,r3,r4⟩:=b.2;{cases e};.injection e with d C w;(iterate 2 (injection d with d));subst d w;have z:i*3+zAH u.cells<=zAH l*3:=by{show i*3+3<=_;omega};have A:zAH l*3<=zAH (zAM c):=by{grind};refine⟨c,hh,bm,⟨by rw[cQ,Ln],aI ⟨g,cap,zAL (over (zAM c) (i*3) u.cells),ji,hb,setRow_heap W g c _ _ _ hh,ji,r2,?_,?_⟩⟩,⟨rfl,rfl,rfl,j1,by grind[setRow_other]⟩⟩;{grind[Array.length_toList,Nat.le_trans,lA,List.size_toArray]};grind[KT,aNl,List.length_set]};exact wpList_store_mid f 53 x y q g (i*3) _ p m 53 c h1 c9 t (λv j=>by simp only[Bb,Bq,Bm]at j;obtain rfl|rfl|rfl:=j<;>rfl) (h _ s r)
def zCe {W:zW}{base:Nat}{v:zY}{l:List bE}(k:bO W base v l)(ty:zD)(u:bE)(ad c:Nat)(E:bT W ad 53 #[aL ⟨u.idx.toArray⟩,aL ⟨u.val.toArray⟩,.bool u.gone])(I:l.length<=1000000)(p:base<=W.heap.size):
  ∃g cap w,(Builtin.append_ #[48,48] ty #[v,aK (aA ⟨ad,0,aB⟩) 1 c]).run zq W= .ok (aK (aA ⟨g,0,aB⟩) (l.length+1) cap) w/\bO w base (aK (aA ⟨g,0,aB⟩) (l.length+1) cap) (l++[u])/\(v.ownBlock=aA g/\W.grownBy w (aA g)\/W.heap.size<=g/\W.grownBy w aB):=by let⟨i,hi,A,d,q⟩:=rM;have h:∀j y,u.cells[j]? =aA y->W.cell? ((ad:Addr).add j)=aA y:=λj y B=>by{have m:(ad:Addr).add j=(ad,j):=r9;rw[m,E.cell j];simpa [bE.cells]using B};let⟨D,w,r,H,C,_,z⟩:=run_append_own_at W base 48 ty 53 i _ 3 40 j1 hi A d q rfl bm v (zAH l) (bL l) k ad 1 c u.cells rfl h (pW u) j7 bm p;have o:bO w base D (l++[u]):=by{show World.ownsRow _ _ _ _ _ (zAH (l++[u])) (bL (l++[u]));grind[qQ,List.length_append]};obtain⟨g,cap,rfl⟩:=o.form j0;rw[At]at r o;refine⟨g,cap,w,r,o,?_⟩;obtain⟨rfl,_⟩|⟨g0,b,cur,rfl,F,x,r1,r2,r3,r4⟩:=k.2;{refine aI ⟨?_,C⟩;obtain e|e:=z;{cases e};.exact Nat.le_of_eq (Ay e).symm};.by_cases n:zAH l+1<=b;{have a:=run_append_room W 48 ty 53 i j1 hi g0 (zAH l) b cur x ad 1 c u.cells (by rw[d];rfl) h (pW u) n (by rw[d,r3];show zAH l*3+3<=_;exact bm);rw[r]at a;injection a with f _;injection f with f _ _;(iterate 2 (injection f with f));subst f;exact aH ⟨rfl,C⟩};.obtain⟨v2,w2,a,s,t⟩:=run_append_arg_grows W 48 ty 53 i _ 3 40 j1 hi A d q rfl bm g0 (zAH l) b (bL l) ji (λj y B=>by have m:(g0:Addr).add j=(g0,j):=by{unfold Addr.add;grind};grind[cell_of_row]) ad 1 c u.cells rfl h (by omega) (by simp only[maxLen];omega) (by omega);rw[r]at a;injection a with f G;subst f G;exact aI ⟨(World.ownsRow.lt s g rfl).1,t⟩
abbrev pT:=zY×zB
def lD (r:pT):zV:=[r.1,aL ⟨zAL r.2⟩]
def iY (l:List pT):zV:=l.flatMap lD
def QG:∀(l:List pT)(i:Nat)(e:pT),l[i]? =aA e->∀j,j<2->(iY l)[i*2+j]? =(lD e)[j]?
 |[],_,_,h,_,_=>by cases h|a::l,0,e,h,j,b=>by cases h;unfold iY;rw[NQ,He,Ce,GN (by assumption)]|a::l,i+1,e,h,j,b=>by unfold iY;rw[NQ,Ec (by show 2<=_;omega),show(i+1)*2+j-zAH (lD a)=i*2+j by show(i+1)*2+j-2=_;omega];exact QG l i e h j b
def Oh:∃i,zq.info? 109=aA i/\i.zero=aA (.agg #[aK aB 0 0,aL ⟨#[]⟩])/\i.size=2/\i.bytes=40:=BP c9
abbrev Co (w:zW)(base:Nat)(v:zY)(l:List pT):Prop:=w.ownsRow base 109 2 v l.length (iY l)
def rN {W:zW}{ops:zQ}{o:Oper}{a:Act}{K:Act->zW->Prop}{Q:zX}{E:Prop}(m:o.guard=aB)(s x:Operand)
  (t:o.op= .call ⟨.builtin .append,#[s,x],#[66,66]⟩)
  (base:Nat) (v:zY) (l:List pT) (hs:a.eval s=v) (b:Co W base v l) (e:pT) (c:Nat) (r:a.eval x=aK (aA ⟨W.heap.size,0,aB⟩) 1 c) (w:e.1.oneCell'=aF)
  (z:l.length<=10000000) (p:base<=W.heap.size)
  (h:∀g cap w',Co w' base (aK (aA ⟨g,0,aB⟩) (l.length+1) cap) (l++[e])->W.grownBy w' v.ownBlock->(v.ownBlock=aA g\/g=W.heap.size+1)->K (a.put o.dst (aK (aA ⟨g,0,aB⟩) (l.length+1) cap)) w'):if Region.wanted o (yielded ops a.tmps)=aF then Oper.wp zq o a (W.alloc (aJ #[e.1,aL ⟨e.2.toArray⟩] 109)) K Q else E:=by let⟨i,hi,q,k,n⟩:=Oh;refine step_append_lies _ m s x 66 t base 109 i _ 2 40 j1 hi q k n rfl bm v (zAH l) (iY l) hs (World.ownsRow.alloc b _) W 1 c (lD e) r rfl (λj y f=> ?_) (λy f=> ?_) bm j7 bm j6 _ rfl (λg cap w' B u A _=>h g cap w' ?_ (dF u) j1);{have d:(W:Addr).add j=(W,j):=r9;rw[d];show(zAK W (aJ (zAL (lD e)) 109)).cell? _=_;exact j1};{simp only[lD,Bb,Bq,Bm]at f;obtain rfl|rfl:=f;{exact w};.rfl};.have C:iY (l++[e])=iY l++lD e:=by{unfold iY;exact ji};exact ji
def tF:bE:=⟨[],[],aG⟩
def IS:zA:= #[aL ⟨#[]⟩,aL ⟨#[]⟩,aG]
theorem Og (n:Nat):zAM (madeCells IS (n*3))=bL (List.replicate n tF):=by apply List.ext_getElem?;intro i;by_cases h:i<n*3;{have hi:(i/3)*3+i%3=i:=bm;have a:(List.replicate n tF)[i/3]? =aA tF:=ji;have:=gF _ (i/3) tF a (i%3) bm;rw[hi]at this;rw[this,Ew];unfold madeCells;rw[Hk,Array.getElem?_range,AE h];have b:i%3<3:=bm;show aA (IS[i%3]!)=_;generalize i%3=r at*;match r,b with|0,_=>rfl|1,_=>rfl|2,_=>rfl};.rw[List.getElem?_eq_none (by grind[Array.length_toList,size_madeCells]),List.getElem?_eq_none (by grind[cQ,List.length_replicate])]
def Oe (n:Nat)(c:n<=2000000)(W:zW):(Instr.makeSlice 48 n (aC aD n)).run zq W= .ok (aK W n n) (zAK W (aJ (madeCells IS (n*3)) 53)):=by let⟨i,b,a,h,d⟩:=rM;have:=run_make W 48 53 i _ j1 b a aD aD (n:Int) (n:Int) bm (Int.le_refl _) ji bm;rw[this,h,show((n:Int)).toNat=n from bm];rfl
def Vj (n:Nat)(h:n<=2000000)(W:zW):bO (zAK W (aJ (madeCells IS (n*3)) 53)) W.heap.size (aK W n n) (List.replicate n tF):=by refine⟨by rw[cQ],aI ⟨W.heap.size,n,_,ji,je _,Ei W _,ji,j7,size_madeCells _ _,?_⟩⟩;grind[cQ,List.take_of_length_le,List.length_replicate,Og]
def Qg {W:zW}{base g N cap vc:Nat}{va:zO}{L us:List bE}(h:bO W base (aK g N cap) L)(w:bN W va us)(hl:zAH us<=zAH L)(ty:zD): ∃x k,(Builtin.copy_ #[48,48] ty #[aK g N cap,aK va (zAH us) vc]).run zq W= .ok x k/\bO k base (aK g N cap) (us++L.drop (zAH us))/\W.grownBy k (aA g):=by let⟨i,d,F,E,D⟩:=rM;by_cases y:us=[];{subst y;refine⟨goInt 0,W,?_,h,⟨rfl,rfl,rfl,je _,λ_ _ _=>rfl⟩⟩;cases va with|none=>simp[Builtin.copy_,Builtin.lenOf,Builtin.firstCells,d,storeCells]|some a=>simp[Builtin.copy_,run_underlying ((Qz.eR 48).trans underlying48),Builtin.lenOf,Builtin.firstCells,sizeOf,typeInfo,d,storeCells,loadCells,loadCellsFrom]};.obtain⟨f,o,rfl,s,C⟩:=w ji;obtain⟨e,_⟩|⟨G,p,cur,e,hb,hh,r1,r2,r3,r4⟩:=h.2;{cases e};.injection e with b H B;(iterate 2 (injection b with b));subst b B;have m:Nat.min (zAH us) N=zAH us:=by{grind};have c:=cQ us;have t:=Nv.trans r3;have r:=SV (P:=zq) W 48 48 ty 53 i g 0 N cap (f,o) (zAH us) vc cur 53 (bL us) j1 d hh ji (λj v l=>by have n:((f,o):Addr).add j=(f,o+j):=by{unfold Addr.add;grind};grind) (by omega) (λv l=>by let⟨u,_,q⟩:=List.mem_flatMap.1 l;exact pW u v q);have hlen:zAH (us++L.drop us.length)=zAH L:=ji;refine⟨_,_,r,⟨by rw[cQ],aI ⟨g,cap,_,ji,hb,setRow_heap W g cur _ _ _ hh,bm,r2,?_,?_⟩⟩,⟨rfl,rfl,rfl,j1,by grind[setRow_other]⟩⟩;{grind};.show List.take _ (over (zAM cur) 0 (bL us))=_;rw[hlen,KT bm bm,r4];unfold over;rw[Fy,Gs,Ce,c];have A:bL L=bL (L.take (zAH us))++bL (L.drop (zAH us)):=by{unfold bL;rw[<-Lx,GO]};have z:zAH (bL (L.take us.length))=zAH us*3:=by{rw[cQ,Ds,Nx hl]};rw[A,<-z,List.drop_left];unfold bL;exact ji
def mW (w:zW)(own:Nat->Nat)(i j pp k win R n:Nat):Prop:=∃d rd first S H,bT w pp 99 #[aO (aA ⟨d,0,aB⟩),aO (aA ⟨rd,0,aB⟩)]/\own pp=0/\nP w own i d k win first R S H/\pO w own j rd k win first R S H/\S.length<=win/\(1<=win/\win<=50)/\first+S.length<=n+1
def eT:bE:=⟨[115,112,97,114,101],[],aG⟩
def rT:bE:=⟨[103,111,110,101],[],aG⟩
def aM0 (us:List bE)(s:Nat)(h:s<8):(us++(List.replicate s eT++List.replicate (8-s) tF)).set (zAH us+s) eT=us++(List.replicate (s+1) eT++List.replicate (8-(s+1)) tF):=by rw[Ml _ _ (Nat.le_add_right _ _),Nat.add_sub_cancel_left,Ml _ _ (Dm▸(je _)),Dm,Gj,show 8-s=(8-(s+1))+1 from bm,NW,Fs,Mk,Df];rfl
def Wq (L:List bE)(s:Nat)(h:s<zAH L):(List.replicate s rT++L.drop s).set s rT=List.replicate (s+1) rT++L.drop (s+1):=X1
section
variable {w:zW}{own:Nat->Nat}{i j pp k win R n:Nat}
def bO.batch {W:zW}{base g N cap c:Nat}{us rest:List bE}(h:bO W base (aK g N cap) (us++rest))(m:0<zAH (us++rest)):tE W (aK g (zAH us) c) us:=by let⟨v,c',e,_,l⟩:=h.tR;let⟨r,o,a,d,f⟩:=l m;injection e with e _ _;rw[<-e]at a;injection a with a;injection a with a q;subst a q;refine⟨g,0,c,rfl,d,λj u b=>f j u ?_⟩;have p:bL (us++rest)=bL us++bL rest:=by{unfold bL;rw[Lx]};rw[p,GN (Bx.1 b).1];exact b
def bO.wD {W:zW}{base g N cap:Nat}{l:List bE}(h:bO W base (aK g N cap) l)(i:Nat)(u:bE)(b:l[i]? =aA u)(j:Nat)(d:j<3:=by omega):W.cell? (g,i*3+j)=u.cells[j]? :=by
 obtain⟨e,_⟩|⟨f,c,cur,e,hb,hh,r1,r2,r3,r4⟩:=h.2
 .cases e
 .injection e with a o m;iterate 2 (injection a with a)
  subst a;have hlt:=(Bx.1 b).1;rw[Eh W g _ cur _ (0,0) hh,<-gF l i u b j d,<-r4,GK,AE bm,Ew]
def TN (hP:mW w own i j pp k win R n)(h0:sD own)(hi:i≠0)(hj:j≠0)(aa:i≠j)(va:zO)(c:Nat)(us:List bE)(hE:bN w va us)(hz:∀a,va=aA a->0<zAH us->own a.block≠i/\own a.block≠j)(Wa:zAH us<=1100000)(fy:∀u∈us,zAH u.idx<=1100000/\zAH u.val<=1100000)(hn:n<=2000000):
  Calls zq 44 #[aO pp,aK va (zAH us) c] w (RF λx w'=>x= .bool aF/\∃l,mW w' l i j pp k win R (n+1)/\eJ (λy=>y=i\/y=j) own l w w'):=by
 let⟨d,rd,first,S,H,tt,hp0,hD,hR,hSw,⟨Vz,tn⟩,hfS⟩:=hP;obtain⟨P,hPe⟩:∃P:Ending->zW->Prop,P=(RF λx w'=>x= .bool aF/\∃l,mW w' l i j pp k win R (n+1)/\eJ (λy=>y=i\/y=j) own l w w'):=⟨_,rfl⟩;have HP:=hid hPe;rw[<-hPe];let⟨m,hm⟩:=zzx (zAH us);have N:=hid hm;have HE:=hid hE;have Wc:∀W,(Instr.makeSlice 48 (aC aD ((m:Int)+8)) (aC aD ((m:Int)+8))).run zq W= .ok (aK W (m+8) (m+8)) (zAK W (aJ (madeCells IS ((m+8)*3)) 53)):=λW=>by have:=Oe (m+8) bm W;rw[show((m+8:Nat):Int)=(m:Int)+8 from bm]at this;exact this
 let⟨x2,w2,hr,Pa,T⟩:=Qg (vc:=c) (Vj (m+8) bm w) (hE.below ((Av _ _).alloc (je _) _) (je _)) N7 3;rw[List.drop_replicate,<-hm,show m+8-m=8 from bm]at Pa;have B2:Hid (zb w w2):=((Av _ _).alloc (je _) _).grown T j6 λk hk=>by have:=Ay hk;omega
 have O2:=hid Pa;rw[<-hm]at hr;have HD:=hid hD;have HR:=hid hR;have V:=hid tt;have U:=hid fy;have HZ:=hid hz;rw[<-hm]at Wa⊢;clear hE Pa T tt hD hR fy hz hm hPe;go_enter (Qz.fn func44),ntmps44;go_wp2_with (at_builtin;refine zCd rfl _ _ 48 48 rfl _ _ rfl rfl hr ?_);clear hr Wc;go_loopg [6] 8 (λq x wr=>∃s:Nat,s+q=8/\x=aC aD ((m+s:Nat):Int)/\zb w wr/\bO wr w (aK w (m+8) (m+8)) (us++(List.replicate s eT++List.replicate (8-s) tF)));case atStart=>exact⟨0,bm,rfl,B2,O2⟩
 case round=>
  obtain⟨s,hs,rfl,b3,o3⟩:=hrel
  have B3:=hid b3
  have O3:=hid o3
  clear b3 o3 B2 O2
  by_cases hlt:s<8
  .have M:Hid ((us++(List.replicate s eT++List.replicate (8-s) tF)).set (m+s) eT=us++(List.replicate (s+1) eT++List.replicate (8-(s+1)) tF)):=by{show _=_;rw[N.out];exact aM0 us s hlt};have hlen:zAH (us++(List.replicate s eT++List.replicate (8-s) tF))=m+8:=by{simp[N.out];exact bm};generalize us++(List.replicate s eT++List.replicate (8-s) tF)=L at*;let⟨p,hp⟩:=zzx (m+s);rw[<-hp]at M⊢;have jz:¬((p:Int)<0):=bm;have Q:(p:Int)<m+8:=bm;have aCb:=O3.out;have ae:=B3.size;have HPQ:=hid hp;have J:p<zAH L:=bm;clear hp;go_wp2_with (refine vL rfl _ _ rfl w w (m+8) (m+8) L aCb p J eT rfl rfl ?_;intro w4 ho f);go_roundg (8-(s+1));case measure=>go_light;omega
   case rel=>go_light;exact⟨s+1,bm,by rw[HPQ.out];exact j9,B3.grown f ae λk hk=>by have:=Ay hk;exact bm,by rw[<-M.out];exact ho⟩
  .obtain rfl:s=8:=bm;have Q:¬(((m+8:Nat):Int)<(m:Int)+8):=by omega
   have ua:zq.globals.size<w.heap.size:=by let⟨_,_,t,_,_,_,C,_⟩:=HD;exact aNA C.rW.GJ C.rW.jg
   have r:=B3.drew;have zi:=r.size;have O1:Hid (bO wr.drew w (aK w (m+8) (m+8)) (us++List.replicate 8 eT)):=by have:=O3.out;rw[show 8-8=0 from rfl,List.replicate_zero,Bj]at this;exact this
   have hob:=(bO.lt O1 _ rfl).2;have T1:Hid (eJ (λy=>y=i\/y=j) own (gT own w 0) w wr.drew):=⟨.of r (je _),λx E=>dK E⟩;have D1:=hid (HD.kept zi (λx E _=>r.block x E) T1.own);have R1:=hid (HR.kept zi (λx E _=>r.block x E) T1.own);have E1:=hid (HE.below r (je _));have hU:=O1.batch (c:=m+8) (by rw[At,Dm];exact bm);rw[<-N.out]at hU;have U1:=hid hU;have K1:=hid (V.below r V.lt);have I:=V.lt;have q0:=K1.cell 0;have hCA:=aNd D1 _ us U1 (by have:=N.out;exact bm) (λu X=>⟨by have:=(U u X).1;exact bm,by have:=(U u X).2;exact bm⟩) bm bm Vz bm;have HCA:=hid hCA;clear hCA hU r;go_upto_region 7 with(fail)
   go_region_with (first
    |(go_at_call 19;refine HCA.mono ?_;rintro e w4 (⟨_,rfl,rfl,hD4,z⟩|⟨cc,rfl,he⟩);rotate_left;exact⟨rfl,by rw[HP.out];exact .told he⟩;dsimp only))
   all_goals
    have ho1:gT own w 0 w.heap.size=0:=jN (je _)
    have D4:=hid hD4
    have R4:=hid (R1.eD z λe=>aa e.symm)
    have E4:Hid (bN w4 va us):=E1.eD z λa ha C=>by let⟨g,o,e,K,_⟩:=HE C;have e2:a.block=g:=J1;rw[dK (by rw[e2];exact K)];exact(HZ a ha C).1
    have O4:Hid (bO w4 w (aK w (m+8) (m+8)) (us++List.replicate 8 eT)):=O1.kept λg K=>by rw[<-Ay K];exact z.block hob (by rw[ho1];exactλe=>hi e.symm)
    have K4:Hid (bT w4 pp 99 #[aO d,aO rd]):=K1.eD z (by rw[dK I,hp0];exactλe=>hi e.symm)
    have T4:=hid (T1.out.trans (z.mono λy D=>aH D))
    have hz4:=z.save.size
    have q1:=K4.cell 1
    have yi:Hid (gT (gT own w 0) wr.drew.heap.size i w.heap.size=0):=by show _=_;rw[dK hob];exact ho1
    have Y:w.heap.size<w4.heap.size:=Ao hob hz4
    have Kd:cJ S<=1000000:=by let⟨_,_,_,_,_,_,C,_⟩:=D1;have:=C.rW.wj;omega
    have hCR:=XS R4 us va c E4 (by have:=N.out;exact bm) (λu X=>⟨by have:=(U u X).1;exact bm,by have:=(U u X).2;exact bm⟩) bm bm Vz bm Kd
    rw[<-N.out]at hCR
    generalize gT (gT own w 0) wr.drew.heap.size i=B at*
    clear hD4 z D1 R1 E1 O1 K1 U1 HCA ho1 T1 V q0
    go_wp2_with fail
    refine hCR.mono ?_
    clear hCR
    rintro e w5 ⟨rfl,hR5,v⟩
    dsimp only
    have aEt:Hid (∀W,dA (λx=>x=w.heap.size) w5 W->∃l,mW W l i j pp k win R (n+1)/\eJ (λy=>y=i\/y=j) own l w W):=λW hW=>by
     have ho5:gT B w4 j w.heap.size=0:=by{rw[dK Y];exact yi};have hz5:=v.save.size;have T5:eJ (λy=>y=i\/y=j) own (gT B w4 j) w w5:=T4.out.trans (v.mono λy D=>aI D);have h05:sD B:=λx E=>(T4.own x bm).trans (h0 x E);have D5:=D4.eD v h05 (λe=>hj e.symm) (λe=>aa e);have K5:=K4.eD v (by rw[T4.out.own pp I,hp0];exactλe=>hj e.symm);refine⟨gT B w4 j,⟨d,rd,_,_,_,(hW.block pp K5.lt bm).trans K5,by rw[T5.own pp I];exact hp0,D5.kept hW.size (λx E D=>hW.block x E λe=> ?_) (λ_ _=>rfl),hR5.kept hW.size (λx E D=>hW.block x E λe=> ?_) (λ_ _=>rfl),Rf hSw,⟨Vz,tn⟩,by have:=Yp (win:=win) (first:=first) (R:=R) (S:=S) (us:=us);exact bm⟩,⟨T5.save.then hW λx E hlt=>bm,T5.own⟩⟩
     .subst e;obtain D|D:=D
      .exact bm
      .rw[ho5]at D;exact hi D.symm
     .subst e;rw[ho5]at D;exact hj D.symm
    have O5:Hid (bO w5 w (aK w (m+8) (m+8)) (us++List.replicate 8 eT)):=O4.kept λg K=>by rw[<-Ay K];exact v.block Y (by rw[yi.out];exactλe=>hj e.symm)
    have E5:Hid (bN w5 va us):=E4.eD v λa ha C=>by let⟨g,o,e,K,_⟩:=HE C;have e2:a.block=g:=J1;rw[T4.out.own _ (by rw[e2];exact K)];exact(HZ a ha C).2
    have hvl:∀a,va=aA a->0<zAH us->a.block≠w.heap.size:=λa ha C=>by let⟨g,o,e,K,_⟩:=HE C;have e2:a.block=g:=J1;omega
    have HVL:=hid hvl
    clear hvl hR5 v D4 R4 E4 O4 K4 T4 q1
    generalize uZ first R S us=an at*
    generalize jC R S us=cd at*
    go_wp2_with fail
    refine(iD _ _).mono ?_
    rintro e w6 ⟨rfl,rfl⟩
    dsimp only
    go_wp2_with fail
    refine(iD _ _).mono ?_
    rintro e w7 ⟨rfl,rfl⟩
    dsimp only
    go_wp2
    go_loopg [11,12] (m+8) (λq ok x wr=>∃s:Nat,s+q=m+8/\x=aC aD s/\ok= .bool aF/\dA (λx=>x=w.heap.size) w7 wr/\bO wr w (aK w (m+8) (m+8)) (List.replicate s rT++(us++List.replicate 8 eT).drop s))
    case atStart=>exact⟨0,bm,rfl,j0,dA.refl _ _,O5⟩
    case round=>
     clear hlt Q B3 O3
     obtain⟨s,hs,rfl,rfl,b6,o6⟩:=hrel
     have B6:=hid b6
     have O6:=hid o6
     clear b6 o6 O5
     by_cases hlt:s<m+8
     .have hlL:s<zAH (us++List.replicate 8 eT):=by{rw[At,Dm,<-N.out];exact hlt};have M:Hid ((List.replicate s rT++(us++List.replicate 8 eT).drop s).set s rT=List.replicate (s+1) rT++(us++List.replicate 8 eT).drop (s+1)):=Wq _ s hlL;have hlen:zAH (List.replicate s rT++(us++List.replicate 8 eT).drop s)=m+8:=by rw[At,Dm,GL,At,Dm,<-N.out];omega
      have h:(List.replicate s rT++(us++List.replicate 8 eT).drop s)[s]? =(us++List.replicate 8 eT)[s]? :=by rw[Ec (by rw[Dm];exact je _),Dm,Gj,Hm,Eo]
      have jz:¬((s:Int)<0):=bm;have Q:(s:Int)<m+8:=bm;have aIf:w.heap.size<wr.heap.size:=(bO.lt O6 _ rfl).2;have A:=O6.out;by_cases yd:s<m
      .have G:s<zAH us:=by{rw[<-N.out];exact yd};rw[GN G,Be G]at h;have X:=Be G;have zu:bN wr va us:=E5.kept B6.size λg o e K C=>B6.block g K (HVL _ e C.2);generalize us[s]=u at*;let⟨ui,uv,ug⟩:=u;obtain⟨g,o,rfl,K,c0,c1,c2⟩:=zu.idx s _ X;generalize List.replicate s rT++(us++List.replicate 8 eT).drop s=L at*;have hsi:(s:Int)<m:=bm;have J:s<zAH L:=bm;dsimp only at c0 c1 c2;clear X zu;go_upto_region 16 with(fail)
       have b:Hid (bO (zAK wr (aJ #[ui,uv,ug] 53)) w.heap.size (aK w (m+8) (m+8)) L):=A.alloc _;have B7:Hid (dA (λx=>x=w.heap.size) w7 (zAK wr (aJ #[ui,uv,ug] 53))):=B6.out.trans (.of ((Av _ _).alloc (je _) _) (je _));have O:=bT.new wr 53 #[ui,uv,ug];have y0:=b.wD s _ h 0;have y1:=b.wD s _ h 1;have y2:=b.wD s _ h 2;have x0:=O.cell 0;have x1:=O.cell 1;have Z:=O.cell 2;generalize zAK wr (aJ #[ui,uv,ug] 53)=wa at*;simp only[bE.cells,Ho,Mm,JS,eT,Eo]at y0 y1 y2 x0 x1 Z;clear O h A c0 c1 c2;have F:bO wa.drew w (aK w (m+8) (m+8)) L:=b.out;have hzw:w.heap.size<=wa.heap.size:=aNB (bO.lt b w rfl).2;go_region;all_goals
        go_wp2_with (refine vL rfl _ _ rfl w w (m+8) (m+8) L F s J rT rfl rfl ?_;intro w8 ho f)
        go_roundg (m+8-(s+1))
        case measure=>go_light;omega
        case rel=>exact I1
      .have T:(us++List.replicate 8 eT)[s]? =aA eT:=by{rw[Ec (by rw[<-N.out];exact bm),Na,AE (by rw[<-N.out];exact bm)]};rw[T]at h;generalize List.replicate s rT++(us++List.replicate 8 eT).drop s=L at*;have hsi:¬((s:Int)<m):=bm;have J:s<zAH L:=bm;go_upto_region 16 with(fail)
       have b:Hid (bO (zAK wr (aJ #[aL ⟨#[115,112,97,114,101]⟩,aL ⟨#[]⟩,aG] 53)) w.heap.size (aK w (m+8) (m+8)) L):=A.alloc _;have B7:Hid (dA (λx=>x=w.heap.size) w7 (zAK wr (aJ #[aL ⟨#[115,112,97,114,101]⟩,aL ⟨#[]⟩,aG] 53))):=B6.out.trans (.of ((Av _ _).alloc (je _) _) (je _));have O:=bT.new wr 53 #[aL ⟨#[115,112,97,114,101]⟩,aL ⟨#[]⟩,aG];have y0:=b.wD s _ h 0;have y1:=b.wD s _ h 1;have y2:=b.wD s _ h 2;have x0:=O.cell 0;have x1:=O.cell 1;have Z:=O.cell 2;generalize zAK wr (aJ #[aL ⟨#[115,112,97,114,101]⟩,aL ⟨#[]⟩,aG] 53)=wa at*;simp only[bE.cells,Ho,Mm,JS,eT,Eo]at y0 y1 y2 x0 x1 Z;clear O h A;have F:bO wa.drew w (aK w (m+8) (m+8)) L:=b.out;have hzw:w.heap.size<=wa.heap.size:=aNB (bO.lt b w rfl).2;go_region;all_goals
        go_wp2_with (refine vL rfl _ _ rfl w w (m+8) (m+8) L F s J rT rfl rfl ?_;intro w8 ho f)
        go_roundg (m+8-(s+1))
        case measure=>go_light;omega
        case rel=>exact I1
     .obtain rfl:s=m+8:=bm;have Q:¬(((m+8:Nat):Int)<(m:Int)+8):=bm;go_wp2;rw[HP.out];exact .of ⟨rfl,aEt _ B6⟩
end
def ir (x:UInt8)(r:Nat)(a:r<8)(h:x.toNat/2^(7-r)%2=0):((x.toNat:Int)+128/2^r)%256=((jZ x r).toNat:Int):=by have H:∀x:Fin 256,∀r:Fin 8,x.val/2^(7-r.val)%2=0->((x.val:Int)+128/2^r.val)%256=(((x.val|||128/2^r.val)%256:Nat):Int):=by{decide+kernel};have:=H ⟨x.toNat,x.toNat_lt⟩ ⟨r,a⟩ h;exact j5
def zBx (D:zB)(S:zLL)(t:Nat)(h:t<=zAH S):((cF D S t).getD (t/8) 0).toNat/2^(7-t%8)%2=0:=by have:=YU D S t h t;rw[AF bm]at this;exact this
def zCg (D:zB)(S:zLL)(t:Nat)(h:t<zAH S):cF D S (t+1)=if S[t]=D then cF D S t else(cF D S t).set (t/8) (jZ ((cF D S t).getD (t/8) 0) (t%8)):=by rw[cF,Mn,Be h];rfl
def zEu (D:zB)(S:zLL)(t:Nat)(h:t<zAH S):fZ D (S.take (t+1))=fZ D (S.take t)++if S[t]=D then []else S[t]:=by rw[Lz h,sI];simp[fZ]
def Ta (k:Nat)(kd:Nat)(va:zO)(vc:Nat)(S:zLL)(x y z:zB)(w:zW)(T:1<=k)(R:k<=32)(yq:kd<=2)(hS:zAH S<=256)(A:∀s∈S,zAH s<=32)(hv:zAH x+zAH y+zAH z<=1000)(O:vA w va S):
  Calls zq 75 #[.agg #[kd,aK va (zAH S) vc,x,y,z],k] w λe w'=>e=aM (jP k ⟨kd,S,x,y,z⟩)/\zb w w':=by
 have ky:=hid O;have H:=hid A;let⟨n,P⟩:=zzx (zAH S);obtain⟨nb,C⟩:∃nb,(n+7)/8=nb:=⟨_,rfl⟩;have K:=hid P;have G:=hid C;have aIi:((n:Int)+7)/8=(nb:Int):=by omega
 have Wc:∀W,(Instr.makeSlice 50 nb (aC aD nb)).run zq W= .ok (aK W nb nb) (zAK W (aJ (wK nb) 5)):=λW=>LF nb bm W;have v:(convert 50 9 (aK (w.heap.size+1,0) 3 3)).run zq (zAK (zAK w (aJ #[kd,aK va n vc,x,y,z] 131)) (aJ #[aC aQ (kd:Int),aC aQ ((n:Int)/256),aC aQ ((n:Int)%256)] 5))= .ok (nL kd n) (zAK (zAK w (aJ #[kd,aK va n vc,x,y,z] 131)) (aJ #[aC aQ (kd:Int),aC aQ ((n:Int)/256),aC aQ ((n:Int)%256)] 5)):=by
  have e: #[Value.int aQ (kd:Int),aC aQ ((n:Int)/256),aC aQ ((n:Int)%256)]=gV (nL kd n):=by have e1:(((UInt8.ofNat kd).toNat:Nat):Int)=(kd:Int):=G3;have e2:(((UInt8.ofNat (n/256)).toNat:Nat):Int)=(n:Int)/256:=G3;have e3:(((UInt8.ofNat (n%256)).toNat:Nat):Int)=(n:Int)%256:=G3;rw[<-e1,<-e2,<-e3];rfl
  rw[e];have:=Je (bT.new (zAK w (aJ #[kd,aK va n vc,x,y,z] 131)) 5 (gV (nL kd n))) 3;rw[size_alloc]at this;exact this
 have hH:Hid (∀W,Calls zq 66 #[k,aL ⟨#[0]⟩] W λe w'=>e=aM (dg k [0])/\zb W w'):=λW=>oI k [0] W T R j0;have Y:Hid (jP k ⟨kd,S,x,y,z⟩=nL kd n++(cF (dg k [0]) S n++(fZ (dg k [0]) S++SZ ⟨kd,S,x,y,z⟩))):=by rw[P];rfl
 generalize jP k ⟨kd,S,x,y,z⟩=EN at*;generalize dg k [0]=D at*;have X:Hid (wK nb=gV (cF D S 0)):=by show _=_;rw[cF,<-P,C];rfl
 rw[<-P]at hS⊢;clear O A T R P C;go_enter (Qz.fn func75),ntmps75;go_upto_region 4 with(fail)
 have B3:Hid (zb w (zAK (zAK (zAK w (aJ #[kd,aK va n vc,x,y,z] 131)) (aJ #[aC aQ (kd:Int),aC aQ ((n:Int)/256),aC aQ ((n:Int)%256)] 5)) (aJ (wK nb) 5))):=(((Av _ _).alloc (je _) _).alloc j6 _).alloc (by rw[size_alloc,size_alloc];exact bm) _;have K3:Hid (bT (zAK (zAK (zAK w (aJ #[kd,aK va n vc,x,y,z] 131)) (aJ #[aC aQ (kd:Int),aC aQ ((n:Int)/256),aC aQ ((n:Int)%256)] 5)) (aJ (wK nb) 5)) w.heap.size 131 #[kd,aK va n vc,x,y,z]):=((bT.new _ _ _).alloc _).alloc _;have M3:Hid (bT (zAK (zAK (zAK w (aJ #[kd,aK va n vc,x,y,z] 131)) (aJ #[aC aQ (kd:Int),aC aQ ((n:Int)/256),aC aQ ((n:Int)%256)] 5)) (aJ (wK nb) 5)) (w.heap.size+1+1) 5 (gV (cF D S 0))):=by have:=bT.new (zAK (zAK w (aJ #[kd,aK va n vc,x,y,z] 131)) (aJ #[aC aQ (kd:Int),aC aQ ((n:Int)/256),aC aQ ((n:Int)%256)] 5)) 5 (wK nb);rw[size_alloc,size_alloc]at this;rw[<-X.out];exact this
 generalize(zAK (zAK w (aJ #[kd,aK va n vc,x,y,z] 131)) (aJ #[aC aQ (kd:Int),aC aQ ((n:Int)/256),aC aQ ((n:Int)%256)] 5)).alloc (aJ (wK nb) 5)=w3 at*;clear v Wc X;go_wp2;go_loopg [8,9] n (λq tl i wr=>∃t:Nat,t+q=n/\i=aC aD t/\tl=aL ⟨zAL (fZ D (S.take t))⟩/\zb w wr/\bT wr w 131 #[kd,aK va n vc,x,y,z]/\bT wr (w.heap.size+1+1) 5 (gV (cF D S t)));case atStart=>exact⟨0,bm,rfl,rfl,B3,K3,M3⟩
 case round=>
  obtain⟨t,N,rfl,rfl,u,k1,m1⟩:=hrel
  have B:=hid u
  have K1:=hid k1
  have V:=hid m1
  clear u k1 m1
  by_cases hlt:t<n
  .have h:t<zAH S:=by{rw[<-K.out];exact hlt};have hm:=zCg D S t h;have N:=zEu D S t h;have E:=zBx D S t bm;have f:=iX D S t;have hTL:zAH (fZ D (S.take t))<=10000:=by{have:=CZ D S t H;exact J4};have A:=H _ (Fp h);obtain⟨g,o,rfl,U,j⟩:=ky bm;have hg:=Ao U B.size;have c0:wr.cell? (g,o+t)=aA (aL ⟨S[t].toArray⟩):=by{rw[B.out.cell (p:=(g,o+t)) U];exact j t _ (Be h)};have q0:=bQ c0 hg;have q1:=bQ ((K1.cell 1).trans (rfl:_=aA (Value.slice (g,o) n vc))) K1.lt;have Q1:=quiet_of (w:=wr) λW _=>hH W;generalize S[t]=M at*;generalize cF D S t=L at*;generalize fZ D (S.take t)=TL at*;have qh:(t:Int)<n:=bm;clear j;go_upto_region 8 with(fail)
   refine Em c9 c9 ?_;(repeat (any_goals(first|go_big_quiet_step (exact Q1 _ _)|quiet_step (exact Q1 _ _))));refine Dn ?_;intro m hw';let⟨q,hq⟩:=hw';have u:zb wr m:=by{rw[hq];exact Dc wr q.d q.os};have B2:=hid (aY B u B.size);have K2:=hid (K1.below u K1.lt);have M2:=hid (V.below u V.lt);have p0:m.cell? (g,o+t)=aA (M:zY):=by{rw[u.cell (p:=(g,o+t)) hg];exact c0};clear hq u q0 q1 Q1 B K1 V c0;by_cases b:M=D
   .have l:(M==D)=aF:=by{rw[b];exact Mg _};have J:Hid (cF D S (t+1)=L/\fZ D (S.take (t+1))=TL):=⟨by rw[hm,AE b],by rw[N,AE b,Bj]⟩;clear hm N E;rw[l];go_wp2;go_roundg (n-(t+1));case measure=>go_light;omega
    case rel=>go_light;exact⟨t+1,bm,j9,by rw[J.out.2],B2,K2,by rw[J.out.1];exact M2⟩
   .have l:=GM.2 b;have J:Hid (cF D S (t+1)=L.set (t/8) (jZ (L.getD (t/8) 0) (t%8))/\fZ D (S.take (t+1))=TL++M):=⟨by rw[hm,AF b],by rw[N,AF b]⟩;have Q:t/8<zAH L:=by omega
    have y0:=(M2.cell _).trans (CX L _ Q);have y1:=M2.frozen (t/8);have F:=hid (ir _ _ (LV _ bm) E);have hxr:=(L.getD (t/8) 0).toNat_lt;have M4:Hid (bT (zAJ m (w.heap.size+1+1,t/8) (aC aQ ((jZ (L.getD (t/8) 0) (t%8)).toNat:Int))) (w.heap.size+1+1) 5 (gV (L.set (t/8) (jZ (L.getD (t/8) 0) (t%8))))):=by rw[<-OU];exact M2.bR _ _
    generalize L.getD (t/8) 0=xb at*;generalize jZ xb (t%8)=I at*;obtain⟨r,hr⟩:∃r,t%8=r:=⟨_,rfl⟩;obtain⟨d,hd⟩:∃d,t/8=d:=⟨_,rfl⟩;have ht8:(t:Int)/8=(d:Int):=bm;have ht9:(t:Int)%8=(r:Int):=bm;have c:zAH L=nb:=by{rw[f,<-K.out];exact G};have hr8:r<8:=bm;rw[hd]at y0 y1 J M4;rw[hr]at F;clear hd hr hm N E Q f;rw[l];go_upto_region 9 with(fail)
    go_region;rw[F.out];have B4:Hid (zb w (zAJ m (w.heap.size+1+1,d) (aC aQ (I.toNat:Int))).drew):=iH (B2.setCell (by show w.heap.size<=w.heap.size+1+1;exact bm) _);have K4:Hid (bT (zAJ m (w.heap.size+1+1,d) (aC aQ (I.toNat:Int))).drew w 131 #[kd,aK (g,o) n vc,x,y,z]):=K2.cB _ _ (by show w.heap.size≠w.heap.size+1+1;exact bm);have M5:Hid (bT (zAJ m (w.heap.size+1+1,d) (aC aQ (I.toNat:Int))).drew (w.heap.size+1+1) 5 (gV (L.set d I))):=M4.out;have p4:(zAJ m (w.heap.size+1+1,d) (aC aQ (I.toNat:Int))).drew.cell? (g,o+t)=aA (M:zY):=by show(zAJ m _ _).cell? _=_;rw[World.cell?_of_block (a:=(g,o+t)) (Du _ _ _ _ (by show g≠w.heap.size+1+1;exact bm))];exact p0
    have q4:=K4.cell 1;generalize(zAJ m (w.heap.size+1+1,d) (aC aQ (I.toNat:Int))).drew=w4 at*;have q5:=q4;clear y0 y1 F B2 K2 M2 M4 p0 q4;go_wp2;go_roundg (n-(t+1));case measure=>go_light;omega
    case rel=>go_light;exact⟨t+1,bm,j9,by rw[J.out.2,<-fA],B4,K4,by rw[J.out.1];exact M5⟩
  .obtain rfl:t=n:=bm;have qh:¬((t:Int)<t):=by omega
   have HT:Hid (EN=nL kd t++cF D S t++fZ D (S.take t)++SZ ⟨kd,S,x,y,z⟩):=by show _=_;rw[Y.out,K.out,Fq,Df,Df]
   have hTL:zAH (fZ D (S.take t))<=10000:=by{have:=CZ D S t H;exact J4};have f:=iX D S t;have c:zAH (cF D S t)=nb:=by{rw[f,<-K.out];exact G};have v:=Je V nb;rw[c]at v;generalize cF D S t=L at*;generalize fZ D (S.take t)=TL at*;have q0:=K1.cell 0;have q2:=K1.cell 2;have q3:=K1.cell 3;have q4:=K1.cell 4;have hHB:zAH (nL kd t)=3:=rfl;have aJt:zAH L<=40:=C1;clear f V K1 c;have Z:Hid (SZ ⟨kd,S,x,y,z⟩=if kd=1 then x else if kd=2 then y++z else []):=rfl;rw[Z.out]at HT;generalize nL kd t=HB at*;clear Y Z;obtain rfl|rfl|rfl:kd=0\/kd=1\/kd=2:=bm;{go_wp2;go_ret;exact⟨by rw[fA,fA,HT.out];exact j0,B⟩}
   .go_wp2;go_ret;exact⟨by rw[fA,fA,fA,HT.out];exact j0,B⟩
   .go_wp2;go_ret;exact⟨by rw[fA,fA,fA,fA,HT.out];exact j0,B⟩
def Ip (D:zLL)(p:PW):PW:={p with tQ:=D++p.tQ}
def Yt (p:PW):Ip [] p=p:=rfl
def Sl (k:Nat)(I:zB)(us:List bE)(t:Nat)(h:2<=zAH us)(c:t<256):qP k I (256-t) (aV us) t=Ip [cR k (aV (bJ t (1-cM I t) us)) (t+1)] (qP k I (256-(t+1)) (aV (bJ t (cM I t) us)) (t+1)):=by rw[cX,cX,show 256-t=(256-(t+1))+1 from bm];match us,h with|a::b::l,_=>rfl
def Sm (k:Nat)(I:zB)(us:List bE)(f t:Nat)(h:zAH us<=1):qP k I f (aV us) t=CC k I (aV us):=by match us,f,h with|[],0,_=>rfl|[],f+1,_=>rfl|[u],0,_=>rfl|[u],f+1,_=>rfl
section
variable {w:zW}{F:zP}{rd en k win R first:Nat}{v:zY}{Es:List Ep}{S:List (List bE)}{H:zLL}
def TD (h:cI w F rd en k win R first v Es S H)(i:Nat)(us:List bE)(x:zB)(hi:S[i]? =aA us)(d:H[i]? =aA x)(I:ByteArray)(g:I.size≠32)(f:I.size<=4611686018427387904):
  Calls zq 51 #[aO rd,aC aD ((first:Int)+i),aL I] w λe a=>e=aM (.tuple #[aL ⟨#[]⟩,aC aD 1])/\zb w a:=by
 go_enter (Qz.fn func51),ntmps51;go_wp2_with fail;refine(DN h i us x hi d).mono ?_;rintro e w1 ⟨b,c,rfl,_,hb⟩;have B:Hid (zb w (zAK w1 (aJ #[aK b (zAH us) c,cR k (aV us) 0,x] 102))):=hb.alloc hb.size _;go_wp2;go_ret2;exact⟨rfl,B⟩
abbrev nW (w:zW)(base:Nat)(v:zY)(l:zLL):Prop:=w.ownsRow base 9 1 v l.length (l.map λx=>aL ⟨x.toArray⟩)
theorem nW.below {w w':zW}{base:Nat}{v:zY}{l:zLL}(h:nW w base v l)(b:zb w w'):nW w' base v l:=by refine⟨h.1,?_⟩;obtain e|⟨g,cap,cur,e,a,hh,r⟩:=h.2;{exact aH e};.exact aI ⟨g,cap,cur,e,a,(b.block g (Ax.1 hh).1).trans hh,r⟩
def zCa {W:zW}{ops:zQ}{o:Oper}{a:Act}{K:Act->zW->Prop}{Q:zX}{E:Prop}(n:o.guard=aB)(s x:Operand)
  (z:o.op= .call ⟨.builtin .append,#[s,x],#[82,82]⟩)
  (base:Nat) (v:zY) (l:zLL) (hs:a.eval s=v) (b:nW W base v l) (e:zB) (c:Nat) (u:a.eval x=aK (aA ⟨W.heap.size,0,aB⟩) 1 c)
  (C:l.length<=1000000) (q:base<=W.heap.size)
  (h:∀g cap w',nW w' base (aK (aA ⟨g,0,aB⟩) (l.length+1) cap) (l++[e])->W.grownBy w' v.ownBlock->(v.ownBlock=aA g\/g=W.heap.size+1)->K (a.put o.dst (aK (aA ⟨g,0,aB⟩) (l.length+1) cap)) w'):if Region.wanted o (yielded ops a.tmps)=aF then Oper.wp zq o a (W.alloc (aJ #[aL ⟨e.toArray⟩] 9)) K Q else E:=by let⟨i,hi,t,m,p⟩:=WC;refine step_append_lies _ n s x 82 z base 9 i _ 1 16 ((Qz.eR 82).trans underlying82) hi t m p rfl bm v (zAH l) _ hs (World.ownsRow.alloc b _) W 1 c [aL ⟨zAL e⟩] u rfl (λj y f=> ?_) (λy f=> ?_) bm j7 bm j6 _ rfl (λg cap w' B A r _=>h g cap w' ?_ (dF A) (by rw[size_alloc]at r;exact r));{have d:(W:Addr).add j=(W,j):=by{unfold Addr.add;split<;>simp_all};rw[d,(bT.new W 9 #[e]).cell j];exact J3};{rw[Cy.1 f];rfl};.show World.ownsRow _ _ _ _ _ (zAH (l++[e])) ((l++[e]).map _);rw[Gr,At];exact B
structure Cp (w:zW)(k:Nat)(I:zB)(us:List bE)(gp t:Nat)(L:List bE)(D:zLL)(va:zO)(sv:zY)(wr:zW):Prop where
 tR:bN wr va L
 sub:Sub L t
 val:∀u∈L,u.val.length<=100
 len:L.length<=2000
 dl:D.length=t
 dk:∀s∈D,s.length=k
 way:qP k I 256 (aV us) 0=Ip D (qP k I (256-t) (aV L) t)
 yI:zb w wr
 lo:w.heap.size<=gp
 at':bT wr gp 131 #[aC aD 0,sv,aL ⟨#[]⟩,aL ⟨#[]⟩,aL ⟨#[]⟩]
 own:nW wr (gp+1) sv D
 tle:t<=256
 ap:∀a,va=aA a->0<L.length->a.block≠gp/\sv.ownBlock≠aA a.block
def nW.strs {w:zW}{base n c:Nat}{v:zY}{va:zO}{l:zLL}(h:nW w base v l)(e:v=aK va n c):vA w va l:=λd=>by obtain⟨_,f⟩|⟨g,cap,cur,a,_,hh,r1,r2,r3,r4⟩:=h.2;{exact bm};.rw[e]at a;injection a with a _ _;subst a;refine⟨g,0,rfl,(Ax.1 hh).1,λi x b=> ?_⟩;have hlt:=(Bx.1 b).1;rw[Ce,Eh w g _ cur _ (0,0) hh,<-Ew];have:(cur.toList.take (zAH l*1))[i]? =aA (x:zY):=by{rw[r4,JN,b];rfl};rw[GK,AE bm]at this;exact this
def nW.set {w:zW}{base:Nat}{v:zY}{l:zLL}(h:nW w base v l)(a:Addr)(x:zY)(c:a.block+1=base):nW (zAJ w a x) base v l:=by refine⟨h.1,?_⟩;obtain e|⟨g,cap,cur,e,b,hh,r⟩:=h.2;{exact aH e};.exact aI ⟨g,cap,cur,e,b,(Du _ _ _ _ bm).trans hh,r⟩
structure sq (w:zW)(k:Nat)(I:zB)(us:List bE)(gp t:Nat)(L:List bE)(D:zLL)(va:zO)(sv:zY)(wr:zW):Prop where
 tR:bN wr va L
 yI:zb w wr
 at':bT wr gp 131 #[aC aD 0,sv,aL ⟨#[]⟩,aL ⟨#[]⟩,aL ⟨#[]⟩]
 own:nW wr (gp+1) sv D
def Cp.down {us:List bE}{I:zB}{c t g cap:Nat}{L:List bE}{D:zLL}{va:zO}{s:zY}{w3 w5 w6:zW}{RT:zB}(h:Cp w k I us c t L D va s w3)(d:zb w3 w5)(a:w5.grownBy w6 s.ownBlock)(B:s.ownBlock=aA g\/g=w5.heap.size+1)(r:nW w6 (c+1) (aK g (zAH D+1) cap) (D++[RT])): bT w6 c 131 #[aC aD 0,s,aL ⟨#[]⟩,aL ⟨#[]⟩,aL ⟨#[]⟩]/\sq w k I us c t L (D++[RT]) va (aK g (zAH D+1) cap) (zAJ w6 (c,1) (aK g (zAH D+1) cap)):=by have E:=d.size;have A:=h.lo;have p:aA c≠s.ownBlock:=λe=>by{have:=(World.ownsRow.lt h.own c e.symm).1;omega};have u:=(h.at'.below d h.at'.lt).grown a p;have b:∀x,x≠c->(zAJ w6 (c,1) (aK g (zAH D+1) cap)).heap[x]? =w6.heap[x]? :=λx f=>Du _ _ _ _ f;have j:(zAJ w6 (c,1) (aK g (zAH D+1) cap)).heap.size=w6.heap.size:=by{simp[zAJ]};refine⟨u,⟨h.tR.kept (by rw[j];have:=a.size;exact bm) λi o e hlt f=> ?_,?_,u.bR 1 _,⟨r.1,?_⟩⟩⟩;{obtain⟨z,y⟩:=h.ap _ e f.2;exact(b i z).trans ((a.block i bm λe=>y e.symm).trans (d.block i hlt))};{refine⟨a.os.trans (d.os.trans h.yI.os),a.tape.trans (d.tape.trans h.yI.tape),a.output.trans (d.output.trans h.yI.output),by rw[j];have:=a.size;have:=h.yI.size;exact bm,λx f=> ?_⟩;have n:=Ao f h.yI.size;exact(b x bm).trans ((a.block x bm λe=>by have:=(World.ownsRow.lt h.own x e.symm).1;exact bm).trans ((d.block x n).trans (h.yI.block x f)))};.obtain e|⟨i,l,cur,e,q,hh,rest⟩:=r.2;{exact aH e};.have C:=e;injection e with m _ _;(iterate 2 (injection m with m));exact aI ⟨i,l,cur,C,q,(b i bm).trans hh,rest⟩
def Yw (w:zW)(k g:Nat)(E:zB)(cs:zA)(W:zW):Prop:=zb w W/\bT W g 131 cs/\∀a,zb W a->Calls zq 75 #[.agg cs,k] a λe b=>e=aM E/\zb a b
theorem Yw.row {g:Nat}{E:zB}{cs:zA}{W:zW}(h:Yw w k g E cs W):Hid (∀a,(∃p:Regrown,a=Go.Sort.grow (redrawn W p.d) p.os)->bT a g 131 cs):=λa ⟨p,e⟩=>by rw[e];exact h.2.1.below (Dc W p.d p.os) h.2.1.lt
def TC (h:cI w F rd en k win R first v Es S H)(i:Nat)(us:List bE)(x:zB)(hi:S[i]? =aA us)(hx:H[i]? =aA x)(I:zB)(hI:I.length=32):
  Calls zq 51 #[aO rd,aC aD ((first:Int)+i),I] w λe T=>e=aM (.tuple #[jP k (qP k I 256 (aV us) 0),aC aD 0])/\zb w T:=by
 have HO:=DN h i us x hi hx;have GQ:=h.st us (Ek hi);have Pb:=h.k1;have U:=h.k2;have qd:=h.lt;have HK:Hid (∀W,zb w W->W.cell? (rd,1)=aA (k:zY)):=λW hW=>by rw[hW.cell (p:=⟨rd,1,aB⟩) qd];exact(h.cell 1).trans rfl
 have hIs:(⟨I.toArray⟩:ByteArray).size=32:=by show I.toArray.size=32;simpa using hI
 have Wa:=GQ.2;have Zg:Hid (Sub us 0/\∀u∈us,u.val.length<=100):=⟨GQ.1.sub,λu M=>GQ.1.val u M⟩;clear h hi hx GQ;go_enter (Qz.fn func51),ntmps51;go_wp2_with fail;refine HO.mono ?_;clear HO;rintro e w1 ⟨E,c,rfl,hE,hb⟩;dsimp only;go_upto_region 7 with(fail)
 have hz1:=hb.size;have LR:(w1.alloc (aJ #[aK E us.length c,cR k (aV us) 0,x] 102)).heap.size=w1.heap.size+1:=Lq ..;have G2:Hid (Cp w k I us (w1.heap.size+1) 0 us [] E (aK aB 0 0) ((w1.alloc (aJ #[aK E us.length c,cR k (aV us) 0,x] 102)).alloc (aJ #[aC aD 0,aK aB 0 0,aL ⟨#[]⟩,aL ⟨#[]⟩,aL ⟨#[]⟩] 131))):=by have hk:=bT.new (w1.alloc (aJ #[aK E us.length c,cR k (aV us) 0,x] 102)) 131 #[aC aD 0,aK aB 0 0,aL ⟨#[]⟩,aL ⟨#[]⟩,aL ⟨#[]⟩];rw[LR]at hk;refine⟨hE.below (((Av _ _).alloc (je _) _).alloc (by rw[LR];exact bm) _) (je _),Zg.1,Zg.2,Wa,rfl,(by intro _ h;exact A4),(Yt _).symm,(hb.alloc hz1 _).alloc (by rw[LR];exact bm) _,bm,hk,World.ownsRow_nil _ _ _ _,bm,λa ha h0=>⟨?_,λe=>by cases e⟩⟩;let⟨g,o,e,hg,_⟩:=hE h0;have e2:a.block=g:=J1;omega
 have c0:((w1.alloc (aJ #[aK E us.length c,cR k (aV us) 0,x] 102)).alloc (aJ #[aC aD 0,aK aB 0 0,aL ⟨#[]⟩,aL ⟨#[]⟩,aL ⟨#[]⟩] 131)).cell? w1=aA (aK E us.length c):=(((bT.new w1 102 _).alloc _).cell 0).trans rfl;generalize(w1.alloc (aJ #[aK E us.length c,cR k (aV us) 0,x] 102)).alloc (aJ #[aC aD 0,aK aB 0 0,aL ⟨#[]⟩,aL ⟨#[]⟩,aL ⟨#[]⟩] 131)=w2 at*;clear hE hb LR;go_wp2;let⟨f,hgp⟩:=zzx (w1.heap.size+1);rw[<-hgp]at G2⊢;clear c0 hz1 hgp;go_loopg [11,12] 257 (λq l kk wr=>∃(t:Nat)(L:List bE)(D:zLL)(E:zO)(cc:Nat)(sv:zY),t+q=257/\kk=aC aD t/\l=aK E L.length cc/\Cp w k I us f t L D E sv wr);case atStart=>exact⟨0,us,[],E,c,_,bm,rfl,rfl,G2⟩
 case round=>
  clear G2
  obtain⟨t,L,D,E,cc,sv,ht,rfl,rfl,g3⟩:=hrel
  have G:=hid g3
  clear g3
  by_cases h2:2<=L.length
  .have Z:=G.sub.deep h2;have Wi:=G.len;have hn1:(1:Int)<L.length:=bm;have hb1:cM I t<=1:=by unfold cM;omega
   have jb:Hid (∀W,Calls zq 72 #[I,t] W λe T=>e=aM (aC aD (cM I t:Nat))/\T=W):=λW=>by have:=Lc ⟨I.toArray⟩ t W (by rw[hIs];exact bm) (by rw[hIs];exact bm) bm;exact this
   have C:=hid (Sl k I L t h2 Z);have HH:Hid (∀(W:zW)(b:Nat),b<=1->zb wr W->Calls zq 74 #[aK E L.length cc,t,b] W λe T=>∃v,e=aM v/\bO T W v (bJ t b L)/\zb W T):=λW b hb hW=>uS E L cc t b W (G.tR.below hW (je _)) bm G.sub.idx Z hb;have HRT:Hid (∀(W:zW)(b:Nat)(v:zY)(base:Nat),bO W base v (bJ t b L)->Calls zq 73 #[k,v,aC aD ((t:Int)+1)] W λe T=>e=aM (cR k (aV (bJ t b L)) (t+1))/\zb W T):=λW b v base ho=>by obtain⟨va',c',rfl,_,hE'⟩:=ho.tR;have hl:(bJ t b L).length<=L.length:=Ex ..;have:=FO Pb U (256-(t+1)) (c:=c') (d:=t+1) (us:=bJ t b L) (j:=va') (w:=W) rfl bm (G.sub.half b) (λu M=>G.val u (Bi.1 M).1) bm hE';rw[show((t+1:Nat):Int)=(t:Int)+1 from bm]at this;exact this
   have yf:=jI k (t+1) (aV (bJ t (1-cM I t) L)) U;let⟨bb,hbb⟩:=zzx (cM I t);obtain⟨b',qk⟩:∃b',b'=1-bb:=⟨_,rfl⟩;rw[<-hbb,<-qk]at C yf;rw[<-hbb]at jb hb1;have Gk:(1:Int)-bb=(b':Int):=bm;have hwb:IntKind.i64.wrap (b':Int)=b':=C8;have hwt:IntKind.i64.wrap ((t:Int)+1)=(t:Int)+1:=C8;let⟨nl,gb⟩:=zzx L.length;have HNL:=hid gb;rw[<-gb]at HH hn1 Wi⊢;clear hbb qk gb;go_wp2_with fail;refine(jb _).mono ?_;rintro e w3 ⟨rfl,hw3⟩;subst hw3;clear jb;dsimp only;go_upto_region 12 with(fail)
   have p0:=G.at'.cell 1;have p3:=HK w3 G.yI;have ua:=G.at'.lt;have fz:=Ao qd G.yI.size;have HSS:=hid λW (hW:zb w3 W)=>And.intro ((hW.cell (p:=(f,1)) ua).trans p0) ((hW.cell (p:=(rd,1)) fz).trans p3);have Q:=HSS w3.drew (Av _ _).drew;refine AnyX.nB (λT=>T.cell? (f,1)=aA sv/\T.cell? (rd,1)=aA (k:zY)) (λi=>i==16) c9 ?_;refine AnyX.pV (i:=0) (v:=aO (f,1)) rfl c9 (λ_ _ _ h=>h) (aH ⟨I2,λW=>I3⟩) Q ?_;simp only[Act.put];refine AnyX.tk 1 (sv) Q ?_;simp only[Act.put];refine AnyX.tk 2 (aO rd) Q ?_;simp only[Act.put];refine AnyX.tk 3 (aO rd) Q ?_;simp only[Act.put];refine AnyX.tk 4 (aO rd) Q ?_;simp only[Act.put];refine AnyX.tk 5 (aO (rd,1)) Q ?_;simp only[Act.put];refine AnyX.tk 6 k Q ?_;simp only[Act.put];refine AnyX.tk 7 (aK E nl cc) Q ?_;simp only[Act.put];refine AnyX.tk 8 t Q ?_;simp only[Act.put];refine AnyX.tk 9 bb Q ?_;simp only[Act.put];refine AnyX.tk 10 b' Q ?_;simp only[Act.put];refine AnyX.tk 12 t Q ?_;simp only[Act.put];refine AnyX.tk 13 (aC aD ((t:Int)+1)) Q ?_;simp only[Act.put];refine AnyX.bP (i:=11) c9 rfl (λK J=> ?_);go_simp;refine(HH w3.drew b' bm ⟨rfl,rfl,rfl,je _,λ_ _=>rfl⟩).mono ?_;rintro e w4 ⟨v4,rfl,yi,ki⟩;have b4:=hid (fJ ki);dsimp only;refine J _ _ (λ_=>HSS _ b4) ?_;have HR4:=HRT w4 b' v4 _ yi;clear J K ki Q yi;refine AnyX.bP (i:=14) c9 rfl (λK J=> ?_);go_simp;refine HR4.mono ?_;clear HR4;rintro e w5 ⟨rfl,Wl⟩;have b5:=hid (aY b4 Wl b4.size);dsimp only;refine J _ _ (λ_=>HSS _ b5) ?_;clear J K Wl b4;let⟨RT,uj⟩:=zzx (cR k (aV (bJ t b' L)) (t+1));rw[<-uj]at C yf⊢;clear uj;refine AnyX.bP (i:=15) c9 rfl (λK J=> ?_);go_simp;have aC3:=Ao ua b5.size;refine J _ _ (λ_=>HSS _ (b5.alloc b5.size _)) ?_;clear J K;have Up:=nW.below G.own b5;have jx:D.length<=1000000:=by have:=G.dl;omega
   refine AnyX.bP (i:=16) c9 rfl (λK J=> ?_);refine zCa rfl _ _ rfl (f+1) sv D rfl Up RT 1 rfl jx aC3 ?_;intro g6 aAn w6 oG Rx hgo;refine J _ _ (λh=>AnyX.fQ h c9) ?_;clear J K Up;let⟨K6,G7⟩:=G.down b5 Rx hgo oG;have e1:=K6.cell 1;have e2:=K6.frozen 1;rw[G.out.dl]at G7⊢;clear oG Rx hgo K6;refine AnyX.bP (i:=17) c9 rfl (λK J=> ?_);simp only[Act.put,Ey,Fs,Gx];go_simp;refine J _ _ (λh=>AnyX.fQ h c9) ?_;clear J K;refine AnyX.bP (i:=18) c9 rfl (λK J=> ?_);go_simp;refine J _ _ (λh=>AnyX.fQ h c9) ?_;clear J K e1 e2 p0 p3;refine AnyX.iU c9 ?_ _;have hDl:=G.dl;generalize w6.setCell (f,1) (aK g6 (t+1) aAn)=w7 at*;have hHF:=uS E L cc t bb w7 G7.tR (by have:=G.len;exact bm) G.sub.idx Z hb1;rw[<-HNL.out]at hHF;have yy:=(World.ownsRow.lt G7.own g6 rfl).2;have aC2:=G7.at'.lt;have Y:=hid G7;clear G7 b5;go_wp2_with fail;refine hHF.mono ?_;clear hHF;rintro e w8 ⟨v8,rfl,ho8,Wj⟩;dsimp only;let⟨va8,c8,hv8,_,hE8⟩:=ho8.tR;subst hv8;have G8:Hid (Cp w k I us f (t+1) (bJ t bb L) (D++[RT]) va8 (aK g6 (t+1) aAn) w8):=by
    have hl:(bJ t bb L).length<=L.length:=Ex ..;refine⟨hE8,G.sub.half bb,λu M=>G.val u (Bi.1 M).1,by have:=G.len;exact bm,by rw[At,hDl];rfl,λs hs=> ?_,?_,Y.yI.trans (Wj.mono Y.yI.size),G.lo,Y.at'.below Wj aC2,nW.below Y.own Wj,bm,λa ha h0=> ?_⟩
    .obtain hs|hs:=Bl.1 hs
     .exact G.dk s hs
     .rw[Cy.1 hs];exact yf
    .rw[G.out.way,C.out];unfold Ip;exact j0
    .have h8:=bO.lt ho8 a.block (by rw[ha];rfl);exact⟨bm,λe=>by have e:g6=a.block:=Ay e;exact bm⟩
   clear ho8 Wj hE8 Y;go_wp2;go_roundg (257-(t+1));case measure=>go_light;omega
   case rel=>go_light;exact⟨t+1,_,_,va8,c8,_,bm,j9,rfl,G8⟩
  .obtain⟨B,A,rfl⟩:∃B A,sv=aK B t A:=by
    have:=G.dl;obtain⟨e,e0⟩|⟨g,cap,_,e,_⟩:=G.own.2;{exact⟨aB,0,by rw[e];congr 1;exact bm⟩};{exact⟨_,cap,by rw[e,this]⟩}
   have hDl:=G.dl;have hDk:=G.dk;have BW:=hid G.yI;have j:=hid G.at';have OW:=hid G.own;have V:=G.lo;have m:=G.way;rw[Sm k I L _ _ bm]at m;have hE:=G.tR;have n:=G.val;have r:=G.sub.idx;have Z:=G.tle;let⟨EN,N⟩:=zzx (jP k (qP k I 256 (aV us) 0));have HEQ:=hid N;have X:=G.ap;clear G;have WT:Hid (∀(kd:Nat)(x y z:zB) W,kd<=2->x.length+y.length+z.length<=1000->EN=jP k ⟨kd,D,x,y,z⟩->zb w W->bT W f 131 #[kd,aK B t A,x,y,z]->nW W (f+1) (aK B t A) D->Hid (Yw w k f EN #[kd,aK B t A,x,y,z] W)):=λkd x y z W h1 h2 h3 h4 h5 h6=>⟨h4,h5,λW' hW'=>by have:=Ta k kd B A D x y z W' Pb U h1 (by rw[hDl];exact bm) (λs hs=>by rw[hDk s hs];exact U) h2 (nW.strs (nW.below h6 hW') rfl);rw[hDl]at this;rw[h3];exact this⟩
   obtain hL|⟨u,rfl,M⟩:(L=[]\/∃u,L=[u]/\u.idx=I)\/∃u,L=[u]/\¬u.idx=I:=by
    match L,h2 with
    |[],_=>exact aH (aH rfl)
    |[u],_=>exact(Classical.em (u.idx=I)).imp (λh=>aI ⟨u,rfl,h⟩) λh=>⟨u,rfl,h⟩
    |_::_::_,h2=>exact absurd h2 j0
   .obtain rfl|⟨u,rfl,M⟩:=hL;have C:=WT 0 [] [] [] wr bm j0 (by rw[N,m];simp[Ip,aV,CC]) BW j OW;clear m hE n r N X BW j OW WT;rotate_left;replace n:=n u j0;replace r:=r u j0;let⟨P,O,ug⟩:=u;obtain⟨g,o,rfl,hg,d0,d1,d2⟩:=hE.idx 0 _ rfl;rw[He,Eo]at d0 d1;let⟨ag,_⟩:=X _ rfl j0;clear X;dsimp only at n r d0 d1 ag M;have k0:wr.cell? f=aA (aC aD 0):=j.cell 0;have f0:=j.frozen 0;have f2:=j.frozen 2;have f3:=j.frozen 3;have f4:=j.frozen 4;have k2:wr.cell? (f,2)=aA (aL ⟨#[]⟩):=j.cell 2;have k3:wr.cell? (f,3)=aA (aL ⟨#[]⟩):=j.cell 3;have C:=WT 1 O [] [] ((wr.setCell f (aC aD 1)).setCell (f,2) (aL ⟨O.toArray⟩)) bm I0 (by rw[N,m];simp[Ip,aV,CC,M]) ((BW.setCell V _).setCell V _) ((j.bR 0 _).bR 2 _) (nW.set (nW.set OW _ _ rfl) _ _ rfl);have d1':(wr.setCell f (aC aD 1)).cell? (g,o+1)=aA (O:zY):=by{rw[World.cell?_of_block (a:=(g,o+1)) (Du _ _ _ _ ag)];exact d1};have d0':((wr.setCell f (aC aD 1)).setCell (f,2) (aL ⟨O.toArray⟩)).cell? (g,o)=aA (P:zY):=by{rw[World.cell?_of_block (a:=(g,o)) (Du _ _ _ _ ag),World.cell?_of_block (a:=(g,o)) (Du _ _ _ _ ag)];exact d0};have k2':(wr.setCell f (aC aD 1)).cell? (f,2)=aA (aL ⟨#[]⟩):=(j.bR 0 _).cell 2;have f2':=(j.bR 0 (aC aD 1)).frozen 2;have hbe:(P==I)=aF:=by{rw[M];exact Mg _};clear m hE N BW j OW M WT;go_upto_region 17 with(fail)
    generalize(wr.setCell f (aC aD 1)).setCell (f,2) (aL ⟨O.toArray⟩)=w9 at*;clear d1' k2' f2' k0 f0 f2 f3 f4 k2 k3 d0 d1;all_goals
     have QT:=quiet_of C.2.2
     have q1:=bQ (HK _ C.1) (Ao qd C.1.size)
     have KA:=C.row
     go_upto_region 21 with(fail)
     refine Em c9 c9 ?_
     repeat (any_goals(first|(refine gW rfl 131 _ rfl f rfl 131 _ _ KA ((Qz.eR 131).trans underlying131) rfl c9 ?_)|go_big_quiet_step (exact QT _ _)|quiet_step (exact QT _ _)))
     refine Dn ?_
     intro W1 hw'
     let⟨q,hq⟩:=hw'
     have hbw:Hid (zb w W1):=by rw[hq];exact C.1.trans ((Dc _ q.d q.os).mono C.1.size)
     clear hq QT q1 KA
     go_wp2
     go_ret2
     exact⟨by rw[HEQ.out];rfl,hbw⟩
   .skip;replace n:=n u j0;replace r:=r u j0;let⟨P,O,ug⟩:=u;obtain⟨g,o,rfl,hg,d0,d1,d2⟩:=hE.idx 0 _ rfl;rw[He,Eo]at d0 d1;let⟨ag,_⟩:=X _ rfl j0;clear X;dsimp only at n r d0 d1 ag M;have k0:wr.cell? f=aA (aC aD 0):=j.cell 0;have f0:=j.frozen 0;have f2:=j.frozen 2;have f3:=j.frozen 3;have f4:=j.frozen 4;have k2:wr.cell? (f,2)=aA (aL ⟨#[]⟩):=j.cell 2;have k3:wr.cell? (f,3)=aA (aL ⟨#[]⟩):=j.cell 3;have HEN:Hid (EN=jP k ⟨2,D,[],P,dg k (4::O)⟩):=by{show _=_;rw[N,m];simp[Ip,aV,CC,M]};have Rz:=iN k (4::O) U;have HH1:Hid (∀W,Calls zq 66 #[k,aL (⟨#[4]⟩++⟨O.toArray⟩)] W λe T=>e=aM (dg k (4::O))/\zb W T):=λW=>by{rw[mU];exact oI k _ W Pb U O7};generalize dg k (4::O)=dv at*;have hs1:(⟨#[4]⟩:ByteArray).size+(⟨O.toArray⟩:ByteArray).size<=1000:=by{show 1+O.toArray.size<=_;simp only[Dq];exact bm};have K8:Hid (bT ((wr.setCell f (aC aD 2)).setCell (f,3) (aL ⟨P.toArray⟩)) f 131 #[aC aD 2,aK B t A,aL ⟨#[]⟩,P,aL ⟨#[]⟩]):=(j.bR 0 _).bR 3 _;have B8:Hid (zb w ((wr.setCell f (aC aD 2)).setCell (f,3) (aL ⟨P.toArray⟩))):=(BW.setCell V _).setCell V _;have O8:Hid (nW ((wr.setCell f (aC aD 2)).setCell (f,3) (aL ⟨P.toArray⟩)) (f+1) (aK B t A) D):=nW.set (nW.set OW _ _ rfl) _ _ rfl;have d0':(wr.setCell f (aC aD 2)).cell? (g,o)=aA (P:zY):=by{rw[World.cell?_of_block (a:=(g,o)) (Du _ _ _ _ ag)];exact d0};have d1':((wr.setCell f (aC aD 2)).setCell (f,3) (aL ⟨P.toArray⟩)).cell? (g,o+1)=aA (O:zY):=by{rw[World.cell?_of_block (a:=(g,o+1)) (Du _ _ _ _ ag),World.cell?_of_block (a:=(g,o+1)) (Du _ _ _ _ ag)];exact d1};have k3':(wr.setCell f (aC aD 2)).cell? (f,3)=aA (aL ⟨#[]⟩):=(j.bR 0 _).cell 3;have f3':=(j.bR 0 (aC aD 2)).frozen 3;have hbe:(P==I)=aG:=GM.2 M;clear m hE N BW j OW M;go_upto_region 20 with(fail)
    generalize((wr.setCell f (aC aD 2)).setCell (f,3) (aL ⟨P.toArray⟩))=w8 at*;clear d0' k3' f3' k0 f0 f2 f3 f4 k2 k3 d0 d1;have r1:=HK w8 B8;have yx:=K8.lt;go_region_with (first
     |(go_at_call 66;refine(HH1 _).mono ?_;rintro e w9 ⟨rfl,hb9⟩;dsimp only;have K9:Hid (bT w9 f 131 #[aC aD 2,aK B t A,aL ⟨#[]⟩,P,aL ⟨#[]⟩]):=K8.below (fJ hb9) yx;have m4:w9.cell? (f,4)=aA (aL ⟨#[]⟩):=K9.cell 4;have n4:=K9.frozen 4))
    all_goals
     have C:=WT 2 [] P dv (w9.setCell (f,4) (aL ⟨dv.toArray⟩)) bm I0 HEN ((B8.out.trans ((fJ hb9).mono B8.size)).setCell V _) (K9.bR 4 _) (nW.set (nW.below O8 (fJ hb9)) _ _ rfl)
     generalize w9.setCell (f,4) (aL ⟨dv.toArray⟩)=wE at*
     clear m4 n4 K9 hb9 K8 B8 O8 r1 d1' HH1 WT
     have QT:=quiet_of C.2.2
     have q1:=bQ (HK _ C.1) (Ao qd C.1.size)
     have KA:=C.row
     go_upto_region 21 with(fail)
     refine Em c9 c9 ?_
     repeat (any_goals(first|(refine gW rfl 131 _ rfl f rfl 131 _ _ KA ((Qz.eR 131).trans underlying131) rfl c9 ?_)|go_big_quiet_step (exact QT _ _)|quiet_step (exact QT _ _)))
     refine Dn ?_
     intro W1 hw'
     let⟨q,hq⟩:=hw'
     have hbw:Hid (zb w W1):=by rw[hq];exact C.1.trans ((Dc _ q.d q.os).mono C.1.size)
     clear hq QT q1 KA
     go_wp2
     go_ret2
     exact⟨by rw[HEQ.out];rfl,hbw⟩
end
def Pr (first:Nat)(S:List (List bE))(ep:Int):List bE:=if fH first (zAH S) ep=aF then(S[(ep-first).toNat]?).getD []else []
def XJ (k first:Nat)(S:List (List bE))(ep:Int):zB:=if fH first (zAH S) ep=aF then cR k (aV (Pr first S ep)) 0 else []
def ZS (first:Nat)(S:List (List bE))(H:zLL)(ep:Int):zB:=if fH first (zAH S) ep=aF then(H[(ep-first).toNat]?).getD []else []
def KR (k first:Nat)(S:List (List bE))(ep:Int)(I:zB):zB:=if fH first (zAH S) ep=aF/\zAH I=32 then jP k (qP k I 256 (aV (Pr first S ep)) 0)else []
def KS (first:Nat)(S:List (List bE))(ep:Int)(I:zB):Int:=if fH first (zAH S) ep=aF then(if zAH I=32 then 0 else 1)else 4
section
variable {w w':zW}{own:Nat->Nat}{i d rd k win first R:Nat}{S:List (List bE)}{H:zLL}
def vX {ep:Int}(hk:fH first (zAH S) ep=aF):∃c us,c<zAH S/\ep=(first:Int)+c/\S[c]? =aA us/\Pr first S ep=us/\(ep-first).toNat=c:=by obtain⟨c,h,rfl⟩:=BL hk;have e:((first:Int)+c-first).toNat=c:=by{omega};refine⟨c,_,h,rfl,Be h,?_,e⟩;unfold Pr;exact ji
def zDe (h:nP w own i d k win first R S H)(ep:Int): Calls zq 21 #[aO d,ep] w (RF λx w'=>∃v,x= .tuple #[v,aC aD (AU first S ep)]/\v=aL ⟨zAL (XJ k first S ep)⟩/\zb w w'):=by let⟨m,f,t,b,cap,C,g,_⟩:=h;unfold XJ AU;cases hk:fH first (zAH S) ep with|false=>exact(zGh g (BM hk)).mono λe w' ⟨he,n⟩=>aH ji|true=>obtain⟨c,us,l,rfl,a,j,_⟩:=vX hk;rw[j];exact(zAc g a).mono ji
def zCx (h:nP w own i d k win first R S H)(ep:Int): Calls zq 16 #[aO d,ep] w (RF λx w'=>∃v,x= .tuple #[v,aC aD (AU first S ep)]/\v=aL ⟨zAL (ZS first S H ep)⟩/\zb w w'):=by let⟨m,f,t,b,cap,C,a,_⟩:=h;unfold ZS AU;cases hk:fH first (zAH S) ep with|false=>exact(zDm a (BM hk)).mono λe w' ⟨he,g⟩=>aH ji|true=>obtain⟨c,us,l,rfl,j,n,e⟩:=vX hk;have hl:c<zAH H:=by{rw[a.hlen];exact l};rw[e,Be hl];exact(zAi a ji).mono λe w' ⟨he,g⟩=>aH ⟨_,he,_,rfl,rfl,g⟩
def aMf (h:nP w own i d k win first R S H)(ep:Int): Calls zq 49 #[aO d,ep] w (RF λx w'=>∃v,x= .tuple #[v,aC aD (AU first S ep)]/\bO w' w v (Pr first S ep)/\zb w w'):=by let⟨o,f,t,b,cap,C,g,_⟩:=h;unfold AU;cases hk:fH first (zAH S) ep with|false=>unfold Pr;rw[hk];exact(aND g (BM hk)).mono λe w' ⟨he,j⟩=>aH ⟨_,he,_,rfl,bO.nil _ _,j⟩|true=>obtain⟨c,us,n,rfl,a,l,e⟩:=vX hk;rw[l];exact(aMZ g a).mono λe w' ⟨v,he,m⟩=>aH ji
def zAl (h:nP w own i d k win first R S H)(ep:Int)(I:zB)(p:zAH I<=1100000): Calls zq 24 #[aO d,ep,I] w (RF λx w'=>x= .tuple #[KR k first S ep I,aC aD (KS first S ep I)]/\zb w w'):=by let⟨o,j,t,b,cap,C,g,_⟩:=h;have f:(⟨zAL I⟩:ByteArray).size=zAH I:=by{show I.toArray.size=_;simp};unfold KR KS;cases hk:fH first (zAH S) ep with|false=>exact(XY g (BM hk) _).mono λe w' ⟨he,m⟩=>aH ji|true=>obtain⟨c,us,l,rfl,a,n,e⟩:=vX hk;by_cases tU:zAH I=32;{rw[n,AE ⟨rfl,tU⟩,AE rfl,AE tU];exact UC g a I tU};{rw[AF (λh=>tU h.2),AE rfl,AF tU];exact(TG g l ⟨zAL I⟩ (f▸tU) bm).mono λe w' ⟨he,m⟩=>aH ji}
def Uf (h:pO w own i rd k win first R S H)(ep:Int): Calls zq 48 #[aO rd,ep] w λe w'=>∃b c,e=aM (.tuple #[.agg #[aK b (zAH (Pr first S ep)) c,XJ k first S ep,ZS first S H ep],aC aD (AU first S ep)])/\bN w' b (Pr first S ep)/\zb w w':=by let⟨v,E,h⟩:=h;unfold XJ ZS AU;cases hk:fH first (zAH S) ep with|false=>unfold Pr;rw[hk];exact(XQ h ep hk).mono λe w' ⟨he,g⟩=>⟨aB,0,he,λl=>ji,g⟩|true=>obtain⟨c,us,f,rfl,a,j,e⟩:=vX hk;have hl:c<zAH H:=by{rw[h.hlen];exact f};rw[j,e,Be hl];exact DN h c us _ a ji
def XP (h:pO w own i rd k win first R S H)(ep:Int)(I:zB)(j:zAH I<=1100000):
  Calls zq 51 #[aO rd,ep,I] w λe w'=>e=aM (.tuple #[KR k first S ep I,aC aD (KS first S ep I)])/\zb w w':=by
 let⟨v,E,h⟩:=h;have b:(⟨zAL I⟩:ByteArray).size=zAH I:=by show I.toArray.size=_;simp
 unfold KR KS;cases hk:fH first (zAH S) ep with
 |false=>rw[AF (λh=>by cases h.1),AF j0];go_enter (Qz.fn func51),ntmps51;go_wp2_with fail;refine(XQ h ep hk).mono ?_;rintro e w1 ⟨rfl,hb⟩;have B:Hid (zb w (zAK w1 (aJ #[aK aB 0 0,aL ⟨#[]⟩,aL ⟨#[]⟩] 102))):=hb.alloc hb.size _;go_wp2;go_ret2;exact⟨rfl,B⟩
 |true=>obtain⟨c,us,f,rfl,a,g,e⟩:=vX hk;have hl:c<zAH H:=by{rw[h.hlen];exact f};by_cases tU:zAH I=32;{rw[g,AE ⟨rfl,tU⟩,AE rfl,AE tU];exact TC h c us _ a (Be hl) I tU};{rw[AF (λh=>tU h.2),AE rfl,AF tU];exact TD h c us _ a (Be hl) ⟨zAL I⟩ (b▸tU) bm}
end
def iI (I:zB):bE:=⟨I,[109,105,110,101],aF⟩
def jG (w:zW)(F:zP)(r:pT):Prop:=∃b len cap,r.1=aK b len cap/\len<=10000/\bN w b (List.replicate len (iI r.2))/\∀a,b=aA a->0<len->F a.block/\∃cs fr,w.heap[a.block]? =aA (aJ cs 53 fr)
structure dG (w:zW)(F:zP)(bk n:Nat)(v:zY)(rs:List pT):Prop where
 at':bT w bk 68 #[n,v]
 own:Co w 0 v rs
 len:rs.length<=4*n
 row:∀r∈rs,jG w F r
 wL:F bk/\∀g,v.ownBlock=aA g->F g
section
variable {w w':zW}{F G:zP}{bk n:Nat}{v:zY}{rs:List pT}
theorem jG.kept {r:pT}(h:jG w F r)(hs:w.heap.size<=w'.heap.size)(hk:∀x,F x->x<w.heap.size->w'.heap[x]? =w.heap[x]?):jG w' (λx=>x<w.heap.size/\F x) r:=by let⟨d,len,cap,e,hl,k,hF⟩:=h;refine⟨d,len,cap,e,hl,k.kept hs λg o e i f=>hk g (hF _ e (by simpa using f.2)).1 i,λa j l=> ?_⟩;let⟨c,cs,fr,b⟩:=hF a j l;have hlt:=(Ax.1 b).1;exact⟨⟨hlt,c⟩,cs,fr,(hk _ c hlt).trans b⟩
def jG.mono {r:pT}(h:jG w F r)(f:∀x,F x->G x):jG w G r:=by let⟨d,len,cap,e,hl,g,hF⟩:=h;exact⟨d,len,cap,e,hl,g,λa b c=>⟨f _ (hF a b c).1,(hF a b c).2⟩⟩
theorem dG.kept (h:dG w F bk n v rs)(hs:w.heap.size<=w'.heap.size)(hk:∀x,F x->x<w.heap.size->w'.heap[x]? =w.heap[x]?):dG w' (λx=>x<w.heap.size/\F x) bk n v rs:=by refine⟨(hk bk h.wL.1 h.at'.lt).trans h.at',⟨h.own.1,?_⟩,h.len,λr b=>(h.row r b).kept hs hk,⟨h.at'.lt,h.wL.1⟩,λg a=>⟨(World.ownsRow.lt h.own g a).2,h.wL.2 g a⟩⟩;obtain e|⟨g,cap,cur,e,hb,a,r⟩:=h.own.2;{exact aH e};.exact aI ⟨g,cap,cur,e,hb,(hk g (h.wL.2 g (by rw[e];rfl)) (Ax.1 a).1).trans a,r⟩
def dG.mono (h:dG w F bk n v rs)(a:∀x,F x->G x):dG w G bk n v rs:=⟨h.at',h.own,h.len,λr b=>(h.row r b).mono a,a _ h.wL.1,λg c=>a _ (h.wL.2 g c)⟩
def dG.pj (h:dG w F bk n v rs):∃a cap,v=aK a rs.length cap/\∀(i:Nat) r,rs[i]? =aA r->∃g,a=aA ⟨g,0,aB⟩/\g<w.heap.size/\w.cell? ⟨g,i*2,aB⟩=aA r.1/\w.cell? ⟨g,i*2+1,aB⟩=aA (aL ⟨r.2.toArray⟩):=by obtain⟨e,c⟩|⟨g,cap,cur,e,hb,b,f,a2,a3,a4⟩:=h.own.2;{exact⟨aB,0,by rw[e,c],λi r hi=>by rw[Hr c]at hi;cases hi⟩};.refine⟨aA g,cap,e,λi r hi=>⟨g,rfl,(Ax.1 b).1,?_⟩⟩;have hlt:=(Bx.1 hi).1;have k:∀j,j<2->w.cell? (g,i*2+j)=(lD r)[j]? :=λj d=>by{rw[Eh w g _ cur _ (0,0) b,<-QG rs i _ hi j d,<-a4,GK,AE bm,Ew]};exact⟨k 0 bm,k 1 bm⟩
theorem dG.rows (h:dG w F bk n v rs):∃a cap,v=aK a rs.length cap/\∀t,t<rs.length->∃g b len cp,∃I:zB,a=aA ⟨g,0,aB⟩/\g<w.heap.size/\len<=10000/\∀W,zb w W->W.cell? ⟨g,t*2,aB⟩=aA (aK b len cp)/\W.cell? ⟨g,t*2+1,aB⟩=aA (aL ⟨I.toArray⟩)/\bN W b (List.replicate len (iI I)):=by let⟨a,cap,i,j⟩:=h.pj;refine⟨a,cap,i,λt f=> ?_⟩;let⟨g,o,d,m,l⟩:=j t _ (Be f);let⟨b,len,cp,e,hl,k,_⟩:=h.row _ (Fp f);exact⟨g,b,len,cp,_,o,d,hl,λW c=>⟨by rw[c.cell d,m,e],by rw[c.cell d];exact l,k.below c (je _)⟩⟩
def Oi (h:dG w F bk n v rs)(N:n<=2000000): Calls zq 30 #[aO bk] w λe w'=>e=aM (.bool aF)/\zb w w':=by let⟨i,cap,k,r⟩:=h.rows;have hlen:=h.len;have H:Hid (∀W,zb w W->W.cell? (bk,1)=aA (aK i (zAH rs) cap)):=λW b=>by{rw[b.cell h.at'.lt,h.at'.cell 1,k];rfl};generalize zAH rs=m at*;have z:=hid r;go_enter (Qz.fn func30),ntmps30;go_wp2;go_loopg [3] m (λq x wr=>∃t:Nat,t+q=m/\x=aC aD t/\zb w wr);(case atStart=>exact⟨0,bm,rfl,Av _ _⟩);case round=>obtain⟨t,L,rfl,d⟩:=hrel;have f:=hid d;have j:=H wr d;by_cases hlt:t<m;{have o:¬((t:Int)<0):=bm;obtain⟨g,D,len,cp,I,rfl,O,l,b⟩:=z t hlt;have y:=hid b;generalize wr=C at*;go_wp2_with fail;go_loopg [4] len (λq x wr=>∃s:Nat,s+q=len/\x=aC aD s/\zb w wr);(case atStart=>exact⟨0,bm,rfl,f⟩);case round=>obtain⟨s,M,rfl,c⟩:=hrel;have B:=hid c;have j:=H wr c;let⟨J,E,u⟩:=y wr c;by_cases a:s<len;{obtain⟨P,K,rfl,p,c0,c1,c2⟩:=u.idx s (iI I) (by rw[Na,AE a]);unfold iI at c0 c1 c2;dsimp only at c0 c1 c2;have A:=hid B.drew;go_upto_region 7 with(fail);go_region;all_goals go_wp2;go_roundg (len-(s+1));(case measure=>go_light;omega);case rel=>go_light;exact⟨s+1,bm,j9,A⟩};.obtain rfl:s=len:=bm;go_wp2;go_roundg (m-(t+1));(case measure=>go_light;omega);case rel=>go_light;exact⟨t+1,bm,j9,B⟩};.obtain rfl:t=m:=bm;go_wp2;go_ret;exact⟨rfl,f⟩
end
section
variable {w w' w2:zW}{F:zP}{bk m base:Nat}{v v2 gv:zY}{rs:List pT}{r:pT}{I:zB}
def jG.of (h:bO w base gv (List.replicate m (iI I)))(d:m<=10000)(hF:∀x,base<=x->F x):jG w F (gv,I):=by let⟨b,c,e,_,f⟩:=h.tR;rw[Dm]at e;refine⟨b,m,c,e,d,f,λa k l=> ?_⟩;obtain⟨i,_⟩|⟨g,cap,cur,i,hb,j,_⟩:=h.2;all_goals grind
def qL (g:Option Nat)(m:Nat)(I:zB)(r:pT):Prop:=∀b len cap a,r.1=aK b len cap->b=aA a->0<len->g=aA a.block->a=(a.block,0)/\len<=m/\r.2=I
def qL.of (h:bO w base gv (List.replicate m (iI I))):qL gv.ownBlock m I (gv,I):=λd len cap a e i j f=>by obtain⟨b,_⟩|⟨g,c,cur,b,_⟩:=h.2;all_goals grind
theorem jG.lt {va:zO}{len cap:Nat}{a:Addr}(h:jG w F r)(e:r.1=aK va len cap)(d:va=aA a)(f:0<len):a.block<w.heap.size:=by let⟨b,l,c,g,_,_,hF⟩:=h;exact ji
def jG.grow {g cap:Nat}(h:jG w F r)(y:qL gv.ownBlock m I r)(u:bO w' base (aK g (m+1) cap) (List.replicate (m+1) (iI I)))(H:gv.ownBlock=aA g/\w.grownBy w' (aA g)\/w.heap.size<=g/\w.grownBy w' aB):jG w' F r/\qL (aA g) (m+1) I r:=by have hh:=h;let⟨t,len,f,e,hl,z,hF⟩:=h;obtain⟨q,j⟩|⟨q,j⟩:=H;{refine⟨⟨t,len,f,e,hl,?_,λa n d=> ?_⟩,λi l c a C n d b=> ?_⟩;{intro d;have s:0<len:=ji;let⟨L,N,B,G,_⟩:=z d;by_cases b:L=g;{subst b;let⟨o,M,A⟩:=y t len f _ e B s q;injection o with _ o _;let⟨D,c2,k,_,p⟩:=u.tR;injection k with k _ _;have:=p.part len;rw[List.take_replicate,Nx bm,<-k,<-A]at this;rw[B,o];exact this d};{exact z.kept j.size (by grind[World.grownBy.block]) d}};{obtain⟨K,cs,fr,J⟩:=hF a n d;refine⟨K,?_⟩;by_cases b:a.block=g;{obtain⟨k,_⟩|⟨O,c,cur,k,_,E,_⟩:=u.2;all_goals grind};.exact⟨cs,fr,(j.block _ ji ji).trans J⟩};.obtain⟨o,M,A⟩:=y i l c a C n d (q.trans b);exact ji};.refine⟨(hh.kept j.size λx _ b=>j.block x b j0).mono λx b=>b.2,λi l c a C n d b=> ?_⟩;exact ji
def dG.apart {n:Nat}(h:dG w F bk n v rs):v.ownBlock≠aA bk:=λe=>by obtain⟨a,_⟩|⟨g,cap,cur,a,_,d,_⟩:=h.own.2;{rw[a]at e;cases e};.rw[a]at e;have c:g=bk:=Ay e;subst c;have b:=h.at';unfold bT at b;exact ji
theorem dG.clear {n:Nat}(h:dG w F bk n v rs){g:Nat}{cs:zA}{fr:Nat×Nat}(d:w.heap[g]? =aA (aJ cs 53 fr)):g≠bk/\v.ownBlock≠aA g:=by refine⟨λe=> ?_,λe=> ?_⟩;{subst e;have b:=h.at';unfold bT at b;exact ji};.obtain⟨a,_⟩|⟨f,cap,cur,a,_,c,_⟩:=h.own.2;{rw[a]at e;cases e};.rw[a]at e;have i:=Ay e;exact ji
theorem dG.XH {n:Nat}(h:dG w F bk n v rs)(hs:w.heap.size<=w2.heap.size)(hold:∀x,x<w.heap.size->x≠bk->v.ownBlock≠aA x->w2.heap[x]? =w.heap[x]?){y:pT}(c:jG w F y):jG w2 F y:=by let⟨b,len,cap,e,hl,d,hF⟩:=c;have k:∀a,b=aA a->0<len->w2.heap[a.block]? =w.heap[a.block]? :=by{grind[clear]};refine⟨b,len,cap,e,hl,d.kept hs ji,λa f g=> ?_⟩;exact ji
def dG.num {n:Nat}(h:dG w F bk n v rs):dG (zAJ w bk (aC aD ((n:Int)+1))) F bk (n+1) v rs:=by have a:∀x,x≠bk->(zAJ w bk (aC aD ((n:Int)+1))).heap[x]? =w.heap[x]? :=by{grind[Eg]};refine⟨?_,⟨h.own.1,?_⟩,by have:=h.len;exact bm,λy b=>h.XH j1 ji (h.row y b),h.wL⟩;{have:=h.at'.bR 0 (aC aD ((n:Int)+1));exact j5};.obtain e|⟨g,cap,cur,e,hb,hh,rest⟩:=h.own.2;{exact aH e};.exact aI ⟨g,cap,cur,e,hb,(a g λc=>h.apart (by rw[e,c];rfl)).trans hh,rest⟩
def dG.grow {n g cap:Nat}(h:dG w F bk n v rs)(l:∀r∈rs,qL gv.ownBlock m I r)(d:bO w base gv (List.replicate m (iI I)))(k:bO w' base (aK g (m+1) cap) (List.replicate (m+1) (iI I)))(f:gv.ownBlock=aA g/\w.grownBy w' (aA g)\/w.heap.size<=g/\w.grownBy w' aB):dG w' F bk n v rs/\∀r∈rs,qL (aA g) (m+1) I r:=by have o:∀x,x<w.heap.size->(x=bk\/v.ownBlock=aA x)->w'.heap[x]? =w.heap[x]? :=λx q t=>by{obtain⟨b,p⟩|⟨b,p⟩:=f;{refine p.block x q λe=> ?_;have e:=Ay e;subst e;obtain⟨j,_⟩|⟨i,c,cur,j,_,s,_⟩:=d.2;{rw[j]at b;cases b};.rw[j]at b;have u:=Ay b;grind[clear]};grind[World.grownBy.block]};refine⟨⟨(o bk h.at'.lt (aH rfl)).trans h.at',⟨h.own.1,?_⟩,h.len,λr a=>((h.row r a).grow (l r a) k f).1,h.wL⟩,λr a=>((h.row r a).grow (l r a) k f).2⟩;obtain e|⟨i,c,cur,e,hb,hh,rest⟩:=h.own.2;{exact aH e};.exact aI ⟨i,c,cur,e,hb,(o i ji (aI (by rw[e];rfl))).trans hh,rest⟩
def dG.snoc {n:Nat}(h:dG w F bk n v rs)(p:jG w F r)(hl:zAH rs+1<=4*n)(c:w.grownBy w2 v.ownBlock)(f:Co w2 0 v2 (rs++[r]))(o:∀g,v2.ownBlock=aA g->F g/\g≠bk): bT w2 bk 68 #[n,v]/\dG (zAJ w2 (bk,1) v2) F bk n v2 (rs++[r])/\∀x,x<w.heap.size->x≠bk->v.ownBlock≠aA x->(zAJ w2 (bk,1) v2).heap[x]? =w.heap[x]? :=by have i:=h.at'.grown c λe=>h.apart e.symm;have a:∀x,x≠bk->(zAJ w2 (bk,1) v2).heap[x]? =w2.heap[x]? :=by{grind[Eg]};have k:(zAJ w2 (bk,1) v2).heap.size=w2.heap.size:=by{simp_all};have hold:∀x,x<w.heap.size->x≠bk->v.ownBlock≠aA x->(zAJ w2 (bk,1) v2).heap[x]? =w.heap[x]? :=λx j l f=>(a x l).trans (c.block x j ji);have b:∀y,jG w F y->jG (zAJ w2 (bk,1) v2) F y:=by{grind[XH,World.grownBy.size]};refine⟨i,⟨i.bR 1 v2,⟨f.1,?_⟩,ji,λy d=> ?_,h.wL.1,ji⟩,hold⟩;{obtain e|⟨g,cap,cur,e,hb,hh,rest⟩:=f.2;{exact aH e};.exact aI ⟨g,cap,cur,e,hb,(a g (o g (by rw[e];rfl)).2).trans hh,rest⟩};.obtain d|d:=Bl.1 d;{exact b y (h.row y d)};exact ji
end
section
variable {w0 w w':zW}{F:zP}{bk n:Nat}{v:zY}{rs:List pT}
structure gR (w0 w:zW)(F G:zP)(bk n m:Nat)(I:zB)(gx:Nat)(v gv:zY)(rs:List pT)(us:List bE)(wr:zW):Prop where
 book:dG wr G bk n v rs
 len:rs.length<=m
 own:bO wr w0 gv us
 x:bT wr gx 53 #[I,aL ⟨#[109,105,110,101]⟩,aF]
 gx:w.heap.size<=gx/\gv.ownBlock≠aA gx
 save:dA F w0 wr
def SC {wr w2:zW}{lv:zY}{us:List bE}{I:zB}(d:dG w0 F bk n v rs)(l:zb w0 w)(hl:bO w w0 lv us)(hF:∀x,F x->x<w0.heap.size)(j:zb w wr)(i:Below (zAJ wr bk (aC aD ((n:Int)+1))).heap.size (zAJ wr bk (aC aD ((n:Int)+1))) w2):
  gR w0 w F F bk (n+1) (4*n) I w2 v lv rs us (zAK w2 (aJ #[I,aL ⟨#[109,105,110,101]⟩,aF] 53)):=by
 have c:(zAJ wr bk (aC aD ((n:Int)+1))).heap.size=wr.heap.size:=by simp[zAJ]
 have h:=l.trans (j.mono l.size);have f:zb w2 (zAK w2 (aJ #[I,aL ⟨#[109,105,110,101]⟩,aF] 53)):=(Av _ _).alloc (je _) _;have a:=aY i f i.size;have hlt:=λg q=>(bO.lt hl g q).2;have z:=j.size;have z2:=i.size;rw[c]at z2;refine⟨(((d.kept h.size λx _ b=>h.block x b).mono λx b=>b.2).num.kept a.size λx _ b=>a.block x b).mono λx b=>b.2,d.len,((hl.below j (je _)).setCell _ _ (hF bk d.wL.1)).below a (je _),bT.new _ _ _,⟨bm,λe=>by have:=hlt _ e;exact bm⟩,⟨a.os.trans h.os,a.tape.trans h.tape,a.output.trans h.output,by have:=a.size;exact G9,λk p o=> ?_⟩⟩;rw[a.block k (by rw[c];exact G9),Du _ _ _ _ (λe=>o (by rw[e];exact d.wL.1)),h.block k p]
section
variable {G:zP}{N m gx:Nat}{I:zB}{gv:zY}{us:List bE}{wr w4:zW}
def gR.put {g t lc:Nat}{u:List bE}(h:gR w0 w F F bk N m I gx v (aK g t lc) rs us wr)(hF:∀x,F x->x<w0.heap.size)(d:bO w4 w0 (aK g t lc) u)(a:wr.grownBy w4 (aA g)):gR w0 w F F bk N m I gx v (aK g t lc) rs u w4:=by have i:=(bO.lt h.own g rfl).1;have b:∀x,F x->x<wr.heap.size->w4.heap[x]? =wr.heap[x]? :=λx c hlt=>a.block x hlt λe=>by{have:=hF x c;have:=Ay e;omega};refine⟨(h.book.kept a.size b).mono λx c=>c.2,h.len,d,h.x.grown a λe=>h.gx.2 e.symm,h.gx,⟨a.os.trans h.save.os,a.tape.trans h.save.tape,a.output.trans h.save.output,Az h.save.size a.size,λk b f=>(a.block k (Ao b h.save.size) λe=>by have:=Ay e;exact bm).trans (h.save.block k b f)⟩⟩
def cw (u:bE)(us:List bE)(s:Nat)(h:s<zAH us):(List.replicate s u++us.drop s).set s u=List.replicate (s+1) u++us.drop (s+1):=X1
def gR.wide (h:gR w0 w F F bk N m I gx v gv rs us wr):gR w0 w F (λx=>F x\/w0.heap.size<=x) bk N m I gx v gv rs us wr:=⟨h.book.mono λx a=>aH a,h.len,h.own,h.x,h.gx,h.save⟩
theorem gR.row (h:gR w0 w F G bk N m I gx v gv rs us wr){g:Nat}(e:gv.ownBlock=aA g):∃cs,wr.heap[g]? =aA (aJ cs 53 (0,0)):=by obtain⟨a,_⟩|⟨c,cap,cur,a,_,b,_⟩:=h.own.2;{rw[a]at e;cases e};.rw[a]at e;rw[<-Ay e];exact⟨cur,b⟩
def gR.aCe {M:Nat}(h:gR w0 w F F bk N m I gx v gv rs us wr)(hF:∀x,F x->x<w0.heap.size):∀r∈rs,qL gv.ownBlock M I r:=λr f q len cap a e i k g=>by let⟨d,l,c,b,_,_,j⟩:=h.book.row r f;rw[e]at b;injection b with p o _;subst p o;have:=hF _ (j a i k).1;have:=(bO.lt h.own _ g).1;exact bm
def gR.snoc {w':zW}{c cap' M:Nat}(h:gR w0 w F (λx=>F x\/w0.heap.size<=x) bk N m I gx v gv rs (List.replicate M (iI I)) wr)(u:M<=10000)(z:m+1<=4*N)(b:wr.drew.grownBy w' v.ownBlock)(s:Co w' 0 (aK c (zAH rs+1) cap') (rs++[(gv,I)]))(d:v.ownBlock=aA c\/c=wr.drew.heap.size+1): bT w' bk 68 #[N,v]/\gR w0 w F (λx=>F x\/w0.heap.size<=x) bk N (m+1) I gx (aK c (zAH rs+1) cap') gv (rs++[(gv,I)]) (List.replicate M (iI I)) (zAJ w' (bk,1) (aK c (zAH rs+1) cap')):=by have a:wr.grownBy w' v.ownBlock:=⟨b.os,b.tape,b.output,b.size,λk i h=>b.block k i h⟩;have t:wr.drew.heap.size=wr.heap.size:=rfl;have hl:=h.len;let⟨k1,y,hold⟩:=h.book.snoc (jG.of h.own u λx r=>aI r) bm a s λg e=>by{have e:c=g:=Ay e;subst e;obtain d|d:=d;{exact⟨h.book.wL.2 _ d,λe=>h.book.apart (by rw[d,e])⟩};{have:=h.save.size;have:=h.book.at'.lt;exact⟨aI bm,bm⟩}};have o:(zAJ w' (bk,1) (aK c (zAH rs+1) cap')).heap.size=w'.heap.size:=by{simp[zAJ]};refine⟨k1,⟨y,by rw[At,Ie];exact bm,h.own.kept λg e=> ?_,?_,h.gx,⟨a.os.trans h.save.os,a.tape.trans h.save.tape,a.output.trans h.save.output,by rw[o];exact Az h.save.size a.size,λk i p=> ?_⟩⟩⟩;{obtain⟨cs,q⟩:=h.row e;let⟨l,j⟩:=h.book.clear q;exact hold g (Ax.1 q).1 l j};{obtain⟨l,j⟩:=h.book.clear h.x;exact(hold gx h.x.lt l j).trans h.x};.refine(hold k (Ao i h.save.size) (λe=> ?_) λe=> ?_).trans (h.save.block k i p);{obtain f|f:=h.book.wL.1;{exact p (e▸f)};.exact bm};.obtain f|f:=h.book.wL.2 k e;{exact p f};.exact bm
def gR.grow {W w':zW}{g cap M:Nat}(h:gR w0 w F (λx=>F x\/w0.heap.size<=x) bk N m I gx v gv rs (List.replicate M (iI I)) wr)(p:∀r∈rs,qL gv.ownBlock M I r)(c:zb wr W)(l:bO W w0 gv (List.replicate M (iI I)))(o:bO w' w0 (aK g (M+1) cap) (List.replicate (M+1) (iI I)))(q:gv.ownBlock=aA g/\W.grownBy w' (aA g)\/W.heap.size<=g/\W.grownBy w' aB): gR w0 w F (λx=>F x\/w0.heap.size<=x) bk N m I gx v (aK g (M+1) cap) rs (List.replicate (M+1) (iI I)) w'/\∀r∈rs,qL (aA g) (M+1) I r:=by have s:=(h.book.kept c.size λx _ j=>c.block x j).mono λx j=>j.2;let⟨A,y⟩:=s.grow p l o q;have z:=(bO.lt o g rfl).1;have t:=c.size;have b:g≠gx:=λe=>by{obtain⟨u,_⟩|⟨u,_⟩:=q;{exact h.gx.2 (by rw[u,e])};{have:=h.x.lt;omega}};have a:W.grownBy w' (aA g):=by{obtain⟨_,d⟩|⟨_,d⟩:=q;{exact d};{exact⟨d.os,d.tape,d.output,d.size,λk i _=>d.block k i j0⟩}};refine⟨⟨A,h.len,o,(h.x.below c h.x.lt).grown a λe=>b (Ay e).symm,⟨h.gx.1,λe=>b (Ay e)⟩,⟨a.os.trans (c.os.trans h.save.os),a.tape.trans (c.tape.trans h.save.tape),a.output.trans (c.output.trans h.save.output),Az h.save.size (Az t a.size),λk i p=> ?_⟩⟩,y⟩;have f:=Ao i h.save.size;exact(a.block k (Ao f t) λe=>by have:=Ay e;exact bm).trans ((c.block k f).trans (h.save.block k i p))
end
def Tb (X:dG w0 F bk n v rs)(hF:∀x,F x->x<w0.heap.size)(hb:zb w0 w)(lv:zY)(us:List bE)(hl:bO w w0 lv us)(va:zO)(c:Nat)(hE:bN w va us)(Wa:zAH us<=2000)(hn:n<=2000000):
  Calls zq 50 #[aO bk,lv,aK va (zAH us) c] w λe w'=>e=aM (.bool aF)/\∃v' B,dG w' (λx=>F x\/w0.heap.size<=x) bk (n+1) v' B/\dA F w0 w':=by
 let⟨f,lc,O,hlc,V⟩:=hl.tR;have HB:=hid X;have jb:=hid hb;have H:=hid hF;have HL:=hid hl;have HE:=hid hE;have HEL:=hid V;have hz:=hb.size;obtain⟨P,hP⟩:∃P:Ending->zW->Prop,P=λe w'=>e=aM (.bool aF)/\∃v' B,dG w' (λx=>F x\/w0.heap.size<=x) bk (n+1) v' B/\dA F w0 w':=⟨_,rfl⟩;have HP:=hid hP;rw[<-hP];let⟨m,hm⟩:=zzx (zAH us);have HM:=hid hm;rw[<-hm]at Wa O hlc⊢;have Wi:=Ao X.at'.lt hz;have HKB:=hid (X.at'.below hb X.at'.lt);subst O;clear X hb hl hE V hP hm hF;go_enter (Qz.fn func50),ntmps50;go_wp2;go_loopg [7,8] m (λq ok i wr=>∃t:Nat,t+q=m/\i=aC aD t/\ok= .bool aF/\zb w wr);case atStart=>exact⟨0,bm,rfl,j0,Av _ _⟩
 case round=>
  obtain⟨t,ht,rfl,rfl,b1⟩:=hrel
  have J:=hid b1
  clear b1
  by_cases hlt:t<m
  .have Q:t<zAH us:=by{rw[<-HM.out];exact hlt};have hu:=Be (l:=us) (i:=t) Q;generalize us[t]=u at*;let⟨ui,uv,ug⟩:=u;obtain⟨g,o,rfl,hg,c0,c1,c2⟩:=(HEL.below J (je _)).idx t _ hu;obtain⟨g',o',rfl,hg',d0,d1,d2⟩:=(HE.below J (je _)).idx t _ hu;have qh:(t:Int)<m:=bm;have BD:=hid J.drew;clear hu;dsimp only at c0 c1 c2 d0 d1 d2;go_upto_region 5 with(fail)
   go_region;all_goals
    go_wp2
    go_roundg (m-(t+1))
    case measure=>go_light;omega
    case rel=>go_light;exact⟨t+1,bm,j9,j0,BD⟩
  .obtain rfl:t=m:=bm;have qh:¬((t:Int)<t):=bm;have K1:=hid (HKB.below J Wi);have q0:=K1.cell 0;have z0:=K1.frozen 0;go_wp2_with fail;have M1:=Vh (n+1) (zAJ wr bk (aC aD ((n:Int)+1))) bm;rw[show((n+1:Nat):Int)=(n:Int)+1 from bm]at M1;refine M1.mono ?_;clear M1;rintro e w2 ⟨I,rfl,hI,U⟩;dsimp only;have Z:Hid (gR w0 w F F bk (n+1) (4*n) I w2 v (aK f t lc) rs us (zAK w2 (aJ #[I,aL ⟨#[109,105,110,101]⟩,aF] 53))):=SC HB jb HL H J U;clear U K1 q0 z0 HB jb HL J HE HEL HKB;go_upto_region 8 with(fail)
   have HGX:∃gx,w2.heap.size=gx:=⟨_,rfl⟩;let⟨gx,R⟩:=HGX;rw[R]at Z⊢;generalize zAK w2 (aJ #[I,aL ⟨#[109,105,110,101]⟩,aF] 53)=w3 at*;clear R;go_wp2;go_loopg [10] t (λq i wr=>∃s:Nat,s+q=t/\i=aC aD s/\gR w0 w F F bk (n+1) (4*n) I gx v (aK f t lc) rs (List.replicate s (iI I)++us.drop s) wr);case atStart=>exact⟨0,bm,rfl,Z⟩
   case round=>
    obtain⟨s,hs,rfl,tk⟩:=hrel
    have T:=hid tk
    clear tk
    by_cases GQ:s<t
    .have M:s<zAH us:=by{rw[<-HM.out];exact GQ};have hlen:zAH (List.replicate s (iI I)++us.drop s)=t:=by rw[At,Dm,GL,<-HM.out];omega
     obtain⟨g,rfl⟩:∃g:Nat,f=aA (g:Addr):=by let⟨g,cap,e⟩:=T.own.form bm;injection e with e _ _;exact⟨g,e⟩
     have HNX:Hid ((List.replicate s (iI I)++us.drop s).set s (iI I)=List.replicate (s+1) (iI I)++us.drop (s+1)):=cw _ us s M;have own:=T.own;generalize List.replicate s (iI I)++us.drop s=L at*;go_wp2_with (first|(refine Dx rfl 53 _ rfl gx rfl 53 _ (0,0) _ T.x ((Qz.eR 53).trans underlying53) rfl c9 ?_)|(refine vL rfl _ _ rfl w0 g t lc L own s bm (iI I) rfl rfl ?_;intro w4 ho b));go_roundg (t-(s+1));case measure=>go_light;omega
     case rel=>go_light;exact⟨s+1,bm,j9,by rw[<-HNX.out];exact T.put H ho b⟩
    .obtain rfl:s=t:=by omega
     have y:Hid (gR w0 w F (λx=>F x\/w0.heap.size<=x) bk (n+1) (4*n) I gx v (aK f s lc) rs (List.replicate s (iI I)) wr):=by have:=T.wide;rw[HM.out,List.drop_length,Bj,<-HM.out]at this;exact this
     have q1:wr.cell? (bk,1)=aA v:=y.book.at'.cell 1;have z1:=y.book.at'.frozen 1;have x0:wr.cell? gx=aA (I:zY):=y.x.cell 0;have own:=y.book.own;have C:zAH rs<=10000000:=by{have:=y.len;exact bm};have Y:Hid (∀r∈rs,qL (Value.slice f s lc).ownBlock s I r):=T.aCe H;clear T;have K:(zAK wr (aJ #[aK f s lc,I] 109)).cell? (bk,1)=aA v:=by{rw[World.cell?_alloc_lt _ _ _ y.out.book.at'.lt];exact q1};go_upto_region 12 with(fail)
     go_region_law ((refine rN (W:=wr.drew) I2 _ _ I2 0 v rs I2 own (aK f s lc,I) 1 I2 I2 C (Cw _) ?_;intro g' d w' a b p;let⟨kb,T2⟩:=y.snoc bm bm b a p;have e1:w'.cell? (bk,1)=aA v:=kb.cell 1;have e2:=kb.frozen 1));all_goals
      have T3:=hid T2
      have N3:Hid (∀r∈rs++[((aK f s lc,I):pT)],qL (Value.slice f s lc).ownBlock s I r):=λr h=>by obtain h|h:=Bl.1 h;{exact Y r h};{rw[Cy.1 h];exact qL.of y.own}
      generalize zAJ w' (bk,1) (aK g' (zAH rs+1) d)=w5 at*
      generalize rs++[((aK f s lc,I):pT)]=rs2 at*
      generalize(aK g' (zAH rs+1) d:zY)=v2 at*
      clear T2 kb e1 e2 a b p q1 z1 x0 own K y Y
      go_wp2
      go_loopg [11,12] 3 (λq gv k wr=>∃j:Nat,j+q=3/\k=aC aD j/\∃v rs,gR w0 w F (λx=>F x\/w0.heap.size<=x) bk (n+1) (4*n+1+j) I gx v gv rs (List.replicate (s+j) (iI I)) wr/\∀r∈rs,qL gv.ownBlock (s+j) I r)
      case atStart=>exact⟨0,bm,rfl,v2,rs2,T3,N3⟩
      case round=>
       obtain⟨j,hj,rfl,v3,A,tk,nb⟩:=hrel
       have T:=hid tk
       have Y:=hid nb
       clear tk nb
       by_cases hjl:j<3
       .have hj1:(j:Int)<3:=bm;have own:=T.own;let⟨g6,z,w6,h,D,S⟩:=zCe (bO.alloc own (aJ #[I,aL ⟨#[109,105,110,101]⟩,aF] 53)) 48 (iI I) wr.heap.size 1 (bT.new wr 53 _) N7 (by rw[size_alloc];exact Az T.save.size (Hi _));rw[Dm,<-Mk]at D;rw[Dm]at h;let⟨t6,n6⟩:=T.grow Y ((Av _ _).alloc (je _) _) (bO.alloc own _) D S;have E:=hid t6;have N6:=hid n6;clear t6 n6 own D S;go_wp2_with (first|(refine Dx rfl 53 _ rfl gx rfl 53 _ (0,0) _ T.x ((Qz.eR 53).trans underlying53) rfl c9 ?_)|(at_builtin;refine yK rfl _ _ 48 48 rfl _ _ rfl rfl h ?_));have q1:w6.cell? (bk,1)=aA v3:=E.book.at'.cell 1;have x0:w6.cell? gx=aA (I:zY):=E.x.cell 0;have C:zAH A<=10000000:=by{have:=E.len;exact bm};have K:(zAK w6 (aJ #[aK g6 (s+j+1) z,I] 109)).cell? (bk,1)=aA v3:=by rw[World.cell?_alloc_lt _ _ _ E.out.book.at'.lt];exact q1
        clear h T Y;go_region_law ((refine rN (W:=w6.drew) I2 _ _ I2 0 v3 A I2 E.book.own (aK g6 (s+j+1) z,I) 1 I2 I2 C (Cw _) ?_;intro g' d w' a b p;let⟨kb,T2⟩:=E.snoc bm bm b a p;have e1:w'.cell? (bk,1)=aA v3:=kb.cell 1;have e2:=kb.frozen 1));all_goals
         go_wp2
         go_roundg (3-(j+1))
         case measure=>go_light;omega
         case rel=>
          go_light
          refine⟨j+1,bm,j9,_,_,T2,λr h=> ?_⟩
          obtain h|h:=Bl.1 h
          .exact N6 r h
          .rw[Cy.1 h];exact qL.of E.own
       .obtain rfl:j=3:=bm;go_wp2;rw[HP.out];exact⟨rfl,v3,A,T.book,T.save⟩
end
def gr {first:Nat}{S:List (List bE)}(h:∀us∈S,zAH us<=2000)(ep:Int):zAH (Pr first S ep)<=2000:=by unfold Pr;split;{cases a:S[(ep-first).toNat]? with|none=>simp|some us=>exact h us (Ek a)};.exact j0
def Ps {w:zW}{g:Nat}{va:zO}{us:List bE}(h:bN w va us)(hk:bT w g 102 #[aK aB 0 0,aL ⟨#[]⟩,aL ⟨#[]⟩])(x y z:zY):bN (zAJ (zAJ (zAJ w g x) (g,1) y) (g,2) z) va us:=by refine h.kept n9 λf o e q c=> ?_;have a:f≠g:=λm=>by{subst m;obtain⟨u,d⟩:∃u,us[0]? =aA u:=⟨_,Be c.2⟩;let⟨r,p,b,_,_,_,c2⟩:=h.idx 0 u d;rw[e]at b;injection b with b;injection b with b l;subst b l;rw[hk.cell]at c2;have:=Ih c2;simp at this};rw[Du _ _ _ _ a,Du _ _ _ _ a,Du _ _ _ _ a]
section
variable {w w':zW}{own own':Nat->Nat}{P:zP}{i j z pp bk k win R n nb:Nat}
def nX (w:zW)(own:Nat->Nat)(z bk n:Nat):Prop:=∃v rs,dG w (λx=>x<w.heap.size/\own x=z) bk n v rs
def nX.eD (h:nX w own z bk n)(b:eJ P own own' w w')(hz:¬P z):nX w' own' z bk n:=by let⟨v,rs,h⟩:=h;refine⟨v,rs,(h.kept b.save.size λx a _=>b.block a.1 (a.2▸hz)).mono λx a=> ?_⟩;exact⟨Ao a.1 b.save.size,(b.own x a.1).trans a.2.2⟩
def jG.clip {F G:zP}{r:pT}(h:jG w F r)(d:∀x,F x->x<w.heap.size->G x):jG w G r:=by let⟨v,len,cap,e,hl,f,hF⟩:=h;exact⟨v,len,cap,e,hl,f,λa c l=>by let⟨g,cs,fr,b⟩:=hF a c l;exact⟨d _ g (Ax.1 b).1,cs,fr,b⟩⟩
def dG.clip {F G:zP}{v:zY}{rs:List pT}(h:dG w F bk n v rs)(a:∀x,F x->x<w.heap.size->G x):dG w G bk n v rs:=⟨h.at',h.own,h.len,λr c=>(h.row r c).clip a,a _ h.wL.1 h.at'.lt,λg b=>a _ (h.wL.2 g b) (World.ownsRow.lt h.own g b).2⟩
def bd {w0:zW}(b:nX w0 own z bk n)(g:zb w0 w)(lv:zY)(us:List bE)(hl:bO w w0 lv us)(va:zO)(c:Nat)(l:bN w va us)(a:zAH us<=2000)(f:n<=2000000): Calls zq 50 #[aO bk,lv,aK va (zAH us) c] w λe w'=>e=aM (.bool aF)/\nX w' (gT own w0 z) z bk (n+1)/\eJ (λy=>y=z) own (gT own w0 z) w0 w':=by let⟨v,rs,b⟩:=b;refine(Tb b (λx h=>h.1) g lv us hl va c l a f).mono λe w' ⟨he,d,r,h1,m⟩=>⟨he,⟨d,r,h1.clip λx h hlt=>⟨hlt,?_⟩⟩,eJ.to m λx h _=>h.2⟩;obtain h|h:=h;{exact(dK h.1).trans h.2};.exact jN h
def mW.eD (h:mW w own i j pp k win R n)(e:eJ P own own' w w')(q:sD own)(c:¬P 0)(hi:¬P i)(l:¬P j){m:Nat}(r:n<=m):mW w' own' i j pp k win R m:=by let⟨d,rd,first,S,H,a,b,p,o,f,g,s⟩:=h;exact⟨d,rd,first,S,H,a.eD e (b▸c),(e.own pp a.lt).trans b,p.eD e q c hi,o.eD e l,f,g,bm⟩
def Lj (w:zW)(own:Nat->Nat)(i j z pp bk k win R n nb:Nat)(w':zW):Prop:=∃own' a,mW w' own' i j pp k win R (n+1)/\nX w' own' z bk a/\a<=nb+1/\eJ (λy=>y=i\/y=j\/y=z) own own' w w'
def Lj.read (a:mW w own i j pp k win R n)(b:nX w own z bk nb)(c:sD own)(h:zb w w'):Lj w own i j z pp bk k win R n nb w':= ⟨own,nb,a.eD (P:=λ_=>False) (eJ.below h) c id id id (Hi _),b.eD (P:=λ_=>False) (eJ.below h) id,Hi _,eJ.below h⟩
def bT.c {x:Nat}{t:zD}{cs:zA}{v:zY}(h:bT w x t cs)(i:Nat)(a:cs[i]? =aA v:=by rfl):w.cell? (x,i)=aA v:=(h.cell i).trans a
def ef (w:zW)(t:zD)(cs:zA):∃w1,Hid (w.alloc (aJ cs t)=w1)/\Hid (zb w w1)/\Hid (bT w1 w.heap.size t cs):=⟨_,rfl,(Av _ _).alloc (je _) _,bT.new _ _ _⟩
def wT {w1:zW}(h:zb w w1)(a:zb w1 w'):Hid (zb w w'):=h.trans (a.mono h.size)
def aBV {B g:Nat}{w3:zW}{t:zD}{u:zY}(b:Below B w w3)(h:B<=g)(hk:bT w3 g t #[aK aB 0 0,u,u])(x y v:zY):∃w4,Hid (((w3.setCell ⟨g,0,aB⟩ x).setCell ⟨g,1,aB⟩ y).setCell ⟨g,2,aB⟩ v=w4)/\Hid (Below B w w4)/\bT w4 g t #[x,y,v]/\∀a,a<g->w4.heap[a]? =w3.heap[a]? :=⟨_,rfl,((b.setCell h _).setCell h _).setCell h _,((hk.bR 0 _).bR 1 _).bR 2 _,(((Av g w3).setCell (je _) x).setCell (je _) y|>.setCell (je _) v).block⟩
def aCd {B:Nat}{w3:zW}(t:zD)(cs:zA)(h:Below B w w3)(a:B<=w3.heap.size):∃w4,Hid (w3.alloc (aJ cs t)=w4)/\Hid (Below B w w4)/\bT w4 w3.heap.size t cs/\∀g,g<w3.heap.size->w4.heap[g]? =w3.heap[g]? :=⟨_,rfl,h.alloc a _,bT.new _ _ _,((Av _ w3).alloc (je _) _).block⟩
def eJ.fJ (h:eJ P own own' w.drew w'):eJ P own own' w w':=⟨⟨h.save.os,h.save.tape,h.save.output,h.save.size,λk b a=>h.save.block k b a⟩,h.own⟩
def JI (hP:mW w own i j pp k win R n)(hB:nX w own z bk nb)(h0:sD own)(hi:i≠0)(hj:j≠0)(aa:i≠j)(hz0:z≠0)(m:z≠i/\z≠j)(kd hh nn:Int)(I:zB)(va:zO)(c:Nat)(us:List bE)(hE:bN w va us)(hz:∀a,va=aA a->0<zAH us->own a.block≠i/\own a.block≠j)(Wa:zAH us<=1100000)(Y:∀u∈us,zAH u.idx<=1100000/\zAH u.val<=1100000)(hI:zAH I<=1100000)(hn:n<=2000000)(hnb:nb<=2000000):
  Calls zq 29 #[aO bk,aO pp,.agg #[kd,hh,nn,I,aK va (zAH us) c]] w (RF λx w'=>x= .bool aF/\Lj w own i j z pp bk k win R n nb w'):=by
 let⟨d,rd,first,S,H,tt,K,hD,hR,hSw,hw,hf⟩:=id hP;have b:Hid (∀W,zb w W->Lj w own i j z pp bk k win R n nb W/\nP W own i d k win first R S H/\pO W own j rd k win first R S H/\bT W pp 99 #[aO d,aO rd]):=λW J=>⟨.read hP hB h0 J,hD.kept J.size (λx O _=>J.block x O) λ_ _=>rfl,hR.kept J.size (λx O _=>J.block x O) λ_ _=>rfl,tt.below J tt.lt⟩;let⟨w1,E1,B,V⟩:=ef w 71 #[kd,hh,nn,I,aK va (zAH us) c];replace hP:=hid hP;replace hB:=hid hB;replace h0:=hid h0;replace hE:=hid hE;replace hz:=hid hz;replace Y:=hid Y;replace K:=hid K;replace m:=hid m;clear hD hR tt;obtain rfl|rfl|rfl|rfl|hk|rfl|⟨k1,k2,k3,k4,k5,k6,k7,k8⟩:=(by omega:kd=1\/kd=2\/kd=3\/kd=4\/(kd=5\/kd=6\/kd=7)\/kd=8\/kd≠1/\kd≠2/\kd≠3/\kd≠4/\kd≠5/\kd≠6/\kd≠7/\kd≠8)
 .go_enter (Qz.fn func29),ntmps29;go_wp2_with fail;rw[E1.out];refine(TN (hP.eD (P:=λ_=>False) (eJ.below B) h0 id id id (je _)) h0 hi hj aa va c us (hE.below B (je _)) hz Wa Y hn).mono ?_;rintro e w2 (⟨_,rfl,rfl,nS,hP2,l⟩|⟨cc,rfl,he⟩);rotate_left
  .exact⟨rfl,.told he⟩
  replace l:=hid l;replace hP2:=hid hP2;dsimp only;go_wp2;go_ret;exact .of ⟨rfl,nS,nb,hP2,hB.eD ((eJ.below B).trans l) (λh=>h.elim m.1 m.2),Hi _,(eJ.below B).trans (l.mono λy hy=>hy.imp id aH)⟩
 .have yh:=(b w (Av _ _)).2.2.2.lt;have ua:zq.globals.size<w.heap.size:=by
   let⟨_,_,t,_,_,_,A,_⟩:=(b w (Av _ _)).2.1;exact aNA A.rW.GJ A.rW.jg
  obtain⟨E,T1,o1,o2⟩:∃E,Hid (eJ (λ_=>False) own E w w1.drew)/\E pp=0/\E w.heap.size=0:=⟨gT own w 0,⟨.of B.drew (je _),λx O=>dK O⟩,(dK yh).trans K,jN (je _)⟩;have za:first+zAH S<=4611686018427387904:=by omega
  have q:=hid (zAg ((b w (Av _ _)).2.1.kept (w':=w1.drew) B.size (λx O _=>B.block x O) T1.own) nn za);have K1:=hid (b w1 B).2.2.2;have a0:=K1.c 0;have n0:=V.c 2;go_enter (Qz.fn func29),ntmps29;go_upto_region 5 with(fail)
  rw[E1.out];go_region_held3 (λw'=>w'.cell? pp=aA (aO d)/\w'.cell? (w,2)=aA (nn:zY)) (go_keep) (first
   |(refine q.mono ?_;rintro e w2 ⟨rfl,nS,hD2,l⟩;have K2:=hid (bT.eD (w:=w1.drew) K1 l λe=>hi (e.symm.trans o1));have S2:=hid (bT.eD (w:=w1.drew) V l λe=>hi (e.symm.trans o2));have a2:=K2.c 0;have n2:=S2.c 2;dsimp only))
  have T2:=hid l;have D2:=hid hD2;have C:=hid (XN (((hid ((b w (Av _ _)).2.2.1.kept (w':=w1.drew) B.size (λx O _=>B.block x O) T1.own)).out.eD l (λe=>aa e.symm)).kept (w':=w2.drew) (je _) (λ_ _ _=>rfl) (λ_ _=>rfl)) nn za);have U:=K2.c 1;have o3:=(l.own pp K1.lt).trans o1;have o4:=(l.own _ V.lt).trans o2;clear hD2 l q a0 n0 a2;go_upto_region 6 with(fail)
  go_region_held3 (λw'=>w'.cell? (pp,1)=aA (aO rd)/\w'.cell? (w,2)=aA (nn:zY)) (go_keep) (first
   |(refine C.mono ?_;rintro e w3 ⟨rfl,aCa,hR3,G⟩;have a3:=(bT.eD (w:=w2.drew) K2 G λe=>hj (e.symm.trans o3)).c 1;have n3:=(bT.eD (w:=w2.drew) S2 G λe=>hj (e.symm.trans o4)).c 2;dsimp only))
  replace hR3:=hid hR3;replace G:=hid G.fJ;have hle:NV first S nn<=zAH S:=by unfold NV;split;{rename_i hk;obtain⟨c,hc,rfl⟩:=BL hk;omega};{omega}
  clear C U n2 a3 n3;generalize AU first S nn=er at*
  go_wp2_with fail;refine(iD _ _).mono ?_;rintro e w5 ⟨rfl,s⟩;subst s;dsimp only;go_wp2_with fail;refine(iD _ _).mono ?_;rintro e w6 ⟨rfl,r⟩;subst r;dsimp only;go_wp2;go_ret;have hp:=(b w (Av _ _)).2.2.2;have t3:=(T1.mono (Q:=λy=>y=i\/y=j) λ_ h=>h.elim).trans (T2.mono λ_=>aH);have Tn:=t3.trans (G.mono λ_=>aI);exact .of ⟨j0,aCa,nb,⟨d,rd,_,_,_,hp.eD Tn (by rw[K.out];exactλe=>e.elim (λe=>hi e.symm) λe=>hj e.symm),(Tn.own pp hp.lt).trans K,D2.eD G (h0.eD t3 ua) (λe=>hj e.symm) aa,hR3,by rw[GL];exact bm,hw,by rw[GL];exact bm⟩,hB.eD Tn (λe=>e.elim m.1 m.2),Hi _,Tn.mono λy hy=>hy.imp id aH⟩
 .go_enter (Qz.fn func29),ntmps29;go_upto_region 9 with(fail)
  rw[E1.out];have a0:=(b w1 B).2.2.2.c 0;let⟨_,_,_,_,_,_,A,_⟩:=(b w1 B).2.1;have q:=hid (LP A);clear A;go_wp2_with fail;refine q.mono ?_;rintro e w2 ⟨rfl,o⟩;have D:=wT B o;let⟨_,_,A⟩:=(b w2 D).2.2.1;have U:=(b w2 D).2.2.2.c 1;have C:=hid (XR A);clear o q a0 A;dsimp only;go_wp2_with fail;refine C.mono ?_;rintro e w3 ⟨rfl,f⟩;have N:=wT D f;clear f C U;exact G5
 .have a0:=(b w1 B).2.2.2.c 0;have U:=(b w1 B).2.2.2.c 1;let⟨_,_,_,_,_,_,A,_⟩:=(b w1 B).2.1;let⟨_,_,h2⟩:=(b w1 B).2.2.1;have q:=hid (UD (A.cell 4) ((Eh w1 _ 5 _ _ (0,0) A.rW.at').trans rfl));have C:=hid (AN h2 (by have:=A.rW.wj;exact bm));generalize cJ S=cu at*;clear A h2;go_enter (Qz.fn func29),ntmps29;go_upto_region 13 with(fail)
  rw[E1.out];go_wp2_with fail;refine q.mono ?_;rintro e w2 ⟨rfl,tn⟩;subst tn;clear q;dsimp only;go_wp2_with fail;refine C.mono ?_;rintro e w3 ⟨rfl,f⟩;have N:=wT B f;clear f C;exact G5
 .have C:=hid λW (J:zb w W)=>Uf (b W J).2.2.1 nn;have hEU:zAH (Pr first S nn)<=2000:=by
   let⟨_,_,_,_,_,_,A,_⟩:=(b w1 B).2.1;exact gr (λus hu=>(A.rW.st us hu).2) nn
  have HD:=hid (b w1.drew B.drew).2.1;have a0:=(b w1 B).2.2.2.c 0;have n0:=V.c 2;have ye:=V.lt;obtain rfl|rfl|rfl:=hk;have q:=hid (zDe HD nn);rotate_left;have q:=hid (zCx HD nn);rotate_left;have q:=hid (aMf HD nn);all_goals
   go_enter (Qz.fn func29),ntmps29
   go_upto_region 25 with(fail)
   rw[E1.out]
   generalize XJ k first S nn=RT at*
   generalize ZS first S H nn=HX at*
   generalize AU first S nn=er at*
   generalize Pr first S nn=EU at*
   go_region_held2 (λw'=>w'.cell? pp=aA (aO d)/\w'.cell? (w,2)=aA (nn:zY)) (go_keep) (first
    |(refine q.mono ?_;rintro e w2 (⟨_,rfl,v,rfl,hv,o⟩|⟨cc,rfl,he⟩);rotate_left;exact⟨rfl,.told he⟩;have HV:=hid hv;have b2:=hid (fJ o);have D:=wT B b2;have a2:=(b w2 D).2.2.2.c 0;have n1:=(b2.cell (p:=(w,2)) ye).trans n0;clear hv o;dsimp only))
   have U:=(b w2 D).2.2.2.c 1
   have M:=C w2.drew D.drew
   have Z:=hid (And.intro ((Av _ w2).alloc (je w2) (aJ #[aK aB 0 0,aL ⟨#[]⟩,aL ⟨#[]⟩] 102)) (bT.new w2 102 #[aK aB 0 0,aL ⟨#[]⟩,aL ⟨#[]⟩]))
   have HEZ:=C _ (wT D Z.1).out.drew
   have N3:=hid λW (J:zb w2 W)=>(J.cell (p:=(w,2)) (Ao ye b2.size)).trans n1
   have aIh:=World.new_ne w2 _ U
   have aIg:=World.new_ne w2 _ n1
   have aCp:=D.size
   clear a0 n0 q C a2
   go_upto_region 26 with(fail)
   go_region_held3 (λw'=>w'.cell? (pp,1)=aA (aO rd)/\w'.cell? (w,2)=aA (nn:zY)) (go_keep) (first
    |((first
      |(refine M.mono ?_;rintro e w3 ⟨F,c3,rfl,L,f⟩;have b3:=hid (fJ f))
      |(refine HEZ.mono ?_;rintro e w3 ⟨F,c3,rfl,L,f⟩;have b3:=wT Z.1 (fJ f);have X:=Z.2.below (fJ f) Z.2.lt;have z0:=X.c 0;have z1:=X.c 1;have z2:=X.c 2;have f0:=X.frozen 0;have f1:=X.frozen 1;have f2:=X.frozen 2));
      have N:=wT D b3;have a3:=(b w3 N).2.2.2.c 1;have n3:=N3 w3 b3;dsimp only))
   all_goals
    have E3:=hid L
    first
    |(let⟨w4,E4,B4,kx,Y4⟩:=aBV N aCp X (aK F (zAH EU) c3) (aL ⟨zAL RT⟩) (aL ⟨zAL HX⟩);rw[E4.out];replace E3:=hid (E4.out▸Ps L X _ _ _:bN w4 F EU))
    |(let⟨w4,E4,B4,kx,Y4⟩:=aCd 102 #[aK F (zAH EU) c3,RT,HX] N N.size;rw[E4.out];replace E3:=hid (E4.out▸L.below ((Av _ _).alloc (je _) _) (je _):bN w4 F EU))
    have x0:=kx.c 0
    have x1:=kx.c 1
    have x2:=kx.c 2
    replace Y4:=hid Y4
    have bs3:=b3.size
    clear kx f L U n1 M HEZ a3 n3 E4 N3
    first
    |(obtain rfl:=HV
      clear Y4 E3 bs3
      go_wp2_with fail
      refine(iD _ _).mono ?_
      rintro e w5 ⟨rfl,s⟩
      subst s
      dsimp only
      go_wp2_with fail
      refine(iD _ _).mono ?_
      rintro e w6 ⟨rfl,r⟩
      subst r
      dsimp only
      go_wp2
      go_ret
      exact .of ⟨by simp,(b _ B4).1⟩)
    |(have O4:=bO.lower (HV.kept (w':=w4) λg hg=>(Y4 g (by have:=(bO.lt HV g hg).2;exact bm)).trans (b3.block g (bO.lt HV g hg).2)) B.size
      have HT:=bd hB B4 v EU O4 F c3 E3 hEU hnb
      clear x1 x2 O4
      go_wp2_with fail
      refine HT.mono ?_
      clear HT
      rintro e w5 ⟨rfl,hB5,T⟩
      replace hB5:=hid hB5
      replace T:=hid T
      clear x0
      dsimp only
      go_wp2_with fail
      refine(iD _ _).mono ?_
      rintro e w5 ⟨rfl,s⟩
      subst s
      dsimp only
      go_wp2_with fail
      refine(iD _ _).mono ?_
      rintro e w6 ⟨rfl,r⟩
      subst r
      dsimp only
      go_wp2
      go_ret
      exact .of ⟨by simp,_,nb+1,hP.eD T h0 (λe=>hz0 e.symm) (λe=>m.1 e.symm) (λe=>m.2 e.symm) (Hi _),hB5,je _,T.mono λy hy=>aI (aI hy)⟩)
 .have C:=hid λW (J:zb w W)=>XP (b W J).2.2.1 nn I hI;have q:=hid (zAl (b w1.drew B.drew).2.1 nn I hI);generalize KR k first S nn I=PT at*
  generalize KS first S nn I=er at*
  have a0:=(b w1 B).2.2.2.c 0;have n0:=V.c 2;have m0:=V.c 3;go_enter (Qz.fn func29),ntmps29;go_upto_region 30 with(fail)
  rw[E1.out];go_region_held2 (λw'=>w'.cell? pp=aA (aO d)/\w'.cell? (w,2)=aA (nn:zY)/\w'.cell? (w,3)=aA (I:zY)) (go_keep) (first
   |(refine q.mono ?_;rintro e w2 (⟨_,rfl,rfl,o⟩|⟨cc,rfl,he⟩);rotate_left;exact⟨rfl,.told he⟩;have b2:=hid (fJ o);have D:=wT B b2;have S2:=hid (V.below b2 V.lt);have a2:=(b w2 D).2.2.2.c 0;have n1:=S2.c 2;have m1:=S2.c 3;dsimp only))
  have U:=(b w2 D).2.2.2.c 1;have M:=C w2.drew D.drew;clear o a0 n0 m0 q C a2 b2;go_upto_region 31 with(fail)
  go_region_held3 (λw'=>w'.cell? (pp,1)=aA (aO rd)/\w'.cell? (w,2)=aA (nn:zY)/\w'.cell? (w,3)=aA (I:zY)) (go_keep) (first
   |(refine M.mono ?_;rintro e w3 ⟨rfl,f⟩;have S3:=S2.below (fJ f) S2.lt;have N:=wT D (fJ f);have a3:=(b w3 N).2.2.2.c 1;have n3:=S3.c 2;have m3:=S3.c 3;dsimp only))
  clear U n1 m1 a3 n3 m3 f M S3;go_wp2_with fail;refine(iD _ _).mono ?_;rintro e w5 ⟨rfl,s⟩;subst s;dsimp only;go_wp2_with fail;refine(iD _ _).mono ?_;rintro e w6 ⟨rfl,r⟩;subst r;exact G5
 .go_enter (Qz.fn func29),ntmps29;go_wp2;go_ret;exact .of ⟨rfl,(b _ (E1.out▸B.out)).1⟩
def qK (w:zW)(own:Nat->Nat)(i j n:Nat)(v:zY):Prop:=v= .pointer aB\/∃pp k win R,v=aO (aA ⟨pp,0,aB⟩)/\mW w own i j pp k win R n
def qK.eD {v:zY}(h:qK w own i j n v)(f:eJ P own own' w w')(g:sD own)(a:¬P 0)(hi:¬P i)(d:¬P j){m:Nat}(c:n<=m):qK w' own' i j m v:=h.imp id λ⟨pp,k,win,R,e,b⟩=>⟨pp,k,win,R,e,b.eD f g a hi d c⟩
def Jr (i j:Nat)(k win room:Nat)(h:Base w)(o:1<=k)(l:k<=32)(f:1<=win)(b:win<=50)(r:1<=room)(q:room<=100000):
  Calls zq 28 #[.agg #[aC aD 0,aC aD k,aC aD win,aC aD room]] w λe w'=>∃pp own',e=aM (.tuple #[aO (aA ⟨pp,0,aB⟩),.bool aF])/\mW w' own' i j pp k win room 0/\(∀x,x<w.heap.size->own' x=own x)/\zb w w':=by refine(Vk k win room w h o l f b r q).mono λe w' ⟨pp,d,hb,t,D,rd,v,E,he,y,A,B,⟨J,I,H,G⟩,⟨m,m1,m2,m3,m4,m5,m6,m7,a⟩,C⟩=> ?_;have K:∀g,v.ownBlock=aA g->m<=g:=λg p=>a.wL.2 g p;refine⟨pp,λx=>if x<w.heap.size then own x else if x<m then i else if x<pp then j else 0,he,⟨d,rd,0,[[]],_,A,?_,⟨hb,1,t,D,1,_,B,λx s=> ?_⟩,⟨v,E,(⟨a.k1,a.k2,a.r2,a.at',a.own,a.one,a.len,a.EC,a.hlen,a.tU,λi us hi=>by let⟨F,c,x,N,M,L,_⟩:=a.ep i us hi;exact ji,a.st,⟨(⟨a.lt,?_⟩),(λg p=>⟨(World.ownsRow.lt a.own g p).2,?_⟩)⟩,a.f1⟩)⟩,j5,⟨f,b⟩,j0⟩,ji,C⟩;{exact ji};{have u:w.heap.size<=x/\x<m:=by{obtain rfl|rfl|rfl|rfl|s:=s;all_goals grind};exact ji};all_goals grind
def YV (i j:Nat)(en k win room:Int)(h:Base w)(b:en≠1): Calls zq 28 #[.agg #[en,k,win,room]] w λe w'=>∃p own',e=aM (.tuple #[p,aF])/\qK w' own' i j 0 p/\(∀x,x<w.heap.size->own' x=own x)/\zb w w':=by obtain hb|⟨rfl,h1,o,m,l,g,f⟩:=Ra en k win room b;{exact(fb en k win room w hb).mono λe w' ⟨b,c⟩=>⟨_,own,b,aH rfl,λ_ _=>rfl,c⟩};.obtain⟨k,rfl⟩:∃a:Nat,k=(a:Int):=⟨k.toNat,bm⟩;obtain⟨win,rfl⟩:∃a:Nat,win=(a:Int):=⟨win.toNat,bm⟩;obtain⟨room,rfl⟩:∃a:Nat,room=(a:Int):=⟨room.toNat,bm⟩;exact(Jr i j k win room h bm bm bm bm bm bm).mono λe w' ⟨pp,own',b,hp,d,c⟩=>⟨_,own',b,aI ji,d,c⟩
structure ah where
 kd:Int
 hh:Int
 nn:Int
 idx:zB
 batch:List bE
def sC (w:zW)(va:zO)(a:List ah):Prop:=∀(i:Nat) s,a[i]? =aA s->∃g o v c,va=aA ((g,o):Addr)/\g<w.heap.size/\w.cell? (g,o+i*5)=aA (s.kd:zY)/\w.cell? (g,o+i*5+1)=aA (s.hh:zY)/\w.cell? (g,o+i*5+2)=aA (s.nn:zY)/\w.cell? (g,o+i*5+3)=aA (s.idx:zY)/\w.cell? (g,o+i*5+4)=aA (aK v (zAH s.batch) c)/\bN w v s.batch
theorem sC.below {va:zO}{a:List ah}(h:sC w va a)(b:zb w w'):sC w' va a:=λi s d=>by let⟨g,o,v,c,e,f,c0,c1,c2,c3,c4,l⟩:=h i s d;exact⟨g,o,v,c,e,Ao f b.size,Q5,Q5,Q5,Q5,Q5,l.below b (je _)⟩
def Fits (s:ah):Prop:=zAH s.idx<=1100000/\zAH s.batch<=1100000/\∀u∈s.batch,zAH u.idx<=1100000/\zAH u.val<=1100000
structure GW (w:zW)(pv qv:zY)(bk t:Nat)(own:Nat->Nat)(nb:Nat)(wr:zW):Prop where
 p:qK wr own 3 4 t pv
 q:qK wr own 5 6 t qv
 book:nX wr own 7 bk nb
 nb:nb<=t+2
 ok:sD own
 zero:∀x,x<w.heap.size->own x=0
 low:zq.globals.size<wr.heap.size
 yI:zb w wr
def Xo {w:zW}(u:bE):bN (zAK w (aJ #[u.idx,u.val,.bool u.gone] 53)) (aA w) [u]:=λ_=>⟨w.heap.size,0,rfl,j6,λj x h=>by rw[Ce,(bT.new w 53 _).cell j];simpa [bL,bE.cells]using h⟩
def Yj {w:zW}{own:Nat->Nat}{z:Nat}:nX (zAK w (aJ #[aC aD 0,aK aB 0 0] 68)) (gT own w z) z w 0:= ⟨_,[],bT.new _ _ _,World.ownsRow_nil _ _ _ _,je _,λ_ h=>(nomatch h),⟨j6,jN (je _)⟩,λ_ h=>A4⟩
def GW.left {own1:Nat->Nat}{p q:zY}{t nb b:Nat}{wr w1:zW}{P:zP}(h:GW w p q bk t own nb wr)(a:eJ P own own1 wr w1)(g:¬P 0)(l:nX w1 own1 7 bk b)(f:b<=nb+1)(e:qK w1 own1 3 4 (t+1) p)(d:qK w1 own1 5 6 (t+1) q):GW w p q bk (t+1) own1 b w1:= ⟨e,d,l,by have:=h.nb;exact bm,h.ok.eD a h.low,λx c=>(a.own x (Ao c h.yI.size)).trans (h.zero x c),Ao h.low a.save.size,⟨a.save.os.trans h.yI.os,a.save.tape.trans h.yI.tape,a.save.output.trans h.yI.output,Az h.yI.size a.save.size,λx c=>(a.save.block x (Ao c h.yI.size) (by rw[h.zero x c];exact g)).trans (h.yI.block x c)⟩⟩
theorem GW.below {own1:Nat->Nat}{d c:zY}{t m nb:Nat}{wr w1:zW}(h:GW w d c bk t own nb wr)(b:zb wr w1)(g:t<=m)(f:∀x,x<wr.heap.size->own1 x=own x:=by exactλ_ _=>rfl):Hid (GW w d c bk m own1 nb w1):=by have a:eJ (λ_=>False) own own1 wr w1:=⟨.of b (je _),f⟩;exact⟨h.p.eD a h.ok id id id g,h.q.eD a h.ok id id id g,h.book.eD a id,by have:=h.nb;exact bm,h.ok.eD a h.low,λx e=>(f x (Ao e h.yI.size)).trans (h.zero x e),Ao h.low b.size,h.yI.trans (b.mono h.yI.size)⟩
theorem GW.keep {own1:Nat->Nat}{e d:zY}{t nb a:Nat}{wr w1:zW}(h:GW w e d bk t own nb wr)(c:eJ (λy=>y=1\/y=2\/y=7) own own1 wr w1)(f:nX w1 own1 7 bk a)(b:a<=nb+1):Hid (GW w e d bk (t+1) own1 a w1):=h.left c j2 f b (h.p.eD c h.ok j2 j2 j2 (Hi _)) (h.q.eD c h.ok j2 j2 j2 (Hi _))
def Pre (w:zW)(c d:zA)(own:Nat->Nat)(W:zW):Prop:=zb w W/\(∀x,x<w.heap.size->own x=0)/\bT W w 23 c/\bT W (w.heap.size+1) 23 d
def Pre.on {c d:zA}{W W':zW}(h:Pre w c d own W)(a:zb W W')(e:∀x,x<W.heap.size->own' x=own x):Hid (Pre w c d own' W')/\Hid (eJ (λ_=>False) own own' W W'):=⟨⟨h.1.trans (a.mono h.1.size),λx b=>(e x (Ao b h.1.size)).trans (h.2.1 x b),h.2.2.1.below a h.2.2.1.lt,h.2.2.2.below a h.2.2.2.lt⟩,.of a (je _),e⟩
abbrev z32:zB:=[0,0,0,0,0,0,0,0,0,0,0,0,0,0,0,0,0,0,0,0,0,0,0,0,0,0,0,0,0,0,0,0]
def zEt (en k win room en' k' win' room':Int)(va:zO)(c:Nat)(F:List ah)(w:zW)(h:Base w)(he:en≠1)(he':en'≠1)(hS:sC w va F)(hl:zAH F<=1100000)(hF:∀s∈F,Fits s):
  Calls zq 10 #[.agg #[en,k,win,room],.agg #[en',k',win',room'],aK va (zAH F) c,aC aD 0] w (RF λx w'=>x= .bool aF/\zb w w'):=by
 let⟨wa,Ea,Ba,Ka⟩:=ef w 23 #[en,k,win,room];obtain⟨w0,E0,B0,K0⟩:=ef wa 23 #[en',k',win',room'];have hs:wa.heap.size=w.heap.size+1:=by rw[<-Ea.out];exact size_alloc ..
 have p0:Hid (Pre w #[en,k,win,room] #[en',k',win',room'] (λ_=>0) w0):=⟨(wT Ba B0).out,λ_ _=>rfl,Ka.below B0 Ka.lt,hs▸K0.out⟩;replace hS:=hid hS;replace hF:=hid hF;let⟨m,hm⟩:=zzx (zAH F);have HM:=hid hm;rw[<-hm]at hl⊢;have sS:=h.low;have HB:=hid λW (hW:zb w W)=>h.below hW (je _);go_enter (Qz.fn func10),ntmps10;go_upto_region 1 with(fail)
 rw[Ea.out,E0.out];go_wp2_with fail;refine(zEr w0 (HB w0 p0.1).jJ).mono ?_;rintro e w1 ⟨rfl,hb1⟩;obtain⟨p1,-⟩:=p0.on hb1 λ_ _=>rfl;have J:=Jr (own:=λ_=>0) 1 2 32 1 1 (HB w1 p1.1) bm bm bm bm bm bm;go_wp2_with fail;refine J.mono ?_;rintro e w2 ⟨pf,nS,rfl,D,Pa,Ke⟩;obtain⟨p2,-⟩:=p1.on Ke Pa;replace D:=hid D;have J:=YV (own:=nS) 3 4 en k win room (HB w2 p2.1) he;go_wp2_with (refine Dx rfl 23 _ rfl w rfl 23 _ (0,0) _ p2.2.2.1 ((Qz.eR 23).trans underlying23) rfl c9 ?_);refine J.mono ?_;rintro e w3 ⟨pv,r,rfl,C,T,zn⟩;let⟨p3,T3⟩:=p2.on zn T;have P3:=hid (D.eD T3 (λx I=>p2.2.1 x bm) id id id (je _));replace C:=hid C;clear T zn J D;dsimp only;have J:=YV (own:=r) 5 6 en' k' win' room' (HB w3 p3.1) he';go_wp2_with (refine Dx rfl 23 _ rfl (w.heap.size+1) rfl 23 _ (0,0) _ p3.2.2.2 ((Qz.eR 23).trans underlying23) rfl c9 ?_);refine J.mono ?_;rintro e w4 ⟨qv,d,rfl,f,S,v⟩;let⟨p4,T4⟩:=p3.on v S;replace f:=hid f;clear S v J;dsimp only;go_upto_region 8 with(fail)
 obtain⟨w5,E5,B5,b,L⟩:∃w5,Hid (zAK w4 (aJ #[aC aD 0,aK aB 0 0] 68)=w5)/\Hid (zb w4 w5)/\∃b,Hid (GW w pv qv w4 0 b 0 w5/\mW w5 b 1 2 pf 32 1 1 0):=⟨_,rfl,(Av _ _).alloc (je _) _,gT d w4 7,by have b5:zb w4 (zAK w4 (aJ #[aC aD 0,aK aB 0 0] 68)):=(Av _ _).alloc (je _) _;let⟨p5,T5⟩:=p4.on (own':=gT d w4 7) b5 λx I=>dK I;have k3:sD r:=λx I=>p3.2.1 x bm;have k4:sD d:=λx I=>p4.2.1 x bm;exact⟨⟨(C.eD T4 k3 id id id (je _)).eD T5 k4 id id id (je _),f.eD T5 k4 id id id (je _),Yj,bm,λx I=>p5.2.1 x bm,p5.2.1,Ao sS p5.1.size,p5.1⟩,(P3.eD T4 k3 id id id (je _)).eD T5 k4 id id id (je _)⟩⟩
 rw[E5.out];generalize w4.heap.size=bk at*;obtain⟨w6,E6,B6,-⟩:=ef w5 53 #[z32,aL ⟨#[97]⟩,aG];have zu:bN w6 (aA w5) [⟨z32,[97],aG⟩]:=E6.out▸Xo _;obtain⟨l,T6,o6⟩:∃l,eJ (λ_=>False) b l w5 w6/\l w5.heap.size=0:=⟨gT b w5 0,⟨.of B6 (je _),λx I=>dK I⟩,jN (je _)⟩;have G6:Hid (GW w pv qv bk 0 l 0 w6):=L.1.below B6 (je _) T6.own;have H:=JI (L.2.eD T6 L.1.ok id id id (je _)) G6.book G6.ok j2 j2 j2 j2 ⟨j2,j2⟩ 1 0 0 [] _ 1 _ zu (λa ha _=>by rw[<-Ay ha,o6];exact j2) j0 (λu hu=>by rw[Cy.1 hu];exact j0) j0 bm bm;clear zu T6 o6 B6 L B5 p0 p1 p2 p3 p4 T3 T4 P3 C f;go_wp2_with fail;rw[E6.out];refine H.mono ?_;clear H;rintro e w7 (⟨_,rfl,rfl,aHj,nb7,Q,hb7,V,hT7⟩|⟨cc,rfl,y⟩);rotate_left
 .exact⟨rfl,.told y⟩
 have G7:=G6.keep hT7 hb7 V;have H:=JI Q G7.book G7.ok j2 j2 j2 j2 ⟨j2,j2⟩ 8 0 1 z32 aB 0 [] (λh0=>absurd h0 j0) (λa ha=>by cases ha) j0 (λu hu=>(nomatch hu)) j0 bm bm;clear Q hb7 hT7 G6 V E6;dsimp only;go_wp2_with fail;refine H.mono ?_;clear H;rintro e w8 (⟨_,rfl,rfl,O,nb8,hp8,Wj,U,uh⟩|⟨cc,rfl,y⟩);rotate_left
 .exact⟨rfl,.told y⟩
 have G8:=G7.keep uh Wj U;clear hp8 Wj U uh G7;dsimp only;go_wp2;go_loopg [19] m (λq x wr=>∃(t:Nat)(own:Nat->Nat)(nb:Nat),t+q=m/\x=aC aD t/\GW w pv qv bk (2+t) own nb wr);case atStart=>exact⟨0,O,nb8,bm,rfl,G8⟩
 case round=>
  clear G8
  obtain⟨t,r,nb3,ht,rfl,g3⟩:=hrel
  have G:=hid g3
  clear g3
  by_cases hlt:t<m
  .have E:t<zAH F:=by rw[<-HM.out];exact hlt
   let⟨hf1,za,Z⟩:=hF _ (Fp E);obtain⟨g,o,vb,cb,rfl,hg,c0,c1,c2,c3,c4,K⟩:=hS t _ (Be E);have A:=G.yI;have hE:=K.below A (je _);rw[<-A.cell hg]at c0 c1 c2 c3 c4;clear A;generalize F[t]=st at*;let⟨skd,N,snn,M,sbt⟩:=st;dsimp only at*;have aIl:=G.nb;by_cases aI7:bits .and aD N 1=1;have X:=hid G.q;rotate_left;have X:=hid G.p;all_goals
    obtain hpq|⟨pp,kk,ww,RR,e2,hp⟩:=X
    .subst hpq;go_wp2;go_roundg (m-(t+1));case measure=>go_light;omega
     case rel=>go_light;exact⟨t+1,r,nb3,bm,j9,G.below (Av _ _) bm⟩
    subst e2;have H:=JI hp G.book G.ok j2 j2 j2 j2 ⟨j2,j2⟩ skd N snn M vb cb sbt hE (λa ha h0=>by
     let⟨g',o',e',hg',_⟩:=K h0;have e4:a.block=g':=by rw[Ay (ha.symm.trans e')]
     rw[G.out.zero _ (by rw[e4];exact hg')];decide) za Z hf1 (by omega) (by omega)
    clear hE K hp hf1 za Z;go_wp2_with fail;refine H.mono ?_;clear H;rintro e w4 (⟨_,rfl,rfl,d,nb4,f,v,Y,B⟩|⟨cc,rfl,y⟩);rotate_left;{exact⟨rfl,.told y⟩};first
    |have G4:=hid (G.left B j2 v Y (G.p.eD B G.ok j2 j2 j2 (Hi _)) (aI ⟨pp,kk,ww,RR,rfl,f⟩))
    |have G4:=hid (G.left B j2 v Y (aI ⟨pp,kk,ww,RR,rfl,f⟩) (G.q.eD B G.ok j2 j2 j2 (Hi _)))
    have aIk:=G4.nb;let⟨bv,rs,hbk⟩:=v;have H:=Oi hbk bm;clear hbk f B;dsimp only;go_wp2_with fail;refine H.mono ?_;clear H;rintro e w5 ⟨rfl,Wl⟩;have L:=hid Wl;clear Wl;dsimp only;go_wp2;go_roundg (m-(t+1));case measure=>go_light;omega
    case rel=>go_light;exact⟨t+1,d,nb4,bm,j9,G4.below L bm⟩
  .obtain rfl:t=m:=bm;go_wp2;go_ret;exact .of ⟨rfl,G.yI⟩
end
def ZT (en:Int):(if en=1 then 0 else en)≠1:=bm
def Pf (en k win room en' k' win' room':Int)(va:zO)(c:Nat)(d:List ah)(w:zW)(h:Base w)(E:sC w va d)(hl:zAH d<=1100000)(hF:∀s∈d,Fits s):
  Calls zq 3 #[.agg #[en,k,win,room],.agg #[en',k',win',room'],aK va (zAH d) c] w (RF λx b=>x= .bool aF/\zb w b):=by
 have r:Hid (zb w (zAK (zAK w (aJ #[en,k,win,room] 23)) (aJ #[en',k',win',room'] 23))):=((Av _ _).alloc (je _) _).alloc j6 _;have C:Hid (bT (zAK (zAK w (aJ #[en,k,win,room] 23)) (aJ #[en',k',win',room'] 23)) w.heap.size 23 #[en,k,win,room]):=(bT.new _ _ _).alloc _;have k1:Hid (bT (zAK (zAK w (aJ #[en,k,win,room] 23)) (aJ #[en',k',win',room'] 23)) (w.heap.size+1) 23 #[en',k',win',room']):=by have:=bT.new (zAK w (aJ #[en,k,win,room] 23)) 23 #[en',k',win',room'];rw[size_alloc]at this;exact this
 have G:Hid (∀W,zb w W->Calls zq 10 #[.agg #[aC aD (if en=1 then 0 else en),k,win,room],.agg #[aC aD (if en'=1 then 0 else en'),k',win',room'],aK va (zAH d) c,aC aD 0] W (RF λx b=>x= .bool aF/\zb W b)):=λW l=>zEt _ _ _ _ _ _ _ _ va c d W (h.below l (je _)) (ZT en) (ZT en') (E.below l) hl hF;have D:=GA en k win room;have o:=GA en' k' win' room';generalize(if en=1 then 0 else en)=fn at*;generalize(if en'=1 then 0 else en')=F at*;generalize zAH d=m at*;go_enter (Qz.fn func3),ntmps3;go_upto_region 1 with(fail)
 generalize(zAK w (aJ #[en,k,win,room] 23)).alloc (aJ #[en',k',win',room'] 23)=w0 at*;have H:Hid (∀W,zb w0 W->W.cell? w=aA (en:zY)/\W.cell? (w,1)=aA (k:zY)/\W.cell? (w,2)=aA (win:zY)/\W.cell? (w,3)=aA (room:zY)/\W.cell? (w.heap.size+1,0)=aA (en':zY)/\W.cell? (w.heap.size+1,1)=aA (k':zY)/\W.cell? (w.heap.size+1,2)=aA (win':zY)/\W.cell? (w.heap.size+1,3)=aA (room':zY)):=λW l=>by have p:=C.below l C.lt;have q:=k1.below l k1.lt;exact⟨p.cell 0,p.cell 1,p.cell 2,p.cell 3,q.cell 0,q.cell 1,q.cell 2,q.cell 3⟩
 let⟨c0,c1,c2,c3,c4,c5,c6,T⟩:=H w0 (Av _ _);go_region_held2 (λb=>b.cell? w=aA (en:zY)/\b.cell? (w,1)=aA (k:zY)/\b.cell? (w,2)=aA (win:zY)/\b.cell? (w,3)=aA (room:zY)/\b.cell? (w.heap.size+1,0)=aA (en':zY)/\b.cell? (w.heap.size+1,1)=aA (k':zY)/\b.cell? (w.heap.size+1,2)=aA (win':zY)/\b.cell? (w.heap.size+1,3)=aA (room':zY)) (go_keep) (first
  |(go_at_call 11;
    first
    |(refine(D w0.drew).mono ?_;rintro e u ⟨rfl,A⟩;have i:Hid (zb w0 u):=fJ A;let⟨i0,i1,i2,i3,i4,i5,i6,i7⟩:=H u i;dsimp only)
    |(refine(o w0.drew).mono ?_;rintro e t ⟨rfl,z⟩;have g:Hid (zb w0 t):=fJ z;let⟨v0,R,v2,v3,v4,v5,v6,Q⟩:=H t g;dsimp only)
    |(refine(o u).mono ?_;rintro e j ⟨rfl,f⟩;have a:Hid (zb w0 j):=aY i f i.size;let⟨u0,u1,u2,u3,u4,u5,u6,u7⟩:=H j a;dsimp only)
    |(refine(D t).mono ?_;rintro e j ⟨rfl,f⟩;have a:Hid (zb w0 j):=aY g f g.size;let⟨u0,u1,u2,u3,u4,u5,u6,u7⟩:=H j a;dsimp only))
  |(go_at_call 10;refine(G j (aY r a r.size).out).mono ?_;rintro e B (⟨_,rfl,rfl,y⟩|⟨S,rfl,v⟩);rotate_left;exact⟨rfl,.told v⟩;have n:Hid (zb w0 B):=aY a y a.size;let⟨P,O,N,M,L,K,J,I⟩:=H B n;dsimp only))
 all_goals
  go_wp2
  go_ret
  exact .of ⟨rfl,(hid (aY r n r.size)).out⟩
end Go.Proofs.Zq
