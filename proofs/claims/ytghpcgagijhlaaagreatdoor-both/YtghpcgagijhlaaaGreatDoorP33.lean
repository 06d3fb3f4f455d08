import Derived.Test.YtghpcgagijhlaaaGreatDoorP32
set_option linter.all false
set_option maxRecDepth 100000
set_option maxHeartbeats 16000000
open Option renaming some->aA,none->aB
open Bool renaming true->aE,false->aF
open Or renaming inl->aG,inr->aH
open Go.Ending renaming returned->aL
open Go.Obj renaming cells->aI
open Go.IntKind renaming i64->aD
open Go.Value renaming slice->aJ,string->aK,pointer->aN,int->aC
open Option renaming isSome->aDK,getD->aDL
namespace Go.Proofs.Zq
open Go.RowKit Sha
def iC (w:zW)(va:zO)(S:zLL):Prop:=0<S.length->∃g o,va=aA ⟨g,o,aB⟩/\g<w.heap.size/\∀i x,S[i]? =aA x->w.cell? ⟨g,o+i,aB⟩=aA (aK ⟨x.toArray⟩)
def iC.below {w w':zW}{B:Nat}{va:zO}{S:zLL}(h:iC w va S)(b:Below B w w')(f:w.heap.size<=B):iC w' va S:=λj=>by obtain⟨g,o,e,a,d⟩:=h j;refine⟨g,o,e,zAc a b.size,λi x c=> ?_⟩;rw[b.cell (p:=⟨g,o+i,aB⟩) (zAc a f)];exact d i x c
def iC.two {w:zW}{va:zO}{x y:zB}{S:zLL}(h:iC w va (x::y::S))(c:Nat):iC w (if c=2 then va else va.map λa=>a.add 2) S\/c<=2:=by
 by_cases b:c=2
 .exact aH (by omega)
 .left;rw[zAh b];intro _;obtain⟨g,o,e,f,b⟩:=h (by simp);subst e;refine⟨g,o+2,by rw[zAx,addr_add],f,λi x d=> ?_⟩;rw[show o+2+i=o+(i+2) by omega];exact b (i+2) x (by simpa using d)
def gF (k:Nat)(x:Tr):zB:=dR k (bF x.us) x.d
def eJ (k:Nat)(l:List Tr):zLL:=(l.filter isNode).flatMap λx=>[dR k (bF (dW x.d 0 x.us)) (x.d+1),dR k (bF (dW x.d 1 x.us)) (x.d+1)]
def GZ (k:Nat)(x:Tr)(l:List Tr)(h:2<=x.us.length):eJ k (x::l)=dR k (bF (dW x.d 0 x.us)) (x.d+1)::dR k (bF (dW x.d 1 x.us)) (x.d+1)::eJ k l:=by unfold eJ;rw[zBj (by unfold isNode;simpa using h)];rfl
def XW (k:Nat)(x:Tr)(l:List Tr)(h:¬2<=x.us.length):eJ k (x::l)=eJ k l:=by unfold eJ;rw[zAu (by unfold isNode;simpa using h)]
def Gd (k:Nat)(x:Tr)(h:2<=x.us.length)(hs:Sub x.us x.d):gF k x=dg k (2::(dR k (bF (dW x.d 0 x.us)) (x.d+1)++dR k (bF (dW x.d 1 x.us)) (x.d+1))):=by unfold gF;rw[FF k x.d (bF x.us) (by rw[fY];exact h) (hs.deep h),fX,fX]
def dA (S:zLL):zV:=S.map λx=>aK ⟨x.toArray⟩
def Ki (t k:Nat)(va vs:zO)(c cs:Nat)(l:List Tr)(w:zW)(V:1<=k)(A:k<=32)(hT:dO w)(hP:kM w t k)(hA:lE w va l)(hl:l.length<=1000)(hs:∀x∈l,iY w x)(hS:iC w vs (eJ k l))(hc:(eJ k l).length<=cs):
  Calls zq 172 #[aN (aA ⟨t,0,aB⟩),aJ va l.length c,aJ vs (eJ k l).length cs] w λe G=>∃Q,e=aL Q/\Own G w.heap.size 9 Q l.length (dA (l.map (gF k)))/\zb w G:=by
 have HA:Hid (lE w va l):=hA
 have HS:Hid (∀x∈l,iY w x):=hs
 have HT:Hid (dO w):=hT
 have HP:Hid (kM w t k):=hP
 have rq:Hid (iC w vs (eJ k l)):=hS
 obtain⟨L0,L⟩:∃L0,L0=(eJ k l).length:=⟨_,rfl⟩
 have N:Hid (L0=(eJ k l).length):=L
 rw[<-L]at hc⊢
 clear hA hs hT hP hS L
 go_enter Qz.func172,Tryz.ntmps172
 go_wp2
 go_loopg [2,7,12] l.length (λq un out i wr=>∃p:Nat,p+q=l.length/\i=aC aD (p:Int)/\zb w wr/\Own wr w.heap.size 9 out p (dA ((l.take p).map (gF k)))/\∃R I,un=aJ R (eJ k (l.drop p)).length I/\(eJ k (l.drop p)).length<=I/\iC w R (eJ k (l.drop p)))
 case atStart=>exact⟨0,by omega,rfl,zGp _ _,Own.nil _ _ _,vs,cs,by rw[N.out];rfl,by rw[N.out]at hc;exact hc,rq.out⟩
 case round=>
  obtain⟨p,hp,rfl,b1,b2,R,I,rfl,Wl,b3⟩:=hrel
  have B1:Hid (zb w wr):=b1
  have B2:Hid (Own wr w.heap.size 9 u7 p (dA ((l.take p).map (gF k)))):=b2
  have B3:Hid (iC w R (eJ k (l.drop p))):=b3
  clear b1 b2 b3 rq N
  by_cases bU:p<l.length
  .have Sa:(p:Int)<(l.length:Int):=by omega
   obtain⟨g,o,rfl,hg,s⟩:=HA.out.below B1.out (zAa _) (by omega);have Hs:l.take (p+1)=l.take p++[l[p]]:=zBv bU;have Hd:l.drop p=l[p]::l.drop (p+1):=zFo bU;obtain⟨c0,c1⟩:=s p l[p] (zAf bU);have z:=HS.out l[p] (zCr _);have O:Hid (iY w l[p]):=z;have K:=z.len;have S:=z.cap;clear s z;generalize l[p]=x at*;have HM:Hid (dA ((l.take (p+1)).map (gF k))=dA ((l.take p).map (gF k))++[aK ⟨(gF k x).toArray⟩]):=by rw[Hs];simp[dA];exact trivial
   have HN:Hid (eJ k (l.drop p)=eJ k (x::l.drop (p+1))):=by rw[Hd];exact rfl
   clear Hs Hd
   obtain⟨d,r,n,us⟩:=x
   dsimp only at c0 c1 K S
   generalize Z:eJ k (l.drop p)=D0 at*
   have HD0:Hid (eJ k (l.drop p)=D0):=Z
   clear Z
   go_upto_region 5 with(fail)
   have Hk:Hid (bB (wr.alloc (aI #[aC aD (d:Int),aJ r us.length n] 209)) wr.heap.size 209 #[aC aD (d:Int),aJ r us.length n]):=bB.new _ _ _
   have Hb:Hid (zb w (wr.alloc (aI #[aC aD (d:Int),aJ r us.length n] 209))):=B1.out.alloc B1.out.size _
   have C1:Hid (Own (wr.alloc (aI #[aC aD (d:Int),aJ r us.length n] 209)) w.heap.size 9 u7 p (dA ((l.take p).map (gF k)))):=B2.out.alloc _
   generalize wr.alloc (aI #[aC aD (d:Int),aJ r us.length n] 209)=w1 at*
   clear B1 B2 c0 c1
   go_wp2_with (refine zGq rfl 209 _ rfl wr.heap.size rfl 209 _ (0,0) _ Hk.out ((Qz.cO 209).trans Tryz.underlying209) rfl (by kernel_rfl) ?_)
   refine(tP d us.length n r w1 K).mono ?_
   rintro e w2 ⟨rfl,D⟩
   have M:Hid (bB w2 wr.heap.size 209 #[aC aD (d:Int),aJ r us.length n]):=Hk.out.below D Hk.out.lt
   have H:Hid (zb w w2):=aV Hb.out D Hb.out.size
   have C2:Hid (Own w2 w.heap.size 9 u7 p (dA ((l.take p).map (gF k)))):=C1.out.below D (zAa _)
   clear D Hk Hb C1
   have hbs:w.heap.size<=w2.heap.size:=H.out.size
   by_cases hn:us.length<2
   .have a:Hid (D0=eJ k (l.drop (p+1))):=by rw[HN.out];exact XW k _ _ (by simp only;omega)
    rw[zEi hn];dsimp only;have HG:=zM t k V A (256-d) d n r us w2 rfl O.out.sub O.out.eV K S (O.out.below H.out (zAa _)).tN (HT.out.below H.out (zAa _)) (HP.out.below H.out (zAa _));rw[show dR k (bF us) d=gF k ⟨d,r,n,us⟩from rfl]at HG;generalize gF k ⟨d,r,n,us⟩=DG at*;clear HN O HS HA;go_wp2_with (refine zGq rfl 209 _ rfl wr.heap.size rfl 209 _ (0,0) _ M.out ((Qz.cO 209).trans Tryz.underlying209) rfl (by kernel_rfl) ?_);refine HG.mono ?_;clear HG;rintro e w3 ⟨rfl,h⟩;have b:Hid (zb w w3):=aV H.out h H.out.size;have P:Hid (Own w3 w.heap.size 9 u7 p (dA ((l.take p).map (gF k)))):=C2.out.below h (zAa _);clear h H C2 M;have v:w.heap.size<=w3.heap.size:=b.out.size;dsimp only;go_wp2_with (at_builtin;refine uA rfl _ _ rfl w.heap.size _ _ _ rfl P.out [aK ⟨DG.toArray⟩] 1 rfl (zEj _) (by intro u hu;rw[zAw.1 hu];rfl) (by show p+1<=_;omega) v ?_;intro Q G f B);go_roundg (l.length-(p+1));case measure=>omega
    case rel=>
     go_light
     refine⟨p+1,by omega,by go_num,pI b.out P.out B (zAa _) b.out.size,?_,R,I,?_,?_,?_⟩
     .rw[HM.out];exact f
     .rw[<-a.out]
     .rw[<-a.out];exact Wl
     .rw[<-a.out];exact B3.out
   .have U:2<=us.length:=by omega
    have a:D0=dR k (bF (dW d 0 us)) (d+1)::dR k (bF (dW d 1 us)) (d+1)::eJ k (l.drop (p+1)):=by rw[HN.out];exact GZ k _ _ U
    have hZ:dg k (2::(dR k (bF (dW d 0 us)) (d+1)++dR k (bF (dW d 1 us)) (d+1)))=gF k ⟨d,r,n,us⟩:=(Gd k ⟨d,r,n,us⟩ U O.out.sub).symm
    have hX:=jA k (d+1) (bF (dW d 0 us)) A
    have hY:=jA k (d+1) (bF (dW d 1 us)) A
    rw[zCy hn]
    generalize dR k (bF (dW d 0 us)) (d+1)=X at*
    generalize dR k (bF (dW d 1 us)) (d+1)=Y at*
    generalize gF k ⟨d,r,n,us⟩=DG at*
    obtain⟨g0,J,rfl,W,s⟩:=B3.out (by rw[a];simp)
    have q0:w2.cell? ⟨g0,J,aB⟩=aA (aK ⟨X.toArray⟩):=(H.out.cell (p:=⟨g0,J,aB⟩) W).trans (s 0 X (by rw[a];rfl))
    have q1:w2.cell? ⟨g0,J+1,aB⟩=aA (aK ⟨Y.toArray⟩):=(H.out.cell (p:=⟨g0,J+1,aB⟩) W).trans (s 1 Y (by rw[a];rfl))
    have E:D0.length=(eJ k (l.drop (p+1))).length+2:=by rw[a];rfl
    have HNH:Hid (D0=X::Y::eJ k (l.drop (p+1))):=a
    have j:zb w w2.drew:=H.out.drew
    have HQ:=TC t k X Y w2.drew V A (HT.out.below j (zAa _)) (HP.out.below j (zAa _)) hX hY
    rw[hZ]at HQ
    have y:Hid (zb w w2.drew):=j
    have ss:Hid (Own w2.drew w.heap.size 9 u7 p (dA ((l.take p).map (gF k)))):=C2.out.kept λ_ _=>rfl
    have oa:(0:Int)<(D0.length:Int):=by omega
    have nz:(1:Int)<(D0.length:Int):=by omega
    have m:Hid (D0.length=(eJ k (l.drop (p+1))).length+2):=E
    have ny:(2:Int)<=(D0.length:Int):=by omega
    have ui:(2:Int)<=(I:Int):=by omega
    have vm:0<D0.length:=by omega
    clear a HN s O HS HA M j H C2 E
    dsimp only
    go_wp2_with fail
    go_region_law (first
     |(refine AU rfl _ _ rfl w.heap.size _ _ _ rfl P.out [aK ⟨DG.toArray⟩] 1 rfl (zEj _) (by intro u hu;rw[zAw.1 hu];rfl) (by show p+1<=_;omega) v ?_;intro Q G f B)
     |(go_simp;go_at_call 186;refine HQ.mono ?_;clear HQ;rintro e w3 ⟨rfl,h⟩;
       have b:Hid (zb w w3):=aV y.out h y.out.size;
       have P:Hid (Own w3 w.heap.size 9 u7 p (dA ((l.take p).map (gF k)))):=ss.out.below h (zAa _);
       have v:w.heap.size<=w3.heap.size:=b.out.size;
       clear h;dsimp only))
    all_goals
     have F:w3.grownBy G u7.ownBlock:=B
     have qu:Hid (zb w G):=pI b.out P.out F (zAa _) b.out.size
     have HO:Hid (Own G w.heap.size 9 Q (p+1) (dA ((l.take (p+1)).map (gF k)))):=by rw[HM.out];exact f
     clear B F f b P q0 q1 y ss
     have T:Hid ((eJ k (l.drop (p+1))).length=D0.length-2):=by have:=m.out;show _=_;omega
     go_wp2_with fail
     .go_roundg (l.length-(p+1));case measure=>omega
      case rel=>
       go_light
       refine⟨p+1,by omega,by go_num,qu.out,HO.out,aA ⟨g0,J,aB⟩,0,by rw[T.out],?_,?_⟩
       .have:=m.out;omega
       .intro h0;have:=m.out;omega
     .go_roundg (l.length-(p+1));case measure=>omega
      case rel=>
       go_light
       refine⟨p+1,by omega,by go_num,qu.out,HO.out,aA ⟨g0,J+2,aB⟩,I-2,by rw[T.out],?_,?_⟩
       .have:=m.out;omega
       .have:=(show iC w (aA ⟨g0,J,aB⟩) (X::Y::eJ k (l.drop (p+1))) by rw[<-HNH.out];exact B3.out).two I;rw[zAh (by assumption),zAx,addr_add]at this;obtain this|this:=this
        .exact this
        .omega
  .have Sa:¬(p:Int)<(l.length:Int):=by omega
   obtain rfl:p=l.length:=by omega
   have C:Hid (Own wr w.heap.size 9 u7 l.length (dA (l.map (gF k)))):=by have:=B2.out;rw[zEf]at this;exact this
   clear B2
   go_wp2
   go_ret
   exact⟨u7,rfl,C.out,B1.out⟩
open Go.RowKit Sha Go.Ga Go.Ren Go.Tr
def RF (R:zR)(e:Ending)(w:zW):Prop:=(∃x,e=aL x/\R x w)\/∃c,e= .panicked c/\mY c w
def RF.of {R:zR}{x:zY}{w:zW}(h:R x w):RF R (aL x) w:=aG ⟨x,rfl,h⟩
def RF.told {R:zR}{c:List PanicEntry}{w:zW}(h:mY c w):RF R (.panicked c) w:=aH ⟨c,rfl,h⟩
def mV {D:zP}{w W:zW}{b i:Nat}{v:zY}(h:rS D w W)(f:D b)(a:w.cell? ⟨b,i,aB⟩=aA v):W.cell? ⟨b,i,aB⟩=aA v:=by
 cases d:w.heap[b]? with
 |none=>simp[World.cell?,d]at a
 |some o=>
  obtain e|⟨c,t,j,g,rfl,e⟩:=h b f o d
  .simp only[World.cell?,d]at a;simp only[World.cell?,e];exact a
  .simp only[World.cell?,d]at a;simp only[World.cell?,e];exact a
def uK {D:zP}{w W:zW}{b:Nat}(h:rS D w W)(f:D b)(d:b<w.heap.size):b<W.heap.size:=by
 have e:=zAs d;obtain a|⟨c,t,i,g,_,a⟩:=h b f _ e
 .exact(zAb.1 a).1
 .exact(zAb.1 a).1
def dO.wD {D:zP}{w W:zW}(h:dO w)(a:rS D w W)(c:D 0)(b:D 2):dO W:=
 ⟨⟨uK a b h.qN.1,λt d=>mV a b (h.qN.2 t d)⟩,uK a c h.lt,λj v e=>by have:=h.lZ j v e;exact mV a c this⟩
def kM.wD {D:zP}{w W:zW}{t k:Nat}(h:kM w t k)(a:rS D w W)(b:D t):kM W t k:=⟨uK a b h.lt,mV a b h.wid,mV a b h.emp⟩
def bI.wD {D:zP}{w W:zW}{va:zO}{us:List bK}(h:bI w va us)(c:rS D w W)(k:∀a,va=aA a->D a.block):bI W va us:=λl=>by obtain⟨g,o,e,f,i⟩:=h l;have b:=k _ e;exact⟨g,o,e,uK c b f,λj u d=>mV c b (i j u d)⟩
structure Nj (D:zP)(t k:Nat)(w:zW):Prop where
 k1:1<=k
 k2:k<=32
 plain:Plain zq Qw.Al D w
 g0:D 0
 g2:D 2
 top:D t
 mZ:dO w
 at':kM w t k
def Nj.below {D:zP}{t k B:Nat}{w w':zW}(h:Nj D t k w)(a:Below B w w')(c:w.heap.size<=B):Nj D t k w':=by refine⟨h.k1,h.k2,⟨h.plain.ok,zAc h.plain.low a.size,λb d=> ?_⟩,h.g0,h.g2,h.top,h.mZ.below a c,h.at'.below a c⟩;rw[a.block b (zAc (yB h.plain d) c)];exact h.plain.blk b d
def Hg (D:zP)(x:Tr):Prop:=∀a,x.va=aA a->D a.block
def YO {D:zP}{t k:Nat}{w:zW}(m:Nj D t k w)(va:zO)(c:Nat)(l:List Tr)(H:lE w va l)(I:l.length<=1000)(hs:∀x∈l,iY w x/\Hg D x):
  Calls zq 170 #[aJ va l.length c,.func (.func 171) #[aN (aA ⟨t,0,aB⟩)] #[]] w (RF λx p=>∃v c',x=aJ v l.length c'/\l.length<=c'/\iC p v (l.map (gF k))/\zb w p):=by
 obtain⟨bp,o,r,u,B⟩:∃bp o,(0<l.length->va=aA ⟨bp,o,aB⟩)/\(0<l.length->bp<w.heap.size)/\∀i x,l[i]? =aA x->w.cell? ⟨bp,o+i*2,aB⟩=aA (aC aD (x.d:Int))/\w.cell? ⟨bp,o+i*2+1,aB⟩=aA (aJ x.va x.us.length x.c):=by
  by_cases z:0<l.length
  .obtain⟨g,o,e,C,s⟩:=H z;exact⟨g,o,λ_=>e,λ_=>C,s⟩
  .refine⟨0,0,λh=>absurd h z,λh=>absurd h z,λi x b=> ?_⟩;have:=(zAi.1 b).1;omega
 have f:∀i,i<l.length->∃x,l[i]? =aA x/\x∈l:=λi j=>⟨l[i],zAf j,zCr _⟩
 have hF:Co l.length va bp o t D (λi=>(((l[i]?).map λx=>(x.d:Int)).getD 0)) (λi=>(l[i]?).bind (·.va)) (λi=>((l[i]?).map λx=>x.us.length).getD 0) (λi=>((l[i]?).map λx=>x.c).getD 0) (λi=>⟨(((l[i]?).map (gF k)).getD []).toArray⟩) w:=by
  refine⟨by omega,r,u,λi j=> ?_,λi j=> ?_,m.plain,m.top,λi j a E=> ?_,λi j W y=> ?_⟩
  .obtain⟨x,b,_⟩:=f i j;simp only[b,zAx,zCc];exact(B i x b).1
  .obtain⟨x,b,_⟩:=f i j;simp only[b,zAx,zCc,zCw];exact(B i x b).2
  .obtain⟨x,b,q⟩:=f i j;simp only[b,zCw]at E;exact(hs x q).2 a E
  .obtain⟨x,b,q⟩:=f i j;simp only[b,zAx,zCc,zCw];have n:=(hs x q).1;exact zM t k m.k1 m.k2 (256-x.d) x.d x.c x.va x.us W rfl n.sub n.eV n.len n.cap (n.tN.wD y (hs x q).2) (m.mZ.wD y m.g0 m.g2) (m.at'.wD y m.top)
 refine(Rk (cp:=c) hF).mono λe p h=> ?_
 obtain⟨g,eV,rfl,G,C,A,F,s⟩|⟨ch,rfl,he⟩:=h
 .refine .of ⟨aA ⟨g,0,aB⟩,l.length,rfl,zAa _,λ_=>⟨g,0,rfl,(zAb.1 A).1,λi x b=> ?_⟩,G⟩;have j:=(zAi.1 b).1;rw[zDd]at j;rw[zAv,zGy p g i eV 9 (0,0) A,s i j];rw[zEk]at b;rw[b];rfl
 .exact .told he
open Go
@[simp]theorem dy:zq.stoodInHeld 76=aF:=by kernel_rfl
@[simp]theorem kl:zq.eqGuardType zq.depth 76=aF:=by kernel_rfl
@[simp]theorem dz:zq.stoodInHeld 53=aF:=by kernel_rfl
@[simp]theorem km:zq.eqGuardType zq.depth 53=aF:=by kernel_rfl
def ZY (w:zW)(d:zY)(e:Int)(k:Nat)(l:List gL):Prop:=∀W,zb w W->Calls zq 21 #[d,aC aD e] W (RF λx a=>x= .tuple #[aK ⟨(dR k l 0).toArray⟩,aC aD 0]/\zb W a)
def PS (w:zW)(d:zY)(e:Int)(k:Nat)(l:List gL):Prop:=∀W,zb w W->∀I:zB,I.length=32->Calls zq 24 #[d,aC aD e,aK ⟨I.toArray⟩] W (RF λx a=>x= .tuple #[aK ⟨(fD k (dY k I 256 l 0)).toArray⟩,aC aD 0]/\zb W a)
def NN (D:zB):∀S:zLL,(∀x∈S,x.length<=32)->(eP D S).length<=32*S.length
 |[],_=>zAa _
 |x::S,h=>by
  have i:=NN D S λy a=>h y (zBe _ a);have b:=h x (zAz ..);rw[eP,zAj,zAe];split
  .simp only[zBm];omega
  .omega
def UI {k:Nat}{I:zB}{p:PW}(b:k<=32)(h:Cl k I p):(fD k p).length<=10000:=by
 have g:=NN (dg k [0]) p.bM λx c=>by rw[h.Xj x c];exact b
 have a:=tB (idx:=I) b (vX h)
 have f:(sY p).length<=100:=by
  unfold sY;split
  .exact a.value
  .split
   .rw[zAj];have:=a.other;have:=a.dM;omega
   .simp
 have e:(fD k p).length=3+(p.bM.length+7)/8+(eP (dg k [0]) p.bM).length+(sY p).length:=uR (X:=sY p)
 have d:=h.depth
 omega
def XI (s:St)(d:zY)(z n:Int)(k:Nat)(w:zW)(hT:dO w)(Q:1<=k)(i:k<=32)(N:∀k v,s k=aA v->v.length<=100)
  (hR:ZY w d z k (bL s)) (hP:PS w d z k (bL s)) (h1: -9223372036854775808<=n) (h2:n<=9223372036854775807):
  Calls zq 32 #[.agg (dJ s),d,aC aD z,aC aD n] w (RF λx L=>x= .bool aE/\zb w L):=by
 have HT:Hid (dO w):=hT
 have HR:Hid (ZY w d z k (bL s)):=hR
 have HP:Hid (PS w d z k (bL s)):=hP
 obtain⟨m,hm,h⟩:=gO n 64 (by omega)
 have j:eF n 64=(m:Int):=hm
 have y:idxOf n=ix m:=by rw[IF,j,zFl]
 have H:=λW=>oF n 64 W h1 h2 (by omega) (by omega)
 rw[j]at H
 have g:=λW=>pG n W h1 h2
 rw[y]at g
 have f:=Cx (k:=k) (I:=ix m) Q i (qG m) (AV N)
 rw[Tw N m h]at f
 have HS:Hid (verdict (dR k (bL s) 0) (ix m) (fD k (dY k (ix m) 256 (bL s) 0))=((GG (s m)).1,(GG (s m)).2,0)):=f
 have HI:Hid (∀W,Calls zq 22 #[aC aD n] W λe L=>e=aL (aK ⟨(ix m).toArray⟩)/\zb W L):=g
 have S:Hid ((ix m).length=32):=qG m
 have Hpl:Hid ((fD k (dY k (ix m) 256 (bL s) 0)).length<=10000):=UI i (QJ (k:=k) i (qG m) (AV N)).1
 have Hrl:Hid ((dR k (bL s) 0).length<=32):=by
  have:=eC k (gM k (256-0) (bL s) 0) i;show(dg k _).length<=32
  omega
 clear hT hR hP hm j y g f
 have a:Hid (dJ s=nA (λk=>(s k).isSome) (λk=>(s k).getD [])):=rfl
 generalize dJ s=R at*
 go_enter Qz.func32,Tryz.ntmps32
 go_wp2_with fail
 refine(H _).mono ?_
 rintro e w1 ⟨rfl,M⟩
 subst M
 have J:Hid (zb w (w.alloc (aI R 43))):=(zGp _ _).alloc (zAa _) _
 have K1:Hid (bB (w.alloc (aI R 43)) w.heap.size 43 R):=bB.new _ _ _
 generalize w.alloc (aI R 43)=w1 at*
 go_wp2_with fail
 refine(HR.out w1 J.out).mono ?_
 rintro e w2 (⟨_,rfl,rfl,r⟩|⟨c,rfl,he⟩)
 rotate_left
 .exact⟨rfl,.told he⟩
 have B2:Hid (zb w w2):=J.out.trans (r.mono J.out.size)
 have Z:Hid (bB w2 w.heap.size 43 R):=K1.out.below r K1.out.lt
 clear r J K1
 go_wp2_with fail
 refine(HI.out w2).mono ?_
 rintro e w3 ⟨rfl,q⟩
 have F:Hid (zb w w3):=B2.out.trans (q.mono B2.out.size)
 have Y:Hid (bB w3 w.heap.size 43 R):=Z.out.below q Z.out.lt
 clear q B2 Z
 go_wp2_with fail
 refine(HP.out w3 F.out (ix m) S.out).mono ?_
 rintro e w4 (⟨_,rfl,rfl,p⟩|⟨c,rfl,he⟩)
 rotate_left
 .exact⟨rfl,.told he⟩
 have B4:Hid (zb w w4):=F.out.trans (p.mono F.out.size)
 have X:Hid (bB w4 w.heap.size 43 R):=Y.out.below p Y.out.lt
 clear p F Y
 go_wp2_with fail
 refine(HI.out w4).mono ?_
 rintro e w5 ⟨rfl,o⟩
 have E:Hid (zb w w5):=B4.out.trans (o.mono B4.out.size)
 have U:Hid (bB w5 w.heap.size 43 R):=X.out.below o X.out.lt
 clear o B4 X
 go_wp2_with fail
 refine(DC ⟨(dR k (bL s) 0).toArray⟩ ⟨(ix m).toArray⟩ ⟨(fD k (dY k (ix m) 256 (bL s) 0)).toArray⟩ w5 (by have:=Hpl.out;show _<=_;simp only[ByteArray.size,zAl];omega) (by have:=Hrl.out;show _<=_;simp only[ByteArray.size,zAl];omega) (HT.out.below (E.out) (zAa _))).mono ?_
 dsimp only
 rw[HS.out]
 rintro e w6 ⟨l,rfl⟩
 have B:Hid (zb w w6):=E.out.trans (l.mono E.out.size)
 have A:Hid (bB w6 w.heap.size 43 R):=U.out.below l U.out.lt
 clear l E U HS HP HR HI H
 generalize dR k (bL s) 0=RT at*
 generalize fD k (dY k (ix m) 256 (bL s) 0)=PT at*
 generalize ix m=IX at*
 have hgv:w.heap.size<w6.heap.size:=A.out.lt
 cases u:s m with
 |some V=>
  have T:GG (aA V)=(1,V):=rfl;rw[T];dsimp only[gV];go_upto_region 6 with(fail)
  have D:Hid (zb w ((w6.alloc (aI #[aC aD 1,aK ⟨V.toArray⟩] 76)).alloc (aI #[aC aD 2,aK ⟨#[]⟩] 76))):=(B.out.alloc B.out.size _).alloc (by rw[size_alloc];have:=B.out.size;omega) _
  have K:Hid (bB ((w6.alloc (aI #[aC aD 1,aK ⟨V.toArray⟩] 76)).alloc (aI #[aC aD 2,aK ⟨#[]⟩] 76)) w.heap.size 43 R):=(A.out.alloc _).alloc _
  have G:Hid (bB ((w6.alloc (aI #[aC aD 1,aK ⟨V.toArray⟩] 76)).alloc (aI #[aC aD 2,aK ⟨#[]⟩] 76)) w6.heap.size 76 #[aC aD 1,aK ⟨V.toArray⟩]):=(bB.new _ _ _).alloc _
  have t:Hid (bB ((w6.alloc (aI #[aC aD 1,aK ⟨V.toArray⟩] 76)).alloc (aI #[aC aD 2,aK ⟨#[]⟩] 76)) (w6.heap.size+1) 76 #[aC aD 2,aK ⟨#[]⟩]):=by have:=bB.new (w6.alloc (aI #[aC aD 1,aK ⟨V.toArray⟩] 76)) 76 #[aC aD 2,aK ⟨#[]⟩];rw[size_alloc]at this;exact this
  generalize((w6.alloc (aI #[aC aD 1,aK ⟨V.toArray⟩] 76)).alloc (aI #[aC aD 2,aK ⟨#[]⟩] 76))=b at*
  clear B A
  have q0:b.cell? ⟨w.heap.size,m,aB⟩=aA (.bool (s m).isSome):=by rw[K.out.cell,a.out];exact mD _ _ m h
  have q1:b.cell? ⟨w.heap.size,64+m,aB⟩=aA (aK ⟨((s m).getD []).toArray⟩):=by rw[K.out.cell,a.out];exact mC _ _ m h
  rw[u]at q0 q1
  dsimp only[aDK,aDL]at q0 q1
  have O:(m:Int)<64:=by omega
  have P:(0:Int)<=(m:Int):=by omega
  go_upto_region 8 with(refine zGs rfl 76 _ _ rfl (w6.heap.size+1) #[aC aD 1,aK ⟨V.toArray⟩] rfl rfl _ _ t.out (by kernel_rfl) rfl (by simp[Value.oneCell']) ?_)
  have B8:Hid (zb w (b.setRow (w6.heap.size+1) #[aC aD 1,aK ⟨V.toArray⟩])):=bN D.out (by omega) _
  have G8:Hid (bB (b.setRow (w6.heap.size+1) #[aC aD 1,aK ⟨V.toArray⟩]) w6.heap.size 76 #[aC aD 1,aK ⟨V.toArray⟩]):=G.out.fW _ (by omega)
  have H8:Hid (bB (b.setRow (w6.heap.size+1) #[aC aD 1,aK ⟨V.toArray⟩]) (w6.heap.size+1) 76 #[aC aD 1,aK ⟨V.toArray⟩]):=t.out.cH _
  generalize b.setRow (w6.heap.size+1) #[aC aD 1,aK ⟨V.toArray⟩]=C at*
  clear D G t K q0 q1
  have p0:C.cell? ⟨w6.heap.size,0,aB⟩=aA (aC aD 1):=(G8.out.cell 0).trans rfl
  have p1:C.cell? ⟨w6.heap.size,1,aB⟩=aA (aK ⟨V.toArray⟩):=(G8.out.cell 1).trans rfl
  have p2:C.cell? ⟨w6.heap.size+1,0,aB⟩=aA (aC aD 1):=(H8.out.cell 0).trans rfl
  have p3:C.cell? ⟨w6.heap.size+1,1,aB⟩=aA (aK ⟨V.toArray⟩):=(H8.out.cell 1).trans rfl
  go_wp2
  go_ret
  exact .of ⟨by simp,B8.out⟩
 |none=>
  have T:GG aB=(2,[]):=rfl;rw[T];dsimp only[gV];go_upto_region 6 with(fail)
  have D:Hid (zb w ((w6.alloc (aI #[aC aD 2,aK ⟨#[]⟩] 76)).alloc (aI #[aC aD 2,aK ⟨#[]⟩] 76))):=(B.out.alloc B.out.size _).alloc (by rw[size_alloc];have:=B.out.size;omega) _
  have K:Hid (bB ((w6.alloc (aI #[aC aD 2,aK ⟨#[]⟩] 76)).alloc (aI #[aC aD 2,aK ⟨#[]⟩] 76)) w.heap.size 43 R):=(A.out.alloc _).alloc _
  have G:Hid (bB ((w6.alloc (aI #[aC aD 2,aK ⟨#[]⟩] 76)).alloc (aI #[aC aD 2,aK ⟨#[]⟩] 76)) w6.heap.size 76 #[aC aD 2,aK ⟨#[]⟩]):=(bB.new _ _ _).alloc _
  have t:Hid (bB ((w6.alloc (aI #[aC aD 2,aK ⟨#[]⟩] 76)).alloc (aI #[aC aD 2,aK ⟨#[]⟩] 76)) (w6.heap.size+1) 76 #[aC aD 2,aK ⟨#[]⟩]):=by have:=bB.new (w6.alloc (aI #[aC aD 2,aK ⟨#[]⟩] 76)) 76 #[aC aD 2,aK ⟨#[]⟩];rw[size_alloc]at this;exact this
  generalize((w6.alloc (aI #[aC aD 2,aK ⟨#[]⟩] 76)).alloc (aI #[aC aD 2,aK ⟨#[]⟩] 76))=b at*
  clear B A
  have q0:b.cell? ⟨w.heap.size,m,aB⟩=aA (.bool (s m).isSome):=by rw[K.out.cell,a.out];exact mD _ _ m h
  have q1:b.cell? ⟨w.heap.size,64+m,aB⟩=aA (aK ⟨((s m).getD []).toArray⟩):=by rw[K.out.cell,a.out];exact mC _ _ m h
  rw[u]at q0 q1
  dsimp only[aDK,aDL]at q0 q1
  have O:(m:Int)<64:=by omega
  have P:(0:Int)<=(m:Int):=by omega
  have p0:b.cell? ⟨w6.heap.size,0,aB⟩=aA (aC aD 2):=(G.out.cell 0).trans rfl
  have p1:b.cell? ⟨w6.heap.size,1,aB⟩=aA (aK ⟨#[]⟩):=(G.out.cell 1).trans rfl
  have p2:b.cell? ⟨w6.heap.size+1,0,aB⟩=aA (aC aD 2):=(t.out.cell 0).trans rfl
  have p3:b.cell? ⟨w6.heap.size+1,1,aB⟩=aA (aK ⟨#[]⟩):=(t.out.cell 1).trans rfl
  go_wp2
  go_ret
  exact .of ⟨by simp,D.out⟩
def tO (e:gL):bK:=⟨e.1,e.2,aF⟩
def CG (w:zW)(d:zY)(b:Int)(l:List gL):Prop:=∀W,zb w W->Calls zq 49 #[d,aC aD b] W λe a=>∃v,e=aL (.tuple #[v,aC aD 0])/\cI a W.heap.size v (l.map tO)/\zb W a
def jQ (s:St)(k:Nat):Nat:=((List.range k).filterMap (dH s)).length
def Ei (s:St)(k:Nat):jQ s (k+1)=jQ s k+(if(s k).isSome then 1 else 0):=by
 unfold jQ;rw[List.range_succ,zDs,zAj];congr 1;cases h:s k with
 |none=>simp[dH,h]
 |some v=>simp[dH,h]
def Pt (s:St)(k:Nat)(a:k<64)(v:zB)(h:s k=aA v):(bL s)[jQ s k]? =aA (ix k,v)/\jQ s k<(bL s).length:=by
 have e:(bL s)[jQ s k]? =aA (ix k,v):=by
  unfold bL;rw[range_split k a,zDs,zBq (show((List.range k).filterMap (dH s)).length<=jQ s k from zAa _)];show(List.filterMap (dH s) _)[jQ s k-jQ s k]? =_
  rw[zGa,zDz]
  simp[dH,h]
 exact⟨e,(zAi.1 e).1⟩
def GN (s:St):jQ s 64=(bL s).length:=rfl
def Ax (s:St):∀k,jQ s k<=k:=λk=>by have:=zGk (dH s) (List.range k);rw[List.length_range]at this;exact this
def cI.len {w:zW}{base:Nat}{v:zY}{l:List bK}(h:cI w base v l):∃va c,v=aJ va l.length c/\(0<l.length->∃g,va=aA ⟨g,0,aB⟩/\base<=g/\g<w.heap.size):=by
 obtain⟨rfl,b⟩|⟨g,cap,cur,rfl,hb,a,_⟩:=h.2
 .exact⟨aB,0,by rw[b],λd=>by omega⟩
 .exact⟨_,cap,rfl,λ_=>⟨g,rfl,hb,(zAb.1 a).1⟩⟩
def cI.cellAt {w:zW}{base g c:Nat}{l:List bK}(h:cI w base (aJ (aA ⟨g,0,aB⟩) l.length c) l)(i:Nat)(u:bK)(a:l[i]? =aA u)(j:Nat)(b:j<3):w.cell? ⟨g,i*3+j,aB⟩=u.cells[j]? :=by have d:=(zAi.1 a).1;rw[World.ownsRow.cellAt h (i*3+j) (by omega)];exact qU l i u a j b
def Fe (s:St)(d:zY)(E:Int)(w:zW)(Q:CG w d E (bL s)):
  Calls zq 31 #[.agg (dJ s),d,aC aD E] w λe D=>e=aL (.bool aE)/\zb w D:=by
 have X:Hid (CG w d E (bL s)):=Q
 clear Q
 have m:Hid (dJ s=nA (λk=>(s k).isSome) (λk=>(s k).getD [])):=rfl
 have P:((bL s).map tO).length<=64:=by rw[zDd,<-GN];exact Ax s 64
 have A:Hid (((bL s).map tO).length=jQ s 64):=by show _=_;rw[zDd,GN]
 have N:Hid (∀k v,k<64->s k=aA v->((bL s).map tO)[jQ s k]? =aA ⟨ix k,v,aF⟩/\jQ s k<((bL s).map tO).length):=λk v hk h=>by obtain⟨h1,h2⟩:=Pt s k hk v h;exact⟨by rw[zEk,h1];rfl,by rw[zDd];exact h2⟩
 have B:Hid (∀W,zb w W->Calls zq 49 #[d,aC aD E] W λe D=>∃v,e=aL (.tuple #[v,aC aD 0])/\cI D W.heap.size v ((bL s).map tO)/\zb W D):=X.out
 generalize(bL s).map tO=L at*
 clear X
 generalize dJ s=R at*
 go_enter Qz.func31,Tryz.ntmps31
 go_wp2_with fail
 have G:Hid (zb w (w.alloc (aI R 43))):=(zGp _ _).alloc (zAa _) _
 have K1:Hid (bB (w.alloc (aI R 43)) w.heap.size 43 R):=bB.new _ _ _
 generalize w.alloc (aI R 43)=w1 at*
 refine(B.out w1 G.out).mono ?_
 rintro e w2 ⟨v,rfl,n,u⟩
 have B2:Hid (zb w w2):=G.out.trans (u.mono G.out.size)
 have U:Hid (bB w2 w.heap.size 43 R):=K1.out.below u K1.out.lt
 have T:Hid (cI w2 w1.heap.size v L):=n
 clear u G K1 n B
 obtain⟨va,Y,rfl,r⟩:=T.out.len
 go_upto_region 6 with(fail)
 go_loopg [9,10] 64 (λq a i wr=>∃t:Nat,t+q=64/\i=aC aD (t:Int)/\a=aC aD (jQ s t:Nat)/\zb w wr/\zb w2 wr)
 case atStart=>exact⟨0,rfl,rfl,rfl,B2.out,zGp _ _⟩
 case round=>
  obtain⟨t,ht,rfl,rfl,b1,S⟩:=hrel
  have F:Hid (zb w wr):=b1
  have C:Hid (zb w2 wr):=S
  clear b1 S
  by_cases bU:t<64
  .have M:Hid (bB wr w.heap.size 43 R):=U.out.below C.out U.out.lt;have O3:Hid (cI wr w1.heap.size (aJ va L.length Y) L):=T.out.below C.out (zAa _);have q0:wr.cell? ⟨w.heap.size,t,aB⟩=aA (.bool (s t).isSome):=by rw[M.out.cell,m.out];exact mD _ _ t bU
   have Sa:(t:Int)<64:=by omega
   have uv:(0:Int)<=(t:Int):=by omega
   have f:=Ei s t
   cases l:s t with
   |none=>
    rw[l]at q0 f;dsimp only[aDK]at q0 f;have c:jQ s (t+1)=jQ s t:=f;have y:Hid (jQ s (t+1)=jQ s t):=c;clear f c;go_wp2_with fail;go_roundg (63-t);case measure=>omega
    case rel=>
     go_light
     exact⟨t+1,by omega,by go_num,by rw[y.out],F.out,C.out⟩
   |some V=>
    rw[l]at q0 f;dsimp only[aDK]at q0 f;have c:jQ s (t+1)=jQ s t+1:=f;have y:Hid (jQ s (t+1)=jQ s t+1):=c;obtain⟨ha,hb⟩:=N.out t V bU l;obtain⟨g,rfl,jb,ja⟩:=r (by omega);clear f c;have hrk:(jQ s t:Int)<(L.length:Int):=by omega
    have vh:(0:Int)<=(jQ s t:Int):=by omega
    have HA:Hid (L[jQ s t]? =aA ⟨ix t,V,aF⟩):=ha
    have H:Hid (∀(b:Nat)(os:zJ)(j:Nat),j<3->(Go.Sort.grow (redrawn wr b) os).cell? ⟨g,jQ s t*3+j,aB⟩=(⟨ix t,V,aF⟩:bK).cells[j]?):=λb os j hj=>
     (O3.out.below (zGr wr b os) (zAa _)).cellAt _ _ HA.out j hj
    have o:Hid (∀(b:Nat)(os:zJ),(Go.Sort.grow (redrawn wr b) os).cell? ⟨w.heap.size,64+t,aB⟩=aA (aK ⟨V.toArray⟩)):=λb os=>by have:=M.out.below (zGr wr b os) M.out.lt;rw[this.cell,m.out,mC _ _ t bU,l];rfl
    have x:Hid (∀(b:Nat)(os:zJ),Calls zq 22 #[aC aD (t:Int)] (Go.Sort.grow (redrawn wr b) os) λe I=>e=aL (aK ⟨(ix t).toArray⟩)/\∃p:Regrown,I=Go.Sort.grow (redrawn wr p.d) p.os):=λb os=>
     zHd (pG (t:Int) (Go.Sort.grow (redrawn wr b) os) (by omega) (by omega))
    have cv:=o.out
    have c0:∀(b:Nat)(os:zJ),(Go.Sort.grow (redrawn wr b) os).cell? ⟨g,jQ s t*3,aB⟩=aA (aK ⟨(ix t).toArray⟩):=λb os=>H.out b os 0 (by omega)
    have c1:∀(b:Nat)(os:zJ),(Go.Sort.grow (redrawn wr b) os).cell? ⟨g,jQ s t*3+1,aB⟩=aA (aK ⟨V.toArray⟩):=λb os=>H.out b os 1 (by omega)
    have c2:∀(b:Nat)(os:zJ),(Go.Sort.grow (redrawn wr b) os).cell? ⟨g,jQ s t*3+2,aB⟩=aA (.bool aF):=λb os=>H.out b os 2 (by omega)
    generalize ix t=IX at*
    generalize jQ s t=Z at*
    go_wp2_with fail
    refine zGv (by kernel_rfl) (by kernel_rfl) ?_
    repeat (any_goals(first|go_big_quiet_step ((exact x.out _ _))|quiet_step ((exact x.out _ _))))
    have K:decide (L.length<=Z)=aF:=by rw[zEg];omega
    rw[K]
    refine zHc ?_
    intro W1 J
    obtain⟨p,O⟩:=J
    have z:Hid (zb wr W1):=by rw[O];exact zGr wr p.d p.os
    clear O x c0 c1 c2 cv H o
    go_wp2_with fail
    go_roundg (63-t)
    case measure=>omega
    case rel=>
     go_light
     exact⟨t+1,by omega,by go_num,by rw[y.out];go_num,F.out.trans (z.out.mono F.out.size),C.out.trans (z.out.mono C.out.size)⟩
  .obtain rfl:t=64:=by omega
   have hq:(jQ s 64:Int)=(L.length:Int):=by rw[A.out]
   rw[hq]
   go_wp2_with fail
   go_ret
   exact⟨by simp,F.out⟩
def iI.tG {k:Nat}{l m:List Tr}(h:iI l m)(c:∀x∈l,2<=x.us.length):m.map (gF k)=eJ k l:=by
 induction h with
 |nil=>rfl
 | @snoc l m x y z j a i=>
  have i:=i λx b=>c x (List.mem_append_left _ b);have b:=c x (by simp);have e:eJ k (l++[x])=eJ k l++eJ k [x]:=by unfold eJ;rw[zEd,List.flatMap_append]
  rw[e,zFa,i,GZ k x [] b]
  have g:gF k y=dR k (bF (dW x.d 0 x.us)) (x.d+1):=by unfold gF;rw[a.u0,a.d0]
  have f:gF k z=dR k (bF (dW x.d 1 x.us)) (x.d+1):=by unfold gF;rw[a.u1,a.d1]
  rw[<-g,<-f]
  rfl
def iI.prop {D:zP}{n:Nat}{l m:List Tr}(h:iI l m)(k:∀x∈l,Hg D x/\256-(n+1)<=x.d):∀y∈m,Hg D y/\256-n<=y.d:=by
 induction h with
 |nil=>intro y p;cases p
 | @snoc l m x y z r f i=>
  have i:=i λx q=>k x (List.mem_append_left _ q);obtain⟨o,s⟩:=k x (by simp);intro u c;obtain c|c:=zCh.1 c
  .exact i u c
  .obtain rfl|c:=zAg.1 c
   .exact⟨λa j=>by obtain⟨b,g,e⟩:=f.b0 a j;rw[<-e];exact o b g,by rw[f.d0];omega⟩
   .rw[zAw.1 c];exact⟨λa j=>by obtain⟨b,g,e⟩:=f.b1 a j;rw[<-e];exact o b g,by rw[f.d1];omega⟩
def TF (k:Nat)(l:List Tr):eJ k (l.filter isNode)=eJ k l:=by unfold eJ;rw[zGh];congr 1;apply List.filter_congr;intro x _;rw[Bool.and_self]
@[simp]theorem Vq (xs:zA) (w:zW):(callFunc 170 xs).run zq w= .ok (.enter 170 xs) w:=Qz.call Qz.func170 (by kernel_rfl) rfl xs w
def CB (t k:Nat)(v:zY)(l:List Tr)(w:zW):Prop:=Calls zq 160 #[aN (aA ⟨t,0,aB⟩),v] w (RF λx b=>∃a c',x=aJ a l.length c'/\l.length<=c'/\iC b a (l.map (gF k))/\zb w b)
def wZ {D:zP}(t k n c:Nat)(va:zO)(l:List Tr)(w:zW)(hE:Nj D t k w)(hA:lE w va l)(hl:l.length<=1000)(hs:∀x∈l,iY w x/\Hg D x)
  (hd:∀x∈l,2<=x.us.length->256-n<=x.d) (ih:∀(va:zO)(c:Nat)(l:List Tr)(w:zW),0<n->Nj D t k w->lE w va l->l.length<=1000->(∀x∈l,iY w x/\Hg D x)->(∀x∈l,2<=x.us.length->256-(n-1)<=x.d)->CB t k (aJ va l.length c) l w):
  CB t k (aJ va l.length c) l w:=by
 have X:Hid (Nj D t k w):=hE
 have HA:Hid (lE w va l):=hA
 have E:Hid (∀x∈l,iY w x/\Hg D x):=hs
 have Y:Hid (∀x∈l,2<=x.us.length->256-n<=x.d):=hd
 have HI:Hid (∀(va:zO)(c:Nat)(l:List Tr)(w:zW),0<n->Nj D t k w->lE w va l->l.length<=1000->(∀x∈l,iY w x/\Hg D x)->(∀x∈l,2<=x.us.length->256-(n-1)<=x.d)->CB t k (aJ va l.length c) l w):=ih
 have HN:=Ex va c l w hA hl λx a=>(hs x a).1.len
 clear hE hA hs hd ih
 unfold CB
 go_enter Qz.func160,Tryz.ntmps160
 go_wp2_with fail
 refine HN.mono ?_
 clear HN
 rintro e w1 ⟨v1,rfl,I,hb⟩
 obtain⟨a1,c1,rfl,P⟩:=I.at
 have B:Hid (lE w1 a1 (l.filter isNode)):=P
 have H:Hid (zb w w1):=hb
 have hfl:(l.filter isNode).length<=l.length:=List.length_filter_le _ _
 clear I hb P
 dsimp only
 by_cases hg:(l.filter isNode).length=0\/16<=(l.filter isNode).length
 .have W:=YO (X.out.below H.out (zAa _)) va c l (HA.out.below H.out (zAa _)) hl λx a=>⟨(E.out x a).1.below H.out (zAa _),(E.out x a).2⟩;generalize(l.filter isNode).length=L at*;have y:((L:Int)=0)\/(16<=(L:Int)/\¬(L:Int)=0):=by omega
  clear HI Y E HA X B;obtain y|⟨y,xm⟩:=y
  .go_wp2_with fail;refine W.mono ?_;clear W;rintro e w2 (⟨x,rfl,v,c',rfl,j,b,u⟩|⟨ch,rfl,he⟩)
   .have f:Hid (zb w w2):=aV H.out u H.out.size;have H2:Hid (iC w2 v (l.map (gF k))):=b;clear b u;go_wp2;go_ret;exact .of ⟨v,c',rfl,j,H2.out,f.out⟩
   .exact⟨rfl,.told he⟩
  .have xl:((L:Int)==0)=aF:=by simpa using xm
   go_wp2_with fail;refine W.mono ?_;clear W;rintro e w2 (⟨x,rfl,v,c',rfl,j,b,u⟩|⟨ch,rfl,he⟩)
   .have f:Hid (zb w w2):=aV H.out u H.out.size;have H2:Hid (iC w2 v (l.map (gF k))):=b;clear b u;go_wp2;go_ret;exact .of ⟨v,c',rfl,j,H2.out,f.out⟩
   .exact⟨rfl,.told he⟩
 .have o:∀x∈l.filter isNode,iY w1 x/\2<=x.us.length:=λx a=>by
   obtain⟨j,b⟩:=zBz.1 a;exact⟨(E.out x j).1.below H.out (zAa _),by simpa [isNode]using b⟩
  have Z:0<n:=by obtain⟨x,a⟩:=List.exists_mem_of_length_pos (l:=l.filter isNode) (by omega);obtain⟨j,b⟩:=o x a;have:=Y.out x (zBz.1 a).1 b;have:=j.sub.deep b;omega
  have Q:=XK a1 c1 (l.filter isNode) w1 B.out (by omega) o
  have A:Hid (∀x∈l.filter isNode,Hg D x/\256-(n-1+1)<=x.d):=λx a=>by have j:=(zBz.1 a).1;exact⟨(E.out x j).2,by have:=Y.out x j (o x a).2;omega⟩
  have N:Hid (∀x∈l.filter isNode,2<=x.us.length):=λx a=>(o x a).2
  have HW:Hid (w.heap.size<=w1.heap.size):=H.out.size
  have M:Hid (eJ k (l.filter isNode)=eJ k l):=TF k l
  generalize l.filter isNode=F at*
  have Wo:¬(F.length:Int)=0:=by omega
  have jb:¬(16:Int)<=(F.length:Int):=by omega
  have xv:((F.length:Int)==0)=aF:=by simpa using Wo
  have ox:F.length<16:=by omega
  clear B o Y hg
  go_wp2_with fail
  refine Q.mono ?_
  clear Q
  rintro e w2 ⟨v2,m,rfl,p,J,s,z⟩
  obtain⟨a2,c2,rfl,O⟩:=s.at
  have ie:=p.len
  have B2:zb w w2:=(aV H.out z H.out.size).out
  have HR:=HI.out a2 c2 m w2 Z (X.out.below B2 (zAa _)) O (by omega) (λx a=>⟨(J x a).below z (zAa _),(p.prop (n:=n-1) A.out x a).1⟩) (λx a _=>(p.prop (n:=n-1) A.out x a).2)
  have S:Hid (m.map (gF k)=eJ k l):=by rw[<-M.out];exact p.tG N.out
  have f:Hid (zb w w2):=B2
  unfold CB at HR
  have q:Hid (m.length=(eJ k l).length):=by rw[<-S.out,zDd];exact rfl
  clear ie s z B2 p J O HI A N M
  dsimp only
  go_wp2_with fail
  refine HR.mono ?_
  clear HR
  rintro e w3 (⟨x,rfl,v,c',rfl,j,b,u⟩|⟨ch,rfl,he⟩)
  .have V:zb w w3:=(aV f.out u f.out.size).out;have r:=X.out.below V (zAa _);have HJ:=Ki t k va v c c' l w3 r.k1 r.k2 r.mZ r.at' (HA.out.below V (zAa _)) hl (λx a=>(E.out x a).1.below V (zAa _)) (by rw[<-S.out];exact b) (by rw[<-q.out];exact j);rw[<-q.out]at HJ;have U:Hid (zb w w3):=V;clear b u V r;dsimp only;go_wp2_with fail;refine HJ.mono ?_;clear HJ;rintro e w4 ⟨v4,rfl,G,K⟩;have T:Hid (zb w w4):=aV U.out K U.out.size;have R:Hid (Own w4 w3.heap.size 9 v4 l.length (dA (l.map (gF k)))):=G;clear G K;go_wp2;go_ret;refine .of ?_;obtain⟨h5,C⟩|⟨g,cap,cur,C⟩:=R.out.2
   .exact⟨aB,0,by rw[C];exact h5,by omega,λh=>by rw[zDd]at h;omega,T.out⟩
   .obtain⟨fz,C,h7,h8,h9,h10,h11,h12⟩:=C;refine⟨aA ⟨g,0,aB⟩,cap,C,h10,λh=>⟨g,0,rfl,(zAb.1 h8).1,λi x a=> ?_⟩,T.out⟩;have I:=R.out;have e4:v4=aJ (aA ⟨g,0,aB⟩) l.length cap:=C;rw[e4]at I;have hi:=(zAi.1 a).1;rw[zDd]at hi;rw[zAv,I.cell i hi];unfold dA;rw[zEk,a];rfl
  .exact⟨rfl,.told he⟩
def CK {D:zP}(t k:Nat):∀(n:Nat)(va:zO)(c:Nat)(l:List Tr)(w:zW),Nj D t k w->lE w va l->l.length<=1000->(∀x∈l,iY w x/\Hg D x)->(∀x∈l,2<=x.us.length->256-n<=x.d)->CB t k (aJ va l.length c) l w:=by
 intro n;induction n with
 |zero=>intro va c l w f g b a e;exact wZ t k 0 c va l w f g b a e λ_ _ _ _ h=>by omega
 |succ n i=>intro va c l w f g b a e;exact wZ t k (n+1) c va l w f g b a e λva c l w _=>i va c l w
end Go.Proofs.Zq
