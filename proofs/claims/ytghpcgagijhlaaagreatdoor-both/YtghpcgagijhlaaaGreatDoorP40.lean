import Derived.Lib.AppendStr
import Derived.Test.YtghpcgagijhlaaaGreatDoorP39
set_option linter.all false
set_option maxRecDepth 100000
set_option maxHeartbeats 16000000
open Option renaming some->aA,none->aB
open Bool renaming true->aE,false->aF
open Or renaming inl->aG,inr->aH
open Go.Ending renaming returned->aL
open Go.Obj renaming cells->aI
open Go.IntKind renaming i64->aD,u8->aP
open Go.Value renaming slice->aJ,string->aK,pointer->aN,int->aC
open Go.Lib renaming strCells->aDR,wpList_append_own_string->aDS
open UInt8 renaming ofNat->aDv
namespace Go.Proofs.Zq
open Go Go.RowKit Sha
def Qg:∃i,zq.info? 48=aA i/\i.zero=aA (aJ aB 0 0)/\i.size=1/\i.bytes=24:=uL (by kernel_rfl)
def QP (t b:Nat):zP:=λx=>x=t\/x=b
section
variable {w w':zW}{t k room b cap:Nat}{S:List (List bK)}
def cC.grow (h:cC w t k room b cap S)(hl:S.length<1000){va:zO}{c:Nat}{us:List bK}(hE:bI w va us)(hc:us.length<=c)(s:∀a,va=aA a->iJ w a.block)(hs:uB us)(h4:us.length<=400){vb:Nat}(hv:w.heap[vb]? =aA (aI #[aJ va us.length c] 48 (0,0)))(Yk:vb≠b):
  ∃o d W,(∀ty,(Builtin.append_ #[163,163] ty #[aJ (aA ⟨b,0,aB⟩) S.length cap,aJ (aA ⟨vb,0,aB⟩) 1 1]).run zq w= .ok (aJ (aA ⟨o,0,aB⟩) (S.length+1) d) W)/\w.grownBy W (aA b)/\(o=b\/o=w.heap.size)/\
   (∀g,iJ w g->iJ W g)/\W.heap[t]? =w.heap[t]?/\
   (∀y,W.grownBy y (aA t)->y.heap[t]? =aA (aI #[aC aD k,aC aD room,aK ⟨(dg k [0]).toArray⟩,aJ (aA ⟨o,0,aB⟩) (S.length+1) d] 165 (0,0))->cC y t k room o d (S++[us])):=by
 obtain⟨l,c1,c2,c3,c4,c5,c6⟩:=h.row
 obtain⟨it,ti,tz,R,T⟩:=Qg
 have hO:cT (wW w) w b 48 1 (aJ (aA ⟨b,0,aB⟩) S.length cap) S.length (l.toList.take S.length):=cT.of l c1 (zAa _) c2 c3 (by omega) (by rw[zFr]) c5
 have yp:=h.blt
 have hS1:∀x,wW w x->x.oneCell'=aE:=λx C=>by obtain⟨va,n,c,rfl,_⟩:=C;rfl
 have H:=λty=>kU (P:=zq) w (wW w) b 163 ty 48 it _ 1 24 ((Qz.cO 163).trans Tryz.underlying163) ti tz R T rfl (by omega) (λx C=>by
  simp[Value.cells]at C;subst C;exact⟨aB,0,0,rfl,λa A=>by cases A⟩) _ S.length _ hO.1 hO.2 ⟨vb,0,aB⟩ 1 1 [aJ va us.length c] rfl (λj u hj=>by rw[addr_add,zAv,zGy w vb j _ 48 (0,0) hv];simpa using hj) (λu r=>by rw[zAw.1 r];rfl) (λu r=>by rw[zAw.1 r];exact⟨va,_,c,rfl,s⟩) (zEj _) (by simp only[maxLen];omega) (by omega) (by omega)
 obtain⟨o,d,W,G,h2,h30,kh,h5⟩:=H 0
 have E:w.grownBy W (aA b):=h30
 have f:∀g,iJ w g->iJ W g:=λg D=>D.kept (E.block g D.lt (λe=>by injection e with e;subst e;obtain⟨cs,d1,_⟩:=D;rw[c1]at d1;injection d1 with d1;injection d1 with _ v;revert v;decide))
 have N:W.heap[t]? =w.heap[t]? :=E.block t h.WC (λe=>by injection e with e;exact h.tb e)
 refine⟨o,d,W,λty=>G,E,?_,f,N,λy p V=> ?_⟩
 .obtain e|e:=kh
  .exact aG (zAm e).symm
  .exact aH e
 have Z:cT (wW w) W b 48 1 (aJ (aA ⟨o,0,aB⟩) (S.length+1) d) (S.length+1) (l.toList.take S.length++[aJ va us.length c]):=⟨h2,h5⟩
 obtain⟨q,e1,e2,e3,e4,e5,e6,e7⟩:=Z.row
 have Y:zq.globals.size<o:=by have:=h.Mq;omega
 have M:o≠t:=λe=>by have G:=h.at';rw[<-N,<-e,e1]at G;injection G with G;injection G with _ h2;revert h2;decide
 have O:y.heap[o]? =aA (aI q 48 (0,0)):=by rw[p.block o (zAb.1 e1).1 (λe=>by injection e with e;exact M e)];exact e1
 have m:∀g,iJ w g->iJ y g:=λg D=>(f g D).kept (p.block g (f g D).lt (λe=>by injection e with e;subst e;obtain⟨cs,d1,_⟩:=D;rw[h.at']at d1;injection d1 with d1;injection d1 with _ v;revert v;decide))
 have K:∀x,x<=zq.globals.size->y.heap[x]? =w.heap[x]? :=λx C=>by have:=h.QT;have:=h.Mq;have:=h.WC;rw[p.block x (by have:=E.size;omega) (λe=>by injection e with e;omega),E.block x (by omega) (λe=>by injection e with e;omega)]
 have I:w.heap.size<=y.heap.size:=zBl E.size p.size
 have L:∀{va:zO}{us:List bK},bI w va us->(∀a,va=aA a->iJ w a.block)->bI y va us:=λ{va us} hE s=>hE.kept I λa A=>by
  obtain⟨cs,d1,_⟩:=s a A;have hd:=m _ (s a A);rw[p.block a.block (f _ (s a A)).lt (λe=>by
   injection e with e;rw[e,h.at']at d1;injection d1 with d1;injection d1 with _ v;revert v;decide),E.block a.block (s a A).lt (λe=>by
   injection e with e
   rw[e,c1]at d1
   injection d1 with d1
   injection d1 with _ v
   revert v
   decide)]
 refine⟨h.k1,h.k2,h.nB.kept K,h.mZ.kept I K,h.QT,Y,by rw[zAj];exact V,⟨q,O,by rw[zAj];exact e3,e4,by omega,λx C=> ?_,λi B F=> ?_⟩,λB r=> ?_,by rw[zAj];simp;omega,by simp⟩
 .obtain⟨va,n,c,rfl,s⟩:=e7 x C;exact⟨va,n,c,rfl,λa A=>m _ (s a A)⟩
 .have z:∀(j:Nat),j<S.length+1->q[j]? =(l.toList.take S.length++[Value.slice va us.length c])[j]? :=λj hj=>by
   rw[<-e6,zBy,zAk (by omega),zBo]
  have U:(l.toList.take S.length).length=S.length:=by rw[zAn,show l.toList.length=l.size from zBn ..];omega
  by_cases J:i<S.length
  .rw[zCe J]at F;obtain⟨Q,c',d1,v,d3⟩:=c6 i B F;obtain⟨va2,n2,c2',e,X⟩:=c5 _ (by rw[zDl];exact zBc d1);injection e with e1';subst e1';refine⟨Q,c',?_,v,L d3 X⟩;rw[z i (by omega),zCe (by omega),zBy,zAk J,zBo];exact d1
  .have bU:=(zAi.1 F).1;rw[zAj]at bU;simp only[List.length_singleton]at bU;obtain rfl:i=S.length:=by omega
   rw[zBq (zAa _),zGa]at F;simp only[zDc,Option.some.injEq]at F;subst F;refine⟨va,c,?_,hc,L hE s⟩;rw[z _ (by omega),zBq (by omega),U,zGa];rfl
 .obtain r|r:=zCh.1 r
  .exact h.st B r
  .rw[zAw.1 r];exact⟨hs,h4⟩
def Jw (last cs:List bK)(vc:zO)(cc:Nat)(S0:List (List bK))(h:cC w t k room b cap (S0++[last]))(hl:(S0++[last]).length<1000)(hC:bI w vc cs)(r:∀u∈cs,u.idx.length=32/\u.val.length<=100)(bq:cs.length<=1000)(h4:(bS last cs).length<=400)
  (j:eM [] (S0++[last])+jG last (bS last cs)<=room) (vg:room<=1000000000):
  Calls zq 152 #[aN (aA ⟨t,0,aB⟩),aJ vc cs.length cc] w λe w'=>e=aL (aC aD 0)/\∃f c,cC w' t k room f c (S0++[last]++[bS last cs])/\(f=b\/w.heap.size<=f)/\gI (QP t b) w w':=by
 have HE:Hid (cC w t k room b cap (S0++[last])):=h
 have l:(S0++[last])[S0.length]? =aA last:=by rw[zBq (zAa _),zGa];rfl
 have i:=(h.st last (by simp))
 obtain⟨va,ca,d1,d2,d3,d4⟩:=h.at l
 have E:(S0++[last]).length=S0.length+1:=by rw[zAj];rfl
 have c3:w.cell? ⟨t,3,aB⟩=aA (aJ (aA ⟨b,0,aB⟩) (S0.length+1) cap):=by rw[<-E];exact h.cell 3
 have V:Hid (∀W,zb w W->Calls zq 157 #[aJ va last.length ca,aJ vc cs.length cc] W λe w'=>∃v,e=aL v/\gT w' W.heap.size v (bS last cs)/\zb W w'):=λW x=>UT va vc last cs ca cc W (d3.below x (zAa _)) (hC.below x (zAa _)) i.1 r (by omega) bq
 have R:Hid (uB (bS last cs)):=i.1.kX r
 have Vt:Hid (uB last):=i.1
 have T:Hid (bI w va last):=d3
 have wy:=d2
 have ik:=i.2
 have HR:Hid (eM [] (S0++[last])+jG last (bS last cs)<=room):=j
 generalize cn:bS last cs=N at*
 clear cn
 generalize S0.length=n at*
 have we:n+1<1000:=by omega
 obtain⟨S',y⟩:∃S',S'=S0++[last]++[N]:=⟨_,rfl⟩
 have cz:Hid (S'=S0++[last]++[N]):=y
 rw[<-y]
 clear h l i d3 hC r j y
 go_enter Qz.func152,Tryz.ntmps152
 go_upto_region 1 with(fail)
 have Qt:¬((n:Int)<0):=by omega
 have Qs:(n:Int)<(n:Int)+1:=by omega
 have q0:=dG c3 HE.out.WC
 have q1:=dG d1 HE.out.blt
 refine zGv (by kernel_rfl) (by kernel_rfl) ?_
 repeat (any_goals(first|go_big_quiet_step (fail)|quiet_step (fail)))
 refine zHc ?_
 intro w1 o
 obtain⟨q,D⟩:=o
 have B1:Hid (zb w w1):=by rw[D];exact zGr w q.d q.os
 clear D q0 q1 c3 d1
 go_wp2_with fail
 refine(V.out w1 B1.out).mono ?_
 rintro e w2 ⟨v,rfl,P,L⟩
 have B2:Hid (zb w w2):=aV B1.out L B1.out.size
 obtain⟨A,cx,rfl,K,J,I⟩:=P.tN
 have E2:Hid (cC w2 t k room b cap (S0++[last])):=HE.out.below B2.out (zAa _)
 have X2:Hid (bI w2 A N):=J
 have F2:Hid (∀a,A=aA a->iJ w2 a.block):=λa s=>by obtain⟨g,rfl,_,_,cs',h1,h2⟩:=I a s;exact⟨cs',h1,h2⟩
 have L2:Hid (bI w2 va last):=T.out.below B2.out (zAa _)
 clear L B1 P J I V T
 dsimp only
 have hnx:¬((2000:Int)<(N.length:Int)):=by omega
 go_upto_region 5 with(fail)
 have z:=quiet_of (w:=w2) λW x=>Gj W (E2.out.below x (zAa _))
 have H:=quiet_of (w:=w2) λW x=>yI va A last N ca cx W (L2.out.below x (zAa _)) (X2.out.below x (zAa _)) Vt.out R.out ik h4 wy K
 have q0:=dG ((E2.out.cell 1).trans (rfl:_=aA (Value.int aD room))) E2.out.WC
 have vh:=HR.out
 generalize eM [] (S0++[last])=X at*
 generalize jG last N=Y at*
 have hr1:(X:Int)+(Y:Int)<=(room:Int):=by omega
 have hr2:¬((room:Int)<(X:Int)+(Y:Int)):=by omega
 refine zGv (by kernel_rfl) (by kernel_rfl) ?_
 repeat (any_goals(first|go_big_quiet_step ((first|exact z.out _ _|exact H.out _ _))|quiet_step ((first|exact z.out _ _|exact H.out _ _))))
 refine zHc ?_
 intro w3 o
 obtain⟨q,D⟩:=o
 have b3:Hid (zb w2 w3):=by rw[D];exact zGr w2 q.d q.os
 have B3:Hid (zb w w3):=aV B2.out b3.out B2.out.size
 have Z:Hid (cC w3 t k room b cap (S0++[last])):=E2.out.below b3.out (zAa _)
 have X3:Hid (bI w3 A N):=X2.out.below b3.out (zAa _)
 have F3:Hid (∀a,A=aA a->iJ w3 a.block):=λa s=>(F2.out a s).kept (b3.out.block _ (F2.out a s).lt)
 clear D z H q0 E2 X2 F2 L2 b3 B2 HE
 have Q:Hid (zb w3 (w3.alloc (aI #[aJ A N.length cx] 48))):=(zGp _ _).alloc (zAa _) _
 have E4:=Z.out.below Q.out (zAa _)
 obtain⟨f,c,W,hr,G,M,_,O,m⟩:=E4.grow hl (X3.out.below Q.out (zAa _)) K (λa s=>(F3.out a s).kept (Q.out.block _ (F3.out a s).lt)) R.out h4 (vb:=w3.heap.size) (zHh w3 _) (by have:=Z.out.blt;omega)
 have HT:Hid (W.heap[t]? =aA (aI #[aC aD k,aC aD room,aK ⟨(dg k [0]).toArray⟩,aJ (aA ⟨b,0,aB⟩) (S0++[last]).length cap] 165 (0,0))):=by show _=_;rw[O];exact E4.at'
 have U:Hid (∀W',W.grownBy W' (aA t)->W'.heap[t]? =aA (aI #[aC aD k,aC aD room,aK ⟨(dg k [0]).toArray⟩,aJ (aA ⟨f,0,aB⟩) ((S0++[last]).length+1) c] 165 (0,0))->cC W' t k room f c (S0++[last]++[N])):=m
 have HG:Hid (gI (QP t b) w W):=(gI.of B3.out (zAa _)).trans ((gI.of Q.out (zAa _)).trans (gI.grown G (aH rfl)))
 have HB:Hid (f=b\/w.heap.size<=f):=by
  obtain e|e:=M
  .exact aG e
  .right;rw[e,size_alloc];have:=B3.out.size;omega
 have c3:w3.cell? ⟨t,3,aB⟩=aA (aJ (aA ⟨b,0,aB⟩) (n+1) cap):=by rw[<-E];exact Z.out.cell 3
 have t3:W.cell? ⟨t,3,aB⟩=aA (aJ (aA ⟨b,0,aB⟩) (n+1) cap):=by rw[zGy W t 3 _ _ _ HT.out,<-E];rfl
 have f3:W.frozen? ⟨t,3,aB⟩=aF:=by simp[World.frozen?,HT.out]
 have gi:=Z.out.WC
 rw[E]at hr
 clear G M O m Q E4 X3 F3 B3 Z
 go_wp2_with (at_builtin;refine wpList_append_run rfl _ _ _ _ rfl _ _ rfl rfl (hr _) ?_)
 go_ret
 have B:=setCell_eq_setRow W t 3 _ _ (0,0) (aJ (aA ⟨f,0,aB⟩) (n+1+1) c) HT.out
 have C:=zHf W t _ (#[aC aD k,aC aD room,aK ⟨(dg k [0]).toArray⟩,aJ (aA ⟨f,0,aB⟩) ((S0++[last]).length+1) c]:zA) _ _ HT.out
 have F:=cN W t (#[aC aD k,aC aD room,aK ⟨(dg k [0]).toArray⟩,aJ (aA ⟨f,0,aB⟩) ((S0++[last]).length+1) c]:zA)
 have p:W.setCell ⟨t,3,aB⟩ (aJ (aA ⟨f,0,aB⟩) (n+1+1) c)=W.setRow t (#[aC aD k,aC aD room,aK ⟨(dg k [0]).toArray⟩,aJ (aA ⟨f,0,aB⟩) ((S0++[last]).length+1) c]:zA):=by rw[B,E];rfl
 rw[p,cz.out]
 exact⟨rfl,f,⟨c,U.out _ F C⟩,HB.out,HG.out.trans (gI.grown F (aG rfl))⟩
def Ly (h:cC w t k room b cap S)(hS:1<S.length):Calls zq 156 #[aJ (aA ⟨b,0,aB⟩) S.length cap,aC aD 0,aC aD 1] w λe W=>e=aL (aJ (aA ⟨b,0,aB⟩) (S.length-1) cap)/\w.grownBy W (aA b)/\W.heap[t]? =w.heap[t]?/\
   (∀o,W.grownBy o (aA t)->o.heap[t]? =aA (aI #[aC aD k,aC aD room,aK ⟨(dg k [0]).toArray⟩,aJ (aA ⟨b,0,aB⟩) (S.length-1) cap] 165 (0,0))->cC o t k room b cap (S.drop 1)):=by
 obtain⟨v,c1,c2,c3,c4,c5,c6⟩:=h.row
 have P:cT (wW w) w b 48 1 (aJ (aA ⟨b,0,aB⟩) S.length cap) S.length (v.toList.take S.length):=cT.of v c1 (zAa _) c2 c3 (by omega) (by rw[zFr]) c5
 have J:∀x,wW w x->x.oneCell'=aE:=λx p=>by obtain⟨va,n,c,rfl,_⟩:=p;rfl
 have L:=h.len
 have:=Lz J (λx p=>by simp[Value.cells]at p;subst p;exact⟨aB,0,0,rfl,λa r=>by cases r⟩) b b S.length cap 0 (v.toList.take S.length) w P (by omega) (by omega)
 refine this.mono ?_
 rintro e W ⟨rfl,R,s⟩
 have I:W.heap[t]? =w.heap[t]? :=s.block t h.WC (λe=>by injection e with e;exact h.tb e)
 refine⟨rfl,s,I,λo j E=> ?_⟩
 obtain⟨f,M,e2,X,V,e5,U,T⟩:=cT.row R
 have d:∀g,iJ w g->iJ W g:=λg q=>q.kept (s.block g q.lt (λe=>by injection e with e;subst e;obtain⟨cs,d1,_⟩:=q;rw[c1]at d1;injection d1 with d1;injection d1 with _ m;revert m;decide))
 have C:o.heap[b]? =aA (aI f 48 (0,0)):=by rw[j.block b (zAb.1 M).1 (λe=>by injection e with e;exact h.tb e.symm)];exact M
 have l:∀g,iJ w g->iJ o g:=λg q=>(d g q).kept (j.block g (d g q).lt (λe=>by injection e with e;subst e;obtain⟨cs,d1,_⟩:=q;rw[h.at']at d1;injection d1 with d1;injection d1 with _ m;revert m;decide))
 have z:∀x,x<=zq.globals.size->o.heap[x]? =w.heap[x]? :=λx p=>by have:=h.QT;have:=h.Mq;have:=h.WC;rw[j.block x (by have:=s.size;omega) (λe=>by injection e with e;omega),s.block x (by omega) (λe=>by injection e with e;omega)]
 have y:w.heap.size<=o.heap.size:=zBl s.size j.size
 have H:∀{va:zO}{us:List bK},bI w va us->(∀a,va=aA a->iJ w a.block)->bI o va us:=λ{va us} Q A=>Q.kept y λa r=>by
  obtain⟨cs,d1,_⟩:=A a r;rw[j.block a.block (d _ (A a r)).lt (λe=>by
   injection e with e;rw[e,h.at']at d1;injection d1 with d1;injection d1 with _ m;revert m;decide),s.block a.block (A a r).lt (λe=>by
   injection e with e
   rw[e,c1]at d1
   injection d1 with d1
   injection d1 with _ m
   revert m
   decide)]
 refine⟨h.k1,h.k2,h.nB.kept z,h.mZ.kept y z,h.QT,h.Mq,by rw[zBa];exact E,⟨f,C,by rw[zBa];exact X,V,by omega,λx p=> ?_,λi u F=> ?_⟩,λu O=>h.st u (zCb O),by rw[zBa];omega,by rw[zBa];omega⟩
 .obtain⟨va,n,c,rfl,A⟩:=T x p;exact⟨va,n,c,rfl,λa r=>l _ (A a r)⟩
 .rw[zDv]at F;have bU:=(zAi.1 F).1;obtain⟨D,c',d1,m,d3⟩:=c6 (1+i) u F;obtain⟨N,Z,Y,e,G⟩:=c5 _ (by rw[zDl];exact zBc d1);injection e with K;subst K;refine⟨D,c',?_,m,H d3 G⟩;have B:f[i]? =(f.toList.take ((S.length-1)*1))[i]? :=by rw[zBy,zAk (by omega),zBo]
  rw[B,U];simp only[zEs,zEy,zCl,zFr,zAv];rw[zDv,zBy,zAk bU,zBo];exact d1
def YQ (h:cC w t k room b cap S)(o:1<S.length):
  Calls zq 151 #[aN (aA ⟨t,0,aB⟩),aC aD 1] w λe w'=>e=aL (.tuple #[])/\cC w' t k room b cap (S.drop 1)/\gI (QP t b) w w':=by
 have n:=Ly h o
 have c3:w.cell? ⟨t,3,aB⟩=aA (aJ (aA ⟨b,0,aB⟩) S.length cap):=h.cell 3
 have q:Hid (cC w t k room b cap S):=h
 clear h
 go_enter Qz.func151,Tryz.ntmps151
 go_wp2_with fail
 refine n.mono ?_
 clear n
 rintro e W ⟨rfl,i,j,a⟩
 have l:Hid (W.heap[t]? =aA (aI #[aC aD k,aC aD room,aK ⟨(dg k [0]).toArray⟩,aJ (aA ⟨b,0,aB⟩) S.length cap] 165 (0,0))):=by show _=_;rw[j];exact q.out.at'
 have H:Hid (∀m,W.grownBy m (aA t)->m.heap[t]? =aA (aI #[aC aD k,aC aD room,aK ⟨(dg k [0]).toArray⟩,aJ (aA ⟨b,0,aB⟩) (S.length-1) cap] 165 (0,0))->cC m t k room b cap (S.drop 1)):=a
 have p:Hid (gI (QP t b) w W):=gI.grown i (aH rfl)
 have t3:W.cell? ⟨t,3,aB⟩=aA (aJ (aA ⟨b,0,aB⟩) S.length cap):=by rw[zGy W t 3 _ _ _ l.out];rfl
 have f3:W.frozen? ⟨t,3,aB⟩=aF:=by simp[World.frozen?,l.out]
 clear i j a c3
 dsimp only
 go_wp2_with fail
 go_end0
 have d:=setCell_eq_setRow W t 3 _ _ (0,0) (aJ (aA ⟨b,0,aB⟩) (S.length-1) cap) l.out
 have f:=zHf W t _ (#[aC aD k,aC aD room,aK ⟨(dg k [0]).toArray⟩,aJ (aA ⟨b,0,aB⟩) (S.length-1) cap]:zA) _ _ l.out
 have g:=cN W t (#[aC aD k,aC aD room,aK ⟨(dg k [0]).toArray⟩,aJ (aA ⟨b,0,aB⟩) (S.length-1) cap]:zA)
 have c:W.setCell ⟨t,3,aB⟩ (aJ (aA ⟨b,0,aB⟩) (S.length-1) cap)=W.setRow t (#[aC aD k,aC aD room,aK ⟨(dg k [0]).toArray⟩,aJ (aA ⟨b,0,aB⟩) (S.length-1) cap]:zA):=by rw[d];rfl
 rw[c]
 exact⟨rfl,H.out _ g f,p.out.trans (gI.grown g (aG rfl))⟩
end
open Go Go.RowKit Sha Go.Ga Go.Ren
section
variable {w:zW}{t k room b cap:Nat}{S:List (List bK)}
def cC.tree (h:cC w t k room b cap S){i:Nat}{us:List bK}(e:S[i]? =aA us):∃va c,w.cell? ⟨b,i,aB⟩=aA (aJ va us.length c)/\iY w ⟨0,va,c,us⟩/\Hg (UH w t b) ⟨0,va,c,us⟩:=by obtain⟨va,c,m,l,j,g⟩:=h.at e;have d:=h.st us (zCq e);exact⟨va,c,m,⟨j,d.1.sub,d.1.val,by have:=d.2;show us.length<=_;omega,l⟩,λa f=>aH (aH (aH (g a f)))⟩
def SH (h:cC w t k room b cap S){i:Nat}{us:List bK}(m:S[i]? =aA us):
  Calls zq 154 #[aN (aA ⟨t,0,aB⟩),aC aD i] w (RF λx y=>x=aK ⟨(dR k (bF us) 0).toArray⟩/\zb w y):=by
 obtain⟨va,c,d1,u,d3⟩:=h.tree m
 have c3:w.cell? ⟨t,3,aB⟩=aA (aJ (aA ⟨b,0,aB⟩) S.length cap):=h.cell 3
 have A:=(zAi.1 m).1
 have D:¬((i:Int)<0):=by omega
 have C:(i:Int)<(S.length:Int):=by omega
 have G:Hid (Nj (UH w t b) t k w):=h.EC
 have F:Hid (iY w ⟨0,va,c,us⟩):=u
 have I:Hid (Hg (UH w t b) ⟨0,va,c,us⟩):=d3
 clear h m u d3
 generalize S.length=n at*
 go_enter Qz.func154,Tryz.ntmps154
 go_wp2_with fail
 refine(uF va us.length c w).mono ?_
 rintro e w1 ⟨rfl,f⟩
 have p:Hid (zb w w1):=f
 clear f c3 d1
 dsimp only
 go_wp2_with fail
 have v:Hid (zb w1 (w1.alloc (aI #[aC aD 0,aJ va us.length c] 209))):=(zGp _ _).alloc (zAa _) _
 have k2:Hid (bB (w1.alloc (aI #[aC aD 0,aJ va us.length c] 209)) w1.heap.size 209 #[aC aD 0,aJ va us.length c]):=bB.new _ _ _
 generalize w1.alloc (aI #[aC aD 0,aJ va us.length c] 209)=w2 at*
 have B:Hid (zb w w2):=aV p.out v.out p.out.size
 have s:lE w2 (aA ⟨w1.heap.size,0,aB⟩) [⟨0,va,c,us⟩]:=λ_=>⟨_,0,rfl,k2.out.lt,λj x l=>by
  match j,l with
  |0,l=>simp at l;subst l;exact⟨(k2.out.cell 0).trans rfl,(k2.out.cell 1).trans rfl⟩⟩
 have H:=CK t k 256 (aA ⟨w1.heap.size,0,aB⟩) 1 [⟨0,va,c,us⟩] w2 (G.out.below B.out (zAa _)) s (by simp) (λx q=>by rw[zAw.1 q];exact⟨F.out.below B.out (zAa _),I.out⟩) (λx q _=>by omega)
 refine Calls.mono H ?_
 clear H s k2 v p
 rintro e w3 (⟨x,rfl,z,c',rfl,E,r,d⟩|⟨L,rfl,he⟩)
 .have J:Hid (zb w w3):=aV B.out d B.out.size;obtain⟨g,o,rfl,K,a⟩:=r (by simp);have q0:w3.cell? ⟨g,o,aB⟩=aA (aK ⟨(dR k (bF us) 0).toArray⟩):=by
   have:=a 0 (dR k (bF us) 0) rfl;exact this
  clear d r a B;dsimp only;go_wp2;go_ret;exact .of ⟨rfl,J.out⟩
 .exact⟨rfl,.told he⟩
def UG (h:cC w t k room b cap S){i:Nat}{us:List bK}(f:S[i]? =aA us):
  Calls zq 150 #[aN (aA ⟨t,0,aB⟩),aC aD i] w λe g=>∃v,e=aL v/\cI g w.heap.size v us/\zb w g:=by
 obtain⟨va,c,d1,r,d3,_⟩:=h.at f
 have c3:w.cell? ⟨t,3,aB⟩=aA (aJ (aA ⟨b,0,aB⟩) S.length cap):=h.cell 3
 have l:=(zAi.1 f).1
 have o:¬((i:Int)<0):=by omega
 have m:(i:Int)<(S.length:Int):=by omega
 have q:=(h.st us (zCq f)).2
 have p:Hid (bI w va us):=d3
 clear h f d3
 generalize S.length=n at*
 go_enter Qz.func150,Tryz.ntmps150
 go_wp2_with (at_builtin;refine wV rfl _ _ rfl w.heap.size (aJ aB 0 0) [] us _ _ rfl (cI.nil _ _) rfl p.out (by simp) (by omega) (zAa _) ?_;intro j w5 a d)
 have B:Hid (zb w w5):=dN (zGp _ _) (cI.nil w w.heap.size) d (zAa _) (zAa _)
 have H:Hid (cI w5 w.heap.size j us):=a
 clear a d c3 d1
 go_ret
 exact⟨j,rfl,H.out,B.out⟩
end
open Go.RowKit Sha
def vU (k d:Nat):zB:=[aDv k,aDv (d/256),aDv (d%256)]
def sI (D:zB)(k:Nat)(S:zLL)(X:zB):zB:=vU k S.length++(eK D S S.length++(eP D S++X))
def sH (w:zW)(base:Nat)(v:zY)(l:zB):Prop:=w.ownsRow base 5 1 v l.length (iL l).toList
def wrote (D:zB)(k:Nat)(S:zLL)(t:Nat):zB:=vU k S.length++(eK D S t++eP D (S.take t))
def Cs (D:zB)(k:Nat)(S:zLL)(t:Nat):(wrote D k S t).length=3+(S.length+7)/8+(eP D (S.take t)).length:=by unfold wrote vU;simp only[zAj,fB,zAe,zBm];omega
def VX (D:zB)(k:Nat)(S:zLL)(t:Nat)(a:t<S.length)(h:S[t]=D):wrote D k S (t+1)=wrote D k S t:=by
 have b:S.getD t []=D:=by rw[zAq,zAf a];exact h
 unfold wrote
 rw[eK,zAk b,zBv a,jB,h]
 simp[eP]
def VY (D:zB)(k:Nat)(S:zLL)(t:Nat)(a:t<S.length)(h:S[t]≠D):
  wrote D k S (t+1)=(wrote D k S t).set (3+t/8) (mK ((wrote D k S t).getD (3+t/8) 0) (t%8))++S[t]:=by
 have c:¬S.getD t []=D:=by rw[zAq,zAf a];exact h
 have f:=fB D S t
 have d:(wrote D k S t).getD (3+t/8) 0=(eK D S t).getD (t/8) 0:=by unfold wrote vU;rw[zAq,zBq (by simp),zCe (by simp;omega),zAq];simp
 rw[d]
 unfold wrote
 rw[eK,zAh c,zBv a,jB]
 have e:∀b,(vU k S.length++(eK D S t++eP D (S.take t))).set (3+t/8) b=vU k S.length++((eK D S t).set (t/8) b++eP D (S.take t)):=λb=>by rw[List.set_append_right _ _ (by simp[vU]),List.set_append_left _ _ (by simp[vU];omega)];simp[vU]
 rw[e]
 simp[eP,h,zBu]
def Da (D:zB)(S:zLL)(t:Nat)(h:∀x∈S,x.length<=32):(eP D (S.take t)).length<=32*S.length:=by
 have c:=NN D (S.take t) λx a=>h x (zCg a);have b:(S.take t).length<=S.length:=by rw[zAn];omega
 have:=Nat.mul_le_mul_left 32 b
 omega
def Ui (x:UInt8)(r:Nat)(h:r<8):bits .or aP (x.toNat:Int) (128/2^r)=((mK x r).toNat:Int):=by
 have H:∀x:Fin 256,∀r:Fin 8,bits .or aP (x.val:Int) (128/2^r.val)=(((x.val|||128/2^r.val)%256:Nat):Int):=by decide+kernel
 have:=H ⟨x.toNat,x.toNat_lt⟩ ⟨r,h⟩
 rw[mK,zCz]
 exact this
def sH.set {w:zW}{base g n cap i:Nat}{l:zB}(h:sH w base (aJ (aA ⟨g,0,aB⟩) n cap) l)(o:i<l.length)(b:UInt8):sH (w.setCell ⟨g,i,aB⟩ (aC aP (b.toNat:Int))) base (aJ (aA ⟨g,0,aB⟩) n cap) (l.set i b):=by
 obtain⟨j,f⟩:=h;obtain⟨e,_⟩|⟨p,d,cur,e,hb,c,r1,r2,r3,r4⟩:=f
 .cases e
 .injection e with a m k;iterate 2 (injection a with a)
  subst a k;refine⟨by rw[zEn];simpa [iL]using j,aH ⟨g,cap,cur.setIfInBounds i (aC aP (b.toNat:Int)),by rw[zEn,m],hb,?_,by rw[zEn];exact r1,r2,by rw[zDe];exact r3,?_⟩⟩
  .rw[setCell_eq_setRow w g i cur _ (0,0) _ c];exact zHf w g cur _ _ _ c
  .rw[<-AP,zDy,zDy,<-r4,zEn,List.take_set]
def sH.cell {w:zW}{base g n cap i:Nat}{l:zB}(h:sH w base (aJ (aA ⟨g,0,aB⟩) n cap) l)(d:i<l.length):w.cell? ⟨g,i,aB⟩=aA (aC aP ((l.getD i 0).toNat:Int))/\w.frozen? ⟨g,i,aB⟩=aF/\base<=g/\g<w.heap.size/\l.length<=cap/\n=l.length:=by
 obtain⟨e,_⟩|⟨k,c,cur,e,hb,b,r1,r2,r3,r4⟩:=h.2
 .cases e
 .injection e with a j f;iterate 2 (injection a with a)
  subst a f;refine⟨?_,by simp[World.frozen?,b],hb,(zAb.1 b).1,r1,j⟩;rw[zGy w g i cur _ (0,0) b,<-AQ l i d,<-zBo,<-zBo,<-r4,zBy,zAk (by omega)]
def sH.form {w:zW}{base:Nat}{v:zY}{l:zB}(h:sH w base v l)(b:0<l.length):∃g cap,v=aJ (aA ⟨g,0,aB⟩) l.length cap:=by
 obtain⟨_,d⟩|⟨a,c,_,e,_⟩:=h.2
 .omega
 .exact⟨a,c,e⟩
def Oy {w:zW}{base g cap:Nat}{l:zB}(h:sH w base (aJ (aA ⟨g,0,aB⟩) l.length cap) l):(convert 50 9 (aJ (aA ⟨g,0,aB⟩) l.length cap)).run zq w= .ok (aK ⟨l.toArray⟩) w:=
 mA (P:=zq) w 50 9 5 g 0 cap l ((Qz.cO 50).trans Tryz.underlying50) ((Qz.cO 5).trans Tryz.underlying5) ((Qz.cO 9).trans Tryz.underlying9) (λj a=>by rw[zAv];exact(h.cell a).1)
def CO (s:zB):aDR ⟨s.toArray⟩=(iL s).toList:=by simp[aDR,iL]
def xB (l m:zB):(iL (l++m)).toList=(iL l).toList++(iL m).toList:=by simp[iL]
def Ct (a:Nat)(D X:zB)(va:zO)(vc:Nat)(S:zLL)(w:zW)(im:a<=2)(hS:S.length<=256)(N:∀x∈S,x.length<=32)(hX:X.length<=1000)(hD:D.length<=32)(M:iC w va S):
  Calls zq 161 #[aC aD a,aJ va S.length vc,aK ⟨D.toArray⟩,aK ⟨X.toArray⟩] w λe w'=>e=aL (aK ⟨(sI D a S X).toArray⟩)/\zb w w':=by
 have HSV:Hid (iC w va S):=M
 have Vt:Hid (∀x∈S,x.length<=32):=N
 clear N
 clear M
 obtain⟨b,T⟩:∃b,(S.length+7)/8=b:=⟨_,rfl⟩
 have H:=λW=>tX S.length W (by omega)
 rw[T]at H
 have Bf:∀W,(Instr.makeSlice 50 (aC aD (3+(b:Int))) (aC aD (3+(b:Int)))).run zq W= .ok (aJ (aA ⟨W.heap.size,0,aB⟩) (3+b) (3+b)) (W.alloc (aI (AM (3+b)) 5)):=λW=>by have:=IB (3+b) (by omega) W;rw[show((3+b:Nat):Int)=3+(b:Int) by omega]at this;exact this
 go_enter Qz.func161,Tryz.ntmps161
 go_wp2_with fail
 refine(H w).mono ?_
 rintro e w1 ⟨rfl,K⟩
 obtain rfl:w=w1:=K.symm
 clear K H
 go_upto_region 3 with(fail)
 have O2:Hid (sH (w.alloc (aI (AM (3+b)) 5)) w.heap.size (aJ (aA ⟨w.heap.size,0,aB⟩) (3+b) (3+b)) (List.replicate (3+b) 0)):=by
  refine⟨by simp[iL],aH ⟨w.heap.size,3+b,AM (3+b),by rw[zDi],zAa _,zHh w _,by rw[zDi];exact zAa _,by simp only[maxLen];omega,by simp[AM,iL],?_⟩⟩;rw[zDi,zFr];show List.take _ (iL (List.replicate (3+b) 0)).toList=_
  rw[zBg (by simp[iL])]
 have B2:Hid (zb w (w.alloc (aI (AM (3+b)) 5))):=(zGp _ _).alloc (zAa _) _
 generalize w.alloc (aI (AM (3+b)) 5)=w2 at*
 have hz:∀i,i<3->w2.cell? ⟨w.heap.size,i,aB⟩=aA (aC aP 0)/\w2.frozen? ⟨w.heap.size,i,aB⟩=aF:=λi hi=>by have:=O2.out.cell (i:=i) (by rw[zDi];omega);refine⟨?_,this.2.1⟩;rw[this.1,zAq,zFw,zAk (by omega)];rfl
 obtain⟨z0,f0⟩:=hz 0 (by omega)
 obtain⟨z1,f1⟩:=hz 1 (by omega)
 obtain⟨z2,f2⟩:=hz 2 (by omega)
 have R:(0:Int)<3+(b:Int):=by omega
 have Q:(1:Int)<3+(b:Int):=by omega
 have P:(2:Int)<3+(b:Int):=by omega
 clear hz Bf
 go_upto_region 4 with(fail)
 have G:Hid (sH (((w2.setCell ⟨w.heap.size,0,aB⟩ (aC aP (a:Int))).setCell ⟨w.heap.size,1,aB⟩ (aC aP ((S.length:Int)/256))).setCell ⟨w.heap.size,2,aB⟩ (aC aP ((S.length:Int)%256))) w.heap.size (aJ (aA ⟨w.heap.size,0,aB⟩) (3+b) (3+b)) (wrote D a S 0)):=by
  have h1:=O2.out.set (i:=0) (by rw[zDi];omega) (aDv a);have h2:=h1.set (i:=1) (by rw[zEn,zDi];omega) (aDv (S.length/256));have h3:=h2.set (i:=2) (by rw[zEn,zEn,zDi];omega) (aDv (S.length%256));have e1:(((aDv a).toNat:Nat):Int)=(a:Int):=by rw[zCz];omega
  have e2:(((aDv (S.length/256)).toNat:Nat):Int)=(S.length:Int)/256:=by rw[zCz];omega
  have e3:(((aDv (S.length%256)).toNat:Nat):Int)=(S.length:Int)%256:=by rw[zCz];omega
  rw[e1,e2,e3]at h3
  have e4:(((List.replicate (3+b) (0:UInt8)).set 0 (aDv a)).set 1 (aDv (S.length/256))).set 2 (aDv (S.length%256))=wrote D a S 0:=by rw[show 3+b=b+1+1+1 by omega,List.replicate_succ,List.replicate_succ,List.replicate_succ];unfold wrote vU;rw[zEy,eK,T];simp[eP]
  rw[e4]at h3
  exact h3
 have B3:Hid (zb w (((w2.setCell ⟨w.heap.size,0,aB⟩ (aC aP (a:Int))).setCell ⟨w.heap.size,1,aB⟩ (aC aP ((S.length:Int)/256))).setCell ⟨w.heap.size,2,aB⟩ (aC aP ((S.length:Int)%256)))):=((B2.out.setCell (zAa _) _).setCell (zAa _) _).setCell (zAa _) _
 generalize((w2.setCell ⟨w.heap.size,0,aB⟩ (aC aP (a:Int))).setCell ⟨w.heap.size,1,aB⟩ (aC aP ((S.length:Int)/256))).setCell ⟨w.heap.size,2,aB⟩ (aC aP ((S.length:Int)%256))=w3 at*
 clear z0 z1 z2 f0 f1 f2 R Q P O2 B2
 have HW:Hid (sI D a S X=wrote D a S S.length++X):=by
  show _=_
  unfold sI wrote
  rw[zEf,zBu,zBu]
 have J:Hid (∀t,(wrote D a S t).length<=10000/\3+(S.length+7)/8<=(wrote D a S t).length):=λt=>by have h1:=Cs D a S t;have h2:=Da D S t Vt.out;omega
 have lb:Hid (∀t (ht:t<S.length),S[t]=D->wrote D a S (t+1)=wrote D a S t):=VX D a S
 have HMK:Hid (∀t (ht:t<S.length),S[t]≠D->wrote D a S (t+1)=(wrote D a S t).set (3+t/8) (mK ((wrote D a S t).getD (3+t/8) 0) (t%8))++S[t]):=VY D a S
 go_upto_region 5 with(fail)
 obtain⟨n,hn⟩:∃n,n=S.length:=⟨_,rfl⟩
 go_loopg [10,34] S.length (λq x i wr=>∃t:Nat,t+q=S.length/\i=aC aD (t:Int)/\zb w wr/\sH wr w.heap.size x (wrote D a S t))
 case atStart=>exact⟨0,by omega,rfl,B3.out,G.out⟩
 case round=>
  obtain⟨t,ht,rfl,b1,o1⟩:=hrel
  have B1:Hid (zb w wr):=b1
  have A:Hid (sH wr w.heap.size u10 (wrote D a S t)):=o1
  have V:=b1.size
  clear b1 o1
  by_cases bU:t<S.length
  .have hu:=zAf (l:=S) (i:=t) bU;have E:=lb.out t bU;have C:=HMK.out t bU;have VS:=Vt.out S[t] (zCr _);obtain⟨Nw,od⟩:=J.out t;obtain⟨g,o,rfl,hg,j⟩:=HSV.out.below B1.out (zAa _) (by omega);have q0:=j t S[t] hu;generalize S[t]=s at*;have Qt:¬((t:Int)<0):=by omega
   have Qs:(t:Int)<(S.length:Int):=by omega
   by_cases m:s=D
   .have HQ:Hid (wrote D a S (t+1)=wrote D a S t):=E m;have Y:(s==D)=aE:=by rw[m];exact zEp _
    clear E C j hu m;generalize wrote D a S t=L at*;go_wp2_with fail;go_roundg (S.length-(t+1));case measure=>omega
    case rel=>
     go_light
     exact⟨t+1,by omega,by go_num,B1.out,by rw[HQ.out];exact A.out⟩
   .have HQ:Hid (wrote D a S (t+1)=(wrote D a S t).set (3+t/8) (mK ((wrote D a S t).getD (3+t/8) 0) (t%8))++s):=C m;have Y:(s==D)=aF:=zCf.2 m;clear E C j hu m;generalize wrote D a S t=L at*;have F:3+t/8<L.length:=by omega
    obtain⟨u,c,rfl⟩:∃u c,u10=aJ (aA ⟨u,0,aB⟩) L.length c:=by
     obtain⟨_,h0⟩|⟨g',v,_,e,_⟩:=A.out.2
     .omega
     .exact⟨g',v,e⟩
    obtain⟨y0,y1,y2,y3,y4,_⟩:=A.out.cell F
    have I:Hid (bits .or aP ((L.getD (3+t/8) 0).toNat:Int) (128/2^(t%8))=((mK (L.getD (3+t/8) 0) (t%8)).toNat:Int)):=Ui _ _ (zFu _ (by omega))
    have hxr:=(L.getD (3+t/8) 0).toNat_lt
    generalize L.getD (3+t/8) 0=B at*
    obtain⟨r,hr⟩:∃r,t%8=r:=⟨_,rfl⟩
    obtain⟨d,hd⟩:∃d,t/8=d:=⟨_,rfl⟩
    have uq:(t:Int)/8=(d:Int):=by omega
    have uo:(t:Int)%8=(r:Int):=by omega
    have uu:(t:Int).tdiv 8=(d:Int):=by rw[Int.tdiv_eq_ediv_of_nonneg (by omega)];exact uq
    have ur:(t:Int).tmod 8=(r:Int):=by rw[Int.tmod_eq_emod_of_nonneg (by omega)];exact uo
    have hdi:(3:Int)+(d:Int)<(L.length:Int):=by omega
    have hr8:r<8:=by omega
    rw[hd]at y0 y1 F HQ
    rw[hr]at I HQ
    clear hd hr
    go_wp2_with fail
    go_region
    rw[I.out]
    have O4:Hid (sH (wr.setCell ⟨u,3+d,aB⟩ (aC aP ((mK B r).toNat:Int))).drew w.heap.size (aJ (aA ⟨u,0,aB⟩) L.length c) (L.set (3+d) (mK B r))):=A.out.set F (mK B r)
    have B4:Hid (zb w (wr.setCell ⟨u,3+d,aB⟩ (aC aP ((mK B r).toNat:Int))).drew):=eX (B1.out.setCell y2 _)
    generalize(wr.setCell ⟨u,3+d,aB⟩ (aC aP ((mK B r).toNat:Int))).drew=w4 at*
    have z:w.heap.size<=w4.heap.size:=B4.out.size
    clear y0 y1 I A B1 q0
    obtain⟨ib,i1,i2,i3,i4⟩:=BY
    have f:(⟨s.toArray⟩:ByteArray).size=s.length:=by show s.toArray.size=_;simp
    have Z:(L.set (3+d) (mK B r)).length=L.length:=zEn ..
    generalize L.set (3+d) (mK B r)=L2 at*
    have O:=O4.out
    unfold sH at O
    rw[Z]at O
    go_wp2_with (at_builtin;refine aDS _ rfl _ _ 50 9 rfl w.heap.size 5 ib ((Qz.cO 50).trans Tryz.underlying50) ((Qz.cO 9).trans Tryz.underlying9) i1 i2 i3 i4 _ L.length _ rfl O ⟨s.toArray⟩ rfl (by rw[f];simp only[maxLen];omega) (by rw[f];omega) z ?_;intro v' w5 h p _)
    have HO:Hid (sH w5 w.heap.size v' (L2++s)):=by
     show w5.ownsRow _ _ _ _ _ _
     rw[zAj,xB,Z,<-f]
     rw[CO]at h
     exact h
    have y:w4.grownBy w5 (aA u):=p
    have B5:Hid (zb w w5):=B4.out.grown y z λk U=>by injection U with U;omega
    clear h p y O i1 i2 i3 i4
    go_roundg (S.length-(t+1))
    case measure=>omega
    case rel=>
     go_light
     exact⟨t+1,by omega,by go_num,B5.out,by rw[HQ.out];exact HO.out⟩
  .obtain rfl:t=S.length:=by omega
   have Nw:=(J.out S.length).1;have hl3:=(J.out S.length).2;have bU:=bU;have ri:=HW.out;generalize wrote D a S S.length=L at*;have HW3:Hid (sI D a S X=L++X):=ri;clear ri;obtain⟨u,c,rfl⟩:∃u c,u10=aJ (aA ⟨u,0,aB⟩) L.length c:=by
    obtain⟨_,h0⟩|⟨g',v,_,e,_⟩:=A.out.2
    .omega
    .exact⟨g',v,e⟩
   obtain⟨_,_,y2,y3,y4,_⟩:=A.out.cell (i:=0) (by omega)
   obtain⟨ib,i1,i2,i3,i4⟩:=BY
   have f:(⟨X.toArray⟩:ByteArray).size=X.length:=by show X.toArray.size=_;simp
   have O:=A.out
   unfold sH at O
   go_wp2_with (first
    |(at_builtin;refine aDS _ rfl _ _ 50 9 rfl w.heap.size 5 ib ((Qz.cO 50).trans Tryz.underlying50) ((Qz.cO 9).trans Tryz.underlying9) i1 i2 i3 i4 _ L.length _ rfl O ⟨X.toArray⟩ rfl (by rw[f];simp only[maxLen];omega) (by rw[f];omega) V ?_;intro v' w5 h p _;
      have HO:sH w5 w.heap.size v' (L++X):=(by show w5.ownsRow _ _ _ _ _ _;rw[zAj,xB,<-f];rw[CO]at h;exact h);
      obtain⟨gy,aAD,ue⟩:=sH.form HO (by rw[zAj];omega);
      subst ue;
      have Sc:=Oy HO;rw[zAj]at Sc;
      have B5:Hid (zb w w5):=B1.out.grown (show wr.grownBy w5 (aA u)from p) V (λk U=>by injection U with U;omega);
      clear h p HO O i1 i2 i3 i4))
   go_ret
   exact⟨by rw[HW3.out];simp,B5.out⟩
end Go.Proofs.Zq
