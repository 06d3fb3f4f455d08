import Derived.Test.YtghpcgagijhlaaaGreatDoorP42
set_option linter.all false
set_option maxRecDepth 100000
set_option maxHeartbeats 16000000
open Option renaming some->aA,none->aB
open Bool renaming true->aE,false->aF
open Or renaming inl->aG,inr->aH
open Go.Ending renaming returned->aL
open Go.Obj renaming cells->aI
open Go.IntKind renaming i64->aD
open Go.Value renaming slice->aJ,string->aK,pointer->aN,int->aC
namespace Go.Proofs.Zq
open Go Go.RowKit Sha Go.Ga Go.Ren
section
variable {w:zW}{d k win first hb eO t room b cap:Nat}{S:List (List bK)}
def Ha (S0:List (List bK))(last us:List bK)(v:zY)(base:Nat)(h:cV w d k win first hb eO t room b cap (S0++[last]))(hU:cI w base v us)(Zj:us.length<=20)(V:∀u∈us,u.idx.length=32/\u.val.length<=100/\(u.gone=aE->u.val=[]))
  (hl:(S0++[last]).length<1000) (s:(bS last (dU us)).length<=400) (M:eM [] (S0++[last])+jG last (bS last (dU us))<=room) (hr:room<=1000000) (hfi:first+2<=1000000) (fw:1<=win) (ub:win<=1000):
  Calls zq 19 #[aN (aA ⟨d,0,aB⟩),v] w (RF λx C=>x= .tuple #[aC aD ((first:Int)+((S0++[last]).length:Int)),aC aD 0]/\∃j f I q,cV C d k win (if win<(S0++[last]).length+1 then first+1 else first) j f t room I q (if win<(S0++[last]).length+1 then(S0++[last]++[bS last (dU us)]).drop 1 else S0++[last]++[bS last (dU us)])/\(j=hb\/w.heap.size<=j)/\(I=b\/w.heap.size<=I)/\gI (tK d hb t b) w C):=by
 have Qu:us.all LV=aE:=zCa.2 λu hu=>by
  obtain⟨h1,h2,y⟩:=V u hu;unfold LV;cases hg:u.gone
  .simp[h1,h2]
  .simp[h1,h2,y hg]
 obtain⟨n1,n2,n3,n4,n5⟩:=h.ne
 have lf:=TP v us w (by omega) hU.du (λu hu=>by have:=V u hu;omega)
 rw[Qu]at lf
 have rr:Hid (∀W,zb w W->Calls zq 39 #[v] W λe C=>∃v',e=aL v'/\cI C W.heap.size v' (dU us)/\zb W C):=λW l=>OE (hU.below l (zAa _)) Zj
 have Yn:∀u∈dU us,u.idx.length=32/\u.val.length<=100:=λu hu=>by have:=V u (qZ hu);exact⟨this.1,this.2.1⟩
 have mw:(dU us).length<=1000:=by have:=OF us;omega
 have HE:Hid (cV w d k win first hb eO t room b cap (S0++[last])):=h
 have lb:Hid (∀u∈dU us,u.idx.length=32/\u.val.length<=100):=Yn
 have ai:Hid (eM [] (S0++[last])+jG last (bS last (dU us))<=room):=M
 have mN:∀W,(method (zq.types.size+100) 144 (aN (aA ⟨t,0,aB⟩)) "Next").run zq W= .ok (152,aN (aA ⟨t,0,aB⟩)) W:=λW=>reaches (by kernel_rfl) _ W
 have mR:∀W,(method (zq.types.size+100) 144 (aN (aA ⟨t,0,aB⟩)) "Root").run zq W= .ok (154,aN (aA ⟨t,0,aB⟩)) W:=λW=>reaches (by kernel_rfl) _ W
 obtain⟨va,vc,rfl,hvl,_⟩:=hU.tN
 clear h V Qu M Yn hU
 generalize dU us=ST at*
 generalize cn:bS last ST=N at*
 have Q:Hid (bS last ST=N):=cn
 clear cn
 obtain⟨S,Z⟩:∃S,S=S0++[last]:=⟨_,rfl⟩
 have R:Hid (S=S0++[last]):=Z
 obtain⟨n,hn⟩:∃n,n=S.length:=⟨_,rfl⟩
 have HN:Hid (n=S.length):=hn
 rw[<-Z,<-hn]at hl⊢
 have bk:1<=n:=by rw[hn,Z];simp
 clear Z hn
 obtain⟨F',jz⟩:∃F',F'=if win<n+1 then first+1 else first:=⟨_,rfl⟩
 obtain⟨S',jx⟩:∃S',S'=if win<n+1 then(S++[N]).drop 1 else S++[N]:=⟨_,rfl⟩
 have se:Hid (F'=if win<n+1 then first+1 else first):=jz
 have cz:Hid (S'=if win<n+1 then(S++[N]).drop 1 else S++[N]):=jx
 rw[<-jz,<-jx]
 clear jz jx
 go_enter Qz.func19,Tryz.ntmps19
 go_wp2_with fail
 refine lf.mono ?_
 clear lf
 rintro e w1 ⟨rfl,Hm⟩
 have B1:Hid (zb w w1):=Hm
 have D1:Hid (cV w1 d k win first hb eO t room b cap (S0++[last])):=HE.out.below Hm (zAa _)
 clear Hm
 dsimp only
 have oc:¬((200:Int)<(us.length:Int)):=by omega
 go_upto_region 5 with(fail)
 have q4:w1.cell? ⟨d,4,aB⟩=aA (.iface 144 (aN (aA ⟨t,0,aB⟩))):=D1.out.cell 4
 go_region_held3 (λC=>C.cell? ⟨d,4,aB⟩=aA (.iface 144 (aN (aA ⟨t,0,aB⟩)))) (go_keep) (first
  |(go_at_call 39;refine(rr.out _ (eX B1.out)).mono ?_;rintro e w2 ⟨v2,rfl,bh,VT⟩;have F:Hid (zb w1 w2):=pM VT;have qq:w2.cell? ⟨d,4,aB⟩=aA (.iface 144 (aN (aA ⟨t,0,aB⟩))):=(D1.out.below F.out (zAa _)).cell 4;obtain⟨vs,cs,ga,bw,oz⟩:=bh.tN;subst ga;dsimp only)
  |(go_at_call 152;refine(Jw last ST vs cs S0 (D1.out.below F.out (zAa _)).EC (by rw[<-R.out,<-HN.out];exact hl) oz lb.out mw (by rw[Q.out];exact s) (by rw[Q.out];exact ai.out) (by omega)).mono ?_;rintro e w3 ⟨rfl,I,q,qh,cj,P⟩;have tk:w3.cell? ⟨d,4,aB⟩=aA (.iface 144 (aN (aA ⟨t,0,aB⟩))):=(by rw[World.cell?_of_block (a:=⟨d,4,aB⟩) (P.block d (D1.out.below F.out (zAa _)).lt (λo=>by obtain o|o:=o;exact n2 o;exact n3 o))];exact qq);dsimp only))
 have E3:Hid (cC w3 t k room I q (S++[N])):=by have:=qh;rw[Q.out,<-R.out]at this;exact this
 have U:=D1.out.below F.out (zAa _)
 have K3:Hid (bB w3 d 86 #[aC aD k,aC aD win,aC aD first,aJ (aA ⟨hb,0,aB⟩) n eO,.iface 144 (aN (aA ⟨t,0,aB⟩))]):=(P.block d U.lt (λo=>by obtain o|o:=o;exact n2 o;exact n3 o)).trans (by have:=U.at';rw[<-R.out,<-HN.out]at this;exact this)
 obtain⟨H,zu,qf,jy⟩:=U.gJ
 have O3:Hid (cT PQ w3 hb 9 1 (aJ (aA ⟨hb,0,aB⟩) n eO) n (dA H)):=by
  rw[<-R.out,<-HN.out]at jy;exact jy.kept λg hg=>by have e:hb=g:=zAm hg;subst e;exact P.block hb U.bU (λo=>by obtain o|o:=o;exact n4 o;exact n5 o)
 have zp:H.length=n:=by rw[zu,<-R.out,<-HN.out]
 have V3:Hid (gI (tK d hb t b) w w3):=((gI.of B1.out (zAa _)).trans (gI.of F.out (zAa _))).trans (P.mono λx o=>aH (aH o))
 have lh:Hid (I=b\/w.heap.size<=I):=cj.imp id λh=>by have h1:=B1.out.size;have h2:=F.out.size;omega
 have iw:hb<w3.heap.size:=(cT.lt O3.out hb rfl).2
 have D:=K3.out.lt
 have E:Hid (zq.globals.size<d/\zq.globals.size<hb):=⟨D1.out.Lr,D1.out.yQ⟩
 have Nx:=D1.out.EC.k1
 have br:=D1.out.EC.k2
 clear qh jy P cj q4 U D1 B1 F VT bh oz rr HE tk qq
 have p0:w3.cell? ⟨d,0,aB⟩=aA (aC aD k):=(K3.out.cell 0).trans rfl
 have p2:w3.cell? ⟨d,2,aB⟩=aA (aC aD first):=(K3.out.cell 2).trans rfl
 have p3:w3.cell? ⟨d,3,aB⟩=aA (aJ (aA ⟨hb,0,aB⟩) n eO):=(K3.out.cell 3).trans rfl
 have p4:w3.cell? ⟨d,4,aB⟩=aA (.iface 144 (aN (aA ⟨t,0,aB⟩))):=(K3.out.cell 4).trans rfl
 go_upto_region 10 with(fail)
 obtain⟨m,hm⟩:∃m,n=m+1:=⟨n-1,by omega⟩
 have np:(n:Int)-1=(m:Int):=by omega
 have nt:(m:Int)<(n:Int):=by omega
 have ig:¬((m:Int)<0):=by omega
 have wu:(0:Int)<=(m:Int):=by omega
 have ua:IntKind.i64.wrap (m:Int)=(m:Int):=by rw[zGw];omega
 have J:IntKind.i64.wrap ((n:Int)-1)=(m:Int):=by rw[np];exact ua
 have qd:H[m]? =aA (H[m]'(by omega)):=zAf _
 have qe:=qf (H[m]'(by omega)) (zCr _)
 generalize H[m]'(by omega)=hd at qd qe
 have p5:w3.cell? ⟨hb,m,aB⟩=aA (aK ⟨hd.toArray⟩):=by
  obtain⟨cur,c1,c2,c3,c4,c5,c6,c7⟩:=cT.row O3.out;rw[zGy w3 hb m cur _ (0,0) c1,<-zBo];have:(dA H)[m]? =aA (aK ⟨hd.toArray⟩):=by unfold dA;rw[zEk,qd];rfl
  rw[<-c6,zBy,zAk (by omega)]at this
  exact this
 have HIN:Hid ((S++[N])[n]? =aA N):=by
  show _=_
  rw[zBq (by rw[<-HN.out];exact zAa _),<-HN.out,zGa]
  rfl
 have HMm:Hid (n=m+1):=hm
 clear hm
 have sq:Hid (cC w3.drew t k room I q (S++[N])):=E3.out.kept (zAa _) λ_ _=>rfl
 have r:(λC:zW=>C.cell? ⟨d,0,aB⟩=aA (aC aD k)/\C.cell? ⟨d,3,aB⟩=aA (aJ (aA ⟨hb,0,aB⟩) n eO)/\C.cell? ⟨d,4,aB⟩=aA (.iface 144 (aN (aA ⟨t,0,aB⟩)))/\C.cell? ⟨hb,m,aB⟩=aA (aK ⟨hd.toArray⟩)) w3.drew:=⟨p0,p3,p4,p5⟩
 refine AnyX.sK (λC=>C.cell? ⟨d,0,aB⟩=aA (aC aD k)/\C.cell? ⟨d,3,aB⟩=aA (aJ (aA ⟨hb,0,aB⟩) n eO)/\C.cell? ⟨d,4,aB⟩=aA (.iface 144 (aN (aA ⟨t,0,aB⟩)))/\C.cell? ⟨hb,m,aB⟩=aA (aK ⟨hd.toArray⟩)) (λi=>i==26) (by kernel_rfl) ?_
 refine AnyX.QG (i:=0) (v:=aN (aA ⟨d,0,aB⟩)) rfl (by kernel_rfl) (λ_ _ _ h=>h) (aG ⟨by rfl,λW=>by go_simp⟩) r ?_
 simp only[Act.put]
 refine AnyX.bC (i:=1) (v:=aN (aA ⟨d,0,aB⟩)) rfl (by kernel_rfl) (λ_ _ _ h=>h) (aG ⟨by rfl,λW l=>by obtain⟨A,y,s,z⟩:=l;go_simp⟩) r ?_
 simp only[Act.put]
 refine AnyX.bC (i:=2) (v:=aN (aA ⟨d,0,aB⟩)) rfl (by kernel_rfl) (λ_ _ _ h=>h) (aG ⟨by rfl,λW l=>by obtain⟨A,y,s,z⟩:=l;go_simp⟩) r ?_
 simp only[Act.put]
 refine AnyX.bC (i:=3) (v:=aN (aA ⟨d,3,aB⟩)) rfl (by kernel_rfl) (λ_ _ _ h=>h) (aG ⟨by rfl,λW l=>by obtain⟨A,y,s,z⟩:=l;go_simp⟩) r ?_
 simp only[Act.put]
 refine AnyX.bC (i:=4) (v:=aJ (aA ⟨hb,0,aB⟩) n eO) rfl (by kernel_rfl) (λ_ _ _ h=>h) (aG ⟨by rfl,λW l=>by obtain⟨A,y,s,z⟩:=l;go_simp⟩) r ?_
 simp only[Act.put]
 refine AnyX.bC (i:=5) (v:=aN (aA ⟨d,0,aB⟩)) rfl (by kernel_rfl) (λ_ _ _ h=>h) (aG ⟨by rfl,λW l=>by obtain⟨A,y,s,z⟩:=l;go_simp⟩) r ?_
 simp only[Act.put]
 refine AnyX.bC (i:=6) (v:=aN (aA ⟨d,0,aB⟩)) rfl (by kernel_rfl) (λ_ _ _ h=>h) (aG ⟨by rfl,λW l=>by obtain⟨A,y,s,z⟩:=l;go_simp⟩) r ?_
 simp only[Act.put]
 refine AnyX.bC (i:=7) (v:=aN (aA ⟨d,0,aB⟩)) rfl (by kernel_rfl) (λ_ _ _ h=>h) (aG ⟨by rfl,λW l=>by obtain⟨A,y,s,z⟩:=l;go_simp⟩) r ?_
 simp only[Act.put]
 refine AnyX.bC (i:=8) (v:=aC aD k) rfl (by kernel_rfl) (λ_ _ _ h=>h) (aG ⟨by rfl,λW l=>by obtain⟨A,y,s,z⟩:=l;go_simp⟩) r ?_
 simp only[Act.put]
 refine AnyX.bC (i:=9) (v:=aN (aA ⟨d,0,aB⟩)) rfl (by kernel_rfl) (λ_ _ _ h=>h) (aG ⟨by rfl,λW l=>by obtain⟨A,y,s,z⟩:=l;go_simp⟩) r ?_
 simp only[Act.put]
 refine AnyX.bC (i:=10) (v:=aN (aA ⟨d,0,aB⟩)) rfl (by kernel_rfl) (λ_ _ _ h=>h) (aG ⟨by rfl,λW l=>by obtain⟨A,y,s,z⟩:=l;go_simp⟩) r ?_
 simp only[Act.put]
 refine AnyX.bC (i:=11) (v:=aN (aA ⟨d,3,aB⟩)) rfl (by kernel_rfl) (λ_ _ _ h=>h) (aG ⟨by rfl,λW l=>by obtain⟨A,y,s,z⟩:=l;go_simp⟩) r ?_
 simp only[Act.put]
 refine AnyX.bC (i:=12) (v:=aJ (aA ⟨hb,0,aB⟩) n eO) rfl (by kernel_rfl) (λ_ _ _ h=>h) (aG ⟨by rfl,λW l=>by obtain⟨A,y,s,z⟩:=l;go_simp⟩) r ?_
 simp only[Act.put]
 refine AnyX.bC (i:=13) (v:=aC aD n) rfl (by kernel_rfl) (λ_ _ _ h=>h) (aG ⟨by rfl,λW l=>by obtain⟨A,y,s,z⟩:=l;go_simp⟩) r ?_
 simp only[Act.put]
 refine AnyX.bC (i:=14) (v:=aC aD m) rfl (by kernel_rfl) (λ_ _ _ h=>h) (aG ⟨by rfl,λW l=>by obtain⟨A,y,s,z⟩:=l;go_simp⟩) r ?_
 simp only[Act.put]
 refine AnyX.bC (i:=15) (v:=aN (aA ⟨hb,m,aB⟩)) rfl (by kernel_rfl) (λ_ _ _ h=>h) (aG ⟨by rfl,λW l=>by obtain⟨A,y,s,z⟩:=l;go_simp⟩) r ?_
 simp only[Act.put]
 refine AnyX.bC (i:=16) (v:=aK ⟨hd.toArray⟩) rfl (by kernel_rfl) (λ_ _ _ h=>h) (aG ⟨by rfl,λW l=>by obtain⟨A,y,s,z⟩:=l;go_simp⟩) r ?_
 simp only[Act.put]
 refine AnyX.bC (i:=17) (v:=aC aD ((first:Int)+(n:Int))) rfl (by kernel_rfl) (λ_ _ _ h=>h) (aG ⟨by rfl,λW l=>by obtain⟨A,y,s,z⟩:=l;go_simp⟩) r ?_
 simp only[Act.put]
 refine AnyX.bC (i:=18) (v:=aN (aA ⟨d,0,aB⟩)) rfl (by kernel_rfl) (λ_ _ _ h=>h) (aG ⟨by rfl,λW l=>by obtain⟨A,y,s,z⟩:=l;go_simp⟩) r ?_
 simp only[Act.put]
 refine AnyX.bC (i:=19) (v:=aN (aA ⟨d,0,aB⟩)) rfl (by kernel_rfl) (λ_ _ _ h=>h) (aG ⟨by rfl,λW l=>by obtain⟨A,y,s,z⟩:=l;go_simp⟩) r ?_
 simp only[Act.put]
 refine AnyX.bC (i:=20) (v:=aN (aA ⟨d,4,aB⟩)) rfl (by kernel_rfl) (λ_ _ _ h=>h) (aG ⟨by rfl,λW l=>by obtain⟨A,y,s,z⟩:=l;go_simp⟩) r ?_
 simp only[Act.put]
 refine AnyX.bC (i:=21) (v:= .iface 144 (aN (aA ⟨t,0,aB⟩))) rfl (by kernel_rfl) (λ_ _ _ h=>h) (aG ⟨by rfl,λW l=>by obtain⟨A,y,s,z⟩:=l;go_simp⟩) r ?_
 simp only[Act.put]
 refine AnyX.bC (i:=22) (v:=aC aD n) rfl (by kernel_rfl) (λ_ _ _ h=>h) (aG ⟨by rfl,λW l=>by obtain⟨A,y,s,z⟩:=l;go_simp⟩) r ?_
 simp only[Act.put]
 refine AnyX.fE (i:=23) (by kernel_rfl) rfl (λK B=> ?_)
 go_simp
 refine(SH sq.out HIN.out).mono ?_
 rintro e w4 (⟨_,rfl,rfl,cg⟩|⟨c,rfl,he⟩)
 rotate_left
 .exact⟨rfl,.told he⟩
 have b4:Hid (zb w3 w4):=pM cg
 have r0:w4.cell? ⟨d,0,aB⟩=aA (aC aD k):=by rw[b4.out.cell (p:=⟨d,0,aB⟩) D];exact p0
 have r3:w4.cell? ⟨d,3,aB⟩=aA (aJ (aA ⟨hb,0,aB⟩) n eO):=by rw[b4.out.cell (p:=⟨d,3,aB⟩) D];exact p3
 have r4:w4.cell? ⟨d,4,aB⟩=aA (.iface 144 (aN (aA ⟨t,0,aB⟩))):=by rw[b4.out.cell (p:=⟨d,4,aB⟩) D];exact p4
 have r5:w4.cell? ⟨hb,m,aB⟩=aA (aK ⟨hd.toArray⟩):=by rw[b4.out.cell (p:=⟨hb,m,aB⟩) iw];exact p5
 dsimp only
 refine B.out _ _ (λ_=>⟨r0,r3,r4,r5⟩) ?_
 clear B K cg r
 refine AnyX.fE (i:=24) (by kernel_rfl) rfl (λK B=> ?_)
 go_simp
 refine(Kt k _ hd _ w4 (E3.out.mZ.below b4.out (zAa _)) Nx br qe (by have:=jA k 0 (bF N) br;omega) (by omega)).mono ?_
 rintro e w5 ⟨HX,rfl,zt,Ur⟩
 have b5:Hid (zb w3 w5):=aV b4.out Ur b4.out.size
 have O:d<w5.heap.size:=zAc D b5.out.size
 have iy:hb<w5.heap.size:=zAc iw b5.out.size
 have s0:w5.cell? ⟨d,0,aB⟩=aA (aC aD k):=by rw[b5.out.cell (p:=⟨d,0,aB⟩) D];exact p0
 have s3:w5.cell? ⟨d,3,aB⟩=aA (aJ (aA ⟨hb,0,aB⟩) n eO):=by rw[b5.out.cell (p:=⟨d,3,aB⟩) D];exact p3
 have s4:w5.cell? ⟨d,4,aB⟩=aA (.iface 144 (aN (aA ⟨t,0,aB⟩))):=by rw[b5.out.cell (p:=⟨d,4,aB⟩) D];exact p4
 have s5:w5.cell? ⟨hb,m,aB⟩=aA (aK ⟨hd.toArray⟩):=by rw[b5.out.cell (p:=⟨hb,m,aB⟩) iw];exact p5
 dsimp only
 refine B.out _ _ (λ_=>⟨s0,s3,s4,s5⟩) ?_
 clear B K Ur r0 r3 r4 r5
 refine AnyX.fE (i:=25) (by kernel_rfl) rfl (λK B=> ?_)
 go_simp
 refine B.out _ _ (λ_=>⟨by rw[World.cell?_alloc_lt _ _ _ O];exact s0,by rw[World.cell?_alloc_lt _ _ _ O];exact s3,by rw[World.cell?_alloc_lt _ _ _ O];exact s4,by rw[World.cell?_alloc_lt _ _ _ iy];exact s5⟩) ?_
 clear B K s0 s3 s4 s5
 obtain⟨j,f,W6,my,Y,Zb,cm⟩:=YM (O3.out.below b5.out (zAa _)|>.alloc (aI #[aK ⟨HX.toArray⟩] 9)) (by omega) HX (vb:=w5.heap.size) (zHh w5 _) (by have:=b5.out.size;rw[size_alloc];omega)
 refine AnyX.fE (i:=26) (by kernel_rfl) rfl (λK B=> ?_)
 refine jX rfl _ _ 82 82 rfl _ _ rfl rfl (my _) ?_
 refine B.out _ _ (λh=>AnyX.mL h (by kernel_rfl)) ?_
 clear B K
 have hd5:d<(w5.alloc (aI #[aK ⟨HX.toArray⟩] 9)).heap.size:=by have:=b5.out.size;rw[size_alloc];omega
 have KA:=((K3.out.below b5.out D).alloc (aI #[aK ⟨HX.toArray⟩] 9)).grown Y (λe=>by injection e with e;exact n1 e)
 have a3:W6.cell? ⟨d,3,aB⟩=aA (aJ (aA ⟨hb,0,aB⟩) n eO):=(KA.cell 3).trans rfl
 have z3:=KA.frozen 3
 have T:Hid (bB W6 d 86 #[aC aD k,aC aD win,aC aD first,aJ (aA ⟨hb,0,aB⟩) n eO,.iface 144 (aN (aA ⟨t,0,aB⟩))]):=KA
 clear KA
 refine AnyX.fE (i:=27) (by kernel_rfl) rfl (λK B=> ?_)
 simp only[Act.put,zCo,zDm,zDg]
 go_simp
 refine B.out _ _ (λh=>AnyX.mL h (by kernel_rfl)) ?_
 clear B K
 refine AnyX.fE (i:=28) (by kernel_rfl) rfl (λK B=> ?_)
 go_simp
 refine B.out _ _ (λh=>AnyX.mL h (by kernel_rfl)) ?_
 clear B K
 refine AnyX.fE (i:=29) (by kernel_rfl) rfl (λK B=> ?_)
 go_simp
 refine B.out _ _ (λh=>AnyX.mL h (by kernel_rfl)) ?_
 clear B K
 refine AnyX.sL (by kernel_rfl) ?_ _
 have X:=cN W6 d (#[aC aD k,aC aD win,aC aD first,aJ (aA ⟨j,0,aB⟩) (n+1) f,.iface 144 (aN (aA ⟨t,0,aB⟩))]:zA)
 have L:W6.setCell ⟨d,3,aB⟩ (aJ (aA ⟨j,0,aB⟩) (n+1) f)=W6.setRow d (#[aC aD k,aC aD win,aC aD first,aJ (aA ⟨j,0,aB⟩) (n+1) f,.iface 144 (aN (aA ⟨t,0,aB⟩))]:zA):=by rw[setCell_eq_setRow W6 d 3 _ _ (0,0) _ T.out];rfl
 have Qp:=T.out.cH (#[aC aD k,aC aD win,aC aD first,aJ (aA ⟨j,0,aB⟩) (n+1) f,.iface 144 (aN (aA ⟨t,0,aB⟩))]:zA)
 have bA:zb w3 (w5.alloc (aI #[aK ⟨HX.toArray⟩] 9)):=b5.out.alloc b5.out.size _
 obtain⟨kq,qn,_⟩:=cT.row (O3.out.below bA (zAa _))
 have D7:Hid (cV (W6.setCell ⟨d,3,aB⟩ (aJ (aA ⟨j,0,aB⟩) (n+1) f)) d k win first j f t room I q (S++[N])):=by
  rw[L];have G:(S++[N]).length=n+1:=by rw[zAj,<-HN.out];rfl
  have xj:j≠d:=λe=>by obtain⟨c6,e6,_⟩:=cT.row cm;rw[e,T.out]at e6;injection e6 with e6;injection e6 with _ e7;revert e7;decide
  refine⟨((E3.out.below bA (zAa _)).other Y qn (by decide) E.out.2).other X T.out (by decide) E.out.1,E.out.1,?_,by rw[G];exact Qp,⟨H++[HX],by rw[zAj,G,zp];rfl,λx o=> ?_,?_⟩,by omega⟩
  .obtain e|e:=Zb
   .rw[e];exact E.out.2
   .rw[e];have:=E.out.1;omega
  .obtain o|o:=zCh.1 o
   .exact qf x o
   .rw[zAw.1 o];exact zt
  .rw[G];exact cm.kept λg hg=>by have e:j=g:=zAm hg;subst e;exact X.block j (cT.lt cm j rfl).2 (λe=>by injection e with e;exact xj e)
 have V7:Hid (gI (tK d hb t b) w (W6.setCell ⟨d,3,aB⟩ (aJ (aA ⟨j,0,aB⟩) (n+1) f))):=by rw[L];exact((V3.out.trans (gI.of bA (zAa _))).trans (gI.grown Y (aH (aG rfl)))).trans (gI.grown X (aG rfl))
 have lg:Hid (j=hb\/w.heap.size<=j):=Zb.imp id λe=>by have h1:=bA.size;have h2:=V3.out.size;rw[e];omega
 generalize W6.setCell ⟨d,3,aB⟩ (aJ (aA ⟨j,0,aB⟩) (n+1) f)=w7 at*
 clear L Qp X qn bA Y Zb cm T a3 z3 my K3 O3 E3 sq V3
 go_wp2_with fail
 have y3:=dG ((D7.out.cell 3).trans (rfl:_=aA (Value.slice (aA ⟨j,0,aB⟩) (S++[N]).length f))) D7.out.lt
 have y1:=dG ((D7.out.cell 1).trans (rfl:_=aA (Value.int aD win))) D7.out.lt
 have G:(S++[N]).length=n+1:=by rw[zAj,<-HN.out];rfl
 rw[G]at y3
 refine zGv (by kernel_rfl) (by kernel_rfl) ?_
 repeat (any_goals(first|go_big_quiet_step (fail)|quiet_step (fail)))
 refine zHc ?_
 intro w8 ud
 obtain⟨q8,mz⟩:=ud
 have b8:Hid (zb w7 w8):=by rw[mz];exact zGr w7 q8.d q8.os
 have D8:Hid (cV w8 d k win first j f t room I q (S++[N])):=D7.out.below b8.out (zAa _)
 have V8:Hid (gI (tK d hb t b) w w8):=V7.out.trans (gI.of b8.out (zAa _))
 clear mz y1 y3 D7 V7 b8
 by_cases J:win<n+1
 .have uc:(win:Int)<(n:Int)+1:=by omega
  have sb:=KP D8.out (by rw[G];omega);go_wp2_with fail;refine sb.mono ?_;clear sb;rintro e w9 ⟨rfl,qi,ps⟩;have D9:Hid (cV w9 d k win (first+1) j f t room I q ((S++[N]).drop 1)):=qi (by omega);have V9:Hid (gI (tK d hb t b) w w9):=V8.out.then ps λx o bU=>by
   obtain o|o|o|o:=o
   .exact aG o
   .obtain e|e:=lg.out
    .exact aH (aG (o.trans e))
    .omega
   .exact aH (aH (aG o))
   .obtain e|e:=lh.out
    .exact aH (aH (aH (o.trans e)))
    .omega
  clear qi ps
  dsimp only
  go_wp2
  go_ret2
  exact .of ⟨rfl,j,f,I,q,by rw[se.out,cz.out,zAk J,zAk J];exact D9.out,lg.out,lh.out,V9.out⟩
 .have uc:¬((win:Int)<(n:Int)+1):=by omega
  go_wp2;go_ret2;exact .of ⟨rfl,j,f,I,⟨q,by rw[se.out,cz.out,zAh J,zAh J];exact D8.out⟩,lg.out,lh.out,V8.out⟩
end
def PM {B:Nat}{w w1 w2:zW}{x:Nat}(h:Below B w w1)(a:w1.grownBy w2 (aA x))(g:B<=x)(f:B<=w1.heap.size):Below B w w2:=⟨a.os.trans h.os,a.tape.trans h.tape,a.output.trans h.output,zBl h.size a.size,λk c=>(a.block k (zAc c f) (λe=>by injection e with e;omega)).trans (h.block k c)⟩
def ZR {B:Nat}{w w1 w2:zW}{F:zP}(h:Below B w w1)(hs:gI F w1 w2)(hF:∀x,F x->B<=x)(c:B<=w1.heap.size):Below B w w2:=⟨hs.os.trans h.os,hs.tape.trans h.tape,hs.output.trans h.output,zBl h.size hs.size,λk a=>(hs.block k (zAc a c) (λe=>by have:=hF k e;omega)).trans (h.block k a)⟩
section
variable {w w':zW}{d k win first hb eO t room b cap:Nat}{S:List (List bK)}
def cV.other {x:Nat}{cs:zA}{ty:zD}{fr:Nat×Nat}(h:cV w d k win first hb eO t room b cap S)(i:w.grownBy w' (aA x))(c:w.heap[x]? =aA (aI cs ty fr))(a:ty≠53/\ty≠165/\ty≠48/\ty≠86/\ty≠9)(m:zq.globals.size<x):cV w' d k win first hb eO t room b cap S:=by
 obtain⟨H,o,n,j⟩:=h.gJ;obtain⟨l,ch,_⟩:=cT.row j;refine⟨h.EC.other i c ⟨a.1,a.2.1,a.2.2.1⟩ m,h.Lr,h.yQ,?_,⟨H,o,n,j.kept λg f=> ?_⟩,h.f1⟩
 .rw[i.block d h.lt (λe=>by injection e with e;exact oC c h.at' a.2.2.2.1 e.symm)];exact h.at'
 .have e:hb=g:=zAm f;subst e;exact i.block hb h.bU (λe=>by injection e with e;exact oC c ch a.2.2.2.2 e.symm)
end
def RF.mono {R a:zR}{e:Ending}{w:zW}(h:RF R e w)(g:∀x,R x w->a x w):RF a e w:=h.imp (λ⟨x,f,c⟩=>⟨x,f,g x c⟩) id
def Gz {w:zW}{d k win f m j hb eO t b cap base:Nat}{v:zY}(rs:Nat->zII)(D:cV w d k win f hb eO t 100000 b cap (lL rs f m))(K:cI w base v (((rs j).take 20).map cZ))(I:f+m=j+1)(M:1<=m)(G:m<=win)(L:win<=20)(N:j<20):
  Calls zq 19 #[aN (aA ⟨d,0,aB⟩),v] w (RF λx w'=>x= .tuple #[aC aD ((j:Int)+1),aC aD 0]/\∃A p a h n c,cV w' d k win A a h t 100000 n c (lL rs A p)/\A+p=j+2/\1<=p/\p<=win/\(a=hb\/w.heap.size<=a)/\(n=b\/w.heap.size<=n)/\gI (tK d hb t b) w w'):=by
 obtain⟨m0,rfl⟩:∃m0,m=m0+1:=⟨m-1,by omega⟩
 have o:f+m0=j:=by omega
 have l:bS (jJ (eZ rs j)) (dU (((rs j).take 20).map cZ))=jJ (eZ rs (j+1)):=Hz (AH rs j) (rs j)
 have z:lL rs f (m0+1)=lL rs f m0++[jJ (eZ rs j)]:=by rw[qL,o]
 have i:(lL rs f m0++[jJ (eZ rs j)]).length=m0+1:=by rw[<-z,yV]
 have y:lL rs f m0++[jJ (eZ rs j)]++[jJ (eZ rs (j+1))]=lL rs f (m0+2):=by rw[<-z,qL rs (m0+1),show f+(m0+1)=j+1 by omega]
 rw[z]at D
 have g:=Ln rs f m0 (by omega)
 rw[o]at g
 have H:=Ha (lL rs f m0) (jJ (eZ rs j)) (((rs j).take 20).map cZ) v base D K (by rw[zDd,zAn];omega) (λu F=>by obtain⟨r,_,rfl⟩:=zDb.1 F;exact XD r) (by rw[i];omega) (by rw[l];have:=Om (eZ rs (j+1));omega) (by rw[l];exact g) (by omega) (by omega) (by omega) (by omega)
 rw[l,i,y]at H
 refine H.mono λe w' J=>RF.mono J λx=> ?_
 rintro⟨rfl,a,h,n,c,s,E,C,B⟩
 refine⟨by rw[show((f:Int)+((m0+1:Nat):Int))=(j:Int)+1 by omega],?_⟩
 by_cases q:win<m0+1+1
 .rw[zAk q,zAk q]at s;exact⟨f+1,m0+1,a,h,n,c,s,by omega,by omega,by omega,E,C,B⟩
 .rw[zAh q,zAh q]at s;exact⟨f,m0+2,a,h,n,c,s,by omega,by omega,by omega,E,C,B⟩
structure AK (w:zW)(va:zO)(E:List (zII)):Prop where
 EB:∀i l,E[i]? =aA l->∃g o ev,va=aA ⟨g,o,aB⟩/\g<w.heap.size/\w.cell? ⟨g,o+i,aB⟩=aA ev/\qR w ev l/\l.length<=4611686018427387904
structure JU (w:zW)(aa:zO)(L:List Int):Prop where
 EB:∀i n,L[i]? =aA n->∃g o,aa=aA ⟨g,o,aB⟩/\g<w.heap.size/\w.cell? ⟨g,o+i,aB⟩=aA (aC aD n)/\-9223372036854775808<=n/\n<=9223372036854775807
section
variable {P:zZ}{o:Oper}{ev:Operand->zY}{w:zW}
def vW (ty:zD)(x:Operand)(b:o.op= .load ty x)(g p:Nat)(h:ev x=aN (aA ⟨g,p,aB⟩))(t:zD)(c cs:zA)(fr:Nat×Nat)(d:TypeDesc)(f:w.heap[g]? =aA (aI c t fr))(k:∀j v,cs.toList[j]? =aA v->c[p+j]? =aA v)
  (a:P.underlying ty=aA d) (i:(match d with| .struct _| .array _ _=>aE|_=>aF)=aE) (e:(P.info? ty).map (·.size)=aA cs.size):(execOp ev o).run P w= .ok (.value (.agg cs)) w:=by
 unfold execOp
 simp only[b,h,Instr.loadAt,Instr.sureAddr,Sem.run_bind,Sem.run_pure,zHi,run_loadVar_mid w g p t ty c cs fr d f k a i e]
end
def EI (s:St):(zq.info? 43).map (·.size)=aA (dJ s).size:=by rw[qW];kernel_rfl
def PF (va:zO)(vc:Nat)(E:List (zII))(wi wo:Int)(k r:Nat)(aa:zO)(ac:Nat)(L:List Int)(w:zW)(hB:Base w)(hE:AK w va E)(zw:E.length<=4611686018427387904)(hL:JU w aa L)(zl:L.length<=4611686018427387904)(h1: -9223372036854775808<=wi)(h2:wi<=9223372036854775807)(h3: -9223372036854775808<=wo)(h4:wo<=9223372036854775807)(hk:(k:Int)=1+eF wi 32)(hw:(r:Int)=1+eF wo 20):
  Calls zq 12 #[aC aD 1,aJ va E.length vc,aC aD wi,aC aD wo,aJ aa L.length ac] w (RF λx B=>x= .bool aE/\zb w B):=by
 obtain⟨c,hc,Yz⟩:=gO wo 20 (by omega)
 have jh:eF wo 20=(c:Int):=hc
 have fw:1<=r:=by omega
 have Yi:r<=20:=by omega
 have HP2:Hid (∀W,Calls zq 15 #[aC aD wo,aC aD 20] W λe B=>e=aL (aC aD (c:Int))/\B=W):=λW=>by have:=oF wo 20 W h3 h4 (by omega) (by omega);rw[jh]at this;exact this
 have HC:Hid (r=c+1):=by show r=c+1;omega
 clear hc jh
 have oq:zq.globals.size<w.heap.size:=hB.low
 have HB:Hid (Base w):=hB
 have HE:Hid (AK w va E):=hE
 have HL:Hid (JU w aa L):=hL
 clear hB hE hL
 obtain⟨N,gz⟩:∃N,N=E.length:=⟨_,rfl⟩
 have rz:Hid (N=E.length):=gz
 obtain⟨M,gv⟩:∃M,M=L.length:=⟨_,rfl⟩
 have ry:Hid (M=L.length):=gv
 rw[<-gz]at zw⊢
 rw[<-gv]at zl⊢
 clear gz gv
 go_enter Qz.func12,Tryz.ntmps12
 go_wp2_with fail
 refine(Ff w HB.out.mZ).mono ?_
 rintro e w1 ⟨rfl,Hm⟩
 have B1:Hid (zb w w1):=Hm
 have H1:Hid (Base w1):=HB.out.below Hm (zAa _)
 clear Hm
 dsimp only
 go_wp2_with fail
 refine(KL wi wo k r w1 H1.out h1 h2 h3 h4 hk hw).mono ?_
 rintro e w2 ⟨d,hb,tt,bb,rfl,hD,g1,g2,g3,g4,VT⟩
 have B2:Hid (zb w w2):=aV B1.out VT B1.out.size
 have D2:Hid (cV w2 d k r 0 hb 1 tt 100000 bb 1 [[]]):=hD
 have hz:=B1.out.size
 clear VT hD
 dsimp only
 go_upto_region 7 with(fail)
 have HA:Hid (lI (w2.alloc (aI Tryz.zeroCells72 72)) w2.heap.size (λj=>E.getD j []) 0 Tryz.zeroCells72):=He w2 _
 have b3:Hid (zb w2 (w2.alloc (aI Tryz.zeroCells72 72))):=(zGp _ _).alloc (zAa _) _
 generalize w2.alloc (aI Tryz.zeroCells72 72)=w3 at*
 have B3:Hid (zb w w3):=aV B2.out b3.out B2.out.size
 have D3:Hid (cV w3 d k r 0 hb 1 tt 100000 bb 1 [[]]):=D2.out.below b3.out (zAa _)
 have hAw:w.heap.size<=w2.heap.size:=B2.out.size
 generalize w2.heap.size=A at*
 have HRS:Hid (∀i l,E[i]? =aA l->(λj=>E.getD j []) i=l):=λi l h=>by show E.getD i []=l;rw[zAq,h];rfl
 generalize(λj=>E.getD j [])=rs at*
 clear b3 D2 B2 B1 H1
 go_loopg [14] 20 (λq i wr=>∃(j f m D t b' z:Nat)(b:zA),j+q=20/\j<=N/\i=aC aD (j:Int)/\cV wr d k r f D t tt 100000 b' z (lL rs f m)/\f+m=j+1/\1<=m/\m<=r/\w.heap.size<=D/\w.heap.size<=b'/\lI wr A rs j b/\zb w wr)
 case atStart=>exact⟨0,0,1,hb,1,bb,1,Tryz.zeroCells72,by omega,by omega,rfl,D3.out,rfl,zAa _,by omega,by omega,by omega,HA.out,B3.out⟩
 case round=>
  obtain⟨j,f,m,D,t,b',z,b,hj,iv,rfl,hD,xz,nt,wh,hh1,hh2,hA,b1⟩:=hrel
  have AA:Hid (lI wr A rs j b):=hA
  have DA:Hid (cV wr d k r f D t tt 100000 b' z (lL rs f m)):=hD
  have B4:Hid (zb w wr):=b1
  clear hA hD b1 HA D3 B3
  obtain⟨bU,Yt⟩|⟨bU,Yt⟩|bU:=(show(j<N/\j<20)\/(j<N/\¬j<20)\/¬j<N by omega)
  .have hu:=zAf (l:=E) (i:=j) (by have:=rz.out;omega);generalize E[j]'(by have:=rz.out;omega)=l at hu;obtain⟨g,o,ev,rfl,hg,s,Yp,hlen⟩:=HE.out.EB j l hu;have rv:Hid (rs j=l):=HRS.out j l hu;have HR:Hid (qR w ev l):=Yp;have rh:Hid (∀W,zb w W->Calls zq 18 #[.agg (dJ (eZ rs j)),ev] W λe B=>e=aL (.agg (dJ (eZ rs (j+1))))/\zb W B):=λW a=>by
    have:=Hv (eZ rs j) ev l W (HR.out.below a (zAa _)) hlen;rw[<-rv.out]at this;exact this
   have HCE:Hid (w.cell? ⟨g,o+j,aB⟩=aA ev):=s;have Hl:wr.cell? ⟨g,o+j,aB⟩=aA ev:=by rw[B4.out.cell (p:=⟨g,o+j,aB⟩) hg];exact s
   have Qq:(j:Int)<(N:Int):=by omega
   have bs:(j:Int)<20:=by omega
   have xe:¬((j:Int)<0):=by omega
   have hj3:(0:Int)<=(j:Int):=by omega
   have hj4:(j:Int)<21:=by omega
   have hj5:(j:Int)+1<21:=by omega
   have hj6:(0:Int)<=(j:Int)+1:=by omega
   have hj7:¬((j:Int)+1<0):=by omega
   have hj8:IntKind.i64.wrap ((j:Int)+1)=(j:Int)+1:=by rw[zGw];omega
   have hj9:((j:Int)+1).toNat=j+1:=by omega
   clear hu Yp s
   go_upto_region 9 with(fail)
   have y:(λB:zW=>B.heap[A]? =aA (aI b 72 (0,0))/\B.cell? ⟨g,o+j,aB⟩=aA ev) wr.drew:=⟨AA.out.row,Hl⟩
   refine AnyX.sK (λB=>B.heap[A]? =aA (aI b 72 (0,0))/\B.cell? ⟨g,o+j,aB⟩=aA ev) (λi=>i==10) (by kernel_rfl) ?_
   refine AnyX.bC (i:=0) (v:=aC aD (j:Int)) rfl (by kernel_rfl) (λ_ _ _ h=>h) (aG ⟨by rfl,λW a=>by obtain⟨q1,C⟩:=a;go_simp⟩) y ?_
   simp only[Act.put]
   refine AnyX.bC (i:=1) (v:=aC aD ((j:Int)+1)) rfl (by kernel_rfl) (λ_ _ _ h=>h) (aG ⟨by rfl,λW a=>by obtain⟨q1,C⟩:=a;go_simp⟩) y ?_
   simp only[Act.put]
   refine AnyX.bC (i:=2) (v:=aC aD (j:Int)) rfl (by kernel_rfl) (λ_ _ _ h=>h) (aG ⟨by rfl,λW a=>by obtain⟨q1,C⟩:=a;go_simp⟩) y ?_
   simp only[Act.put]
   refine AnyX.bC (i:=3) (v:=aN (aA ⟨A,j*128,aB⟩)) rfl (by kernel_rfl) (λ_ _ _ h=>h) (aG ⟨by rfl,λW a=>by obtain⟨q1,C⟩:=a;go_simp⟩) y ?_
   simp only[Act.put]
   refine AnyX.bC (i:=4) (v:= .agg (dJ (eZ rs j))) rfl (by kernel_rfl) (λ_ _ _ h=>h) (aG ⟨by rfl,λW a=>by obtain⟨q1,C⟩:=a;exact vW 43 _ rfl A (j*128) rfl _ b _ _ _ q1 (λp v hv=>AA.out.has j (zAa _) p v hv) ((Qz.cO 43).trans Tryz.underlying43) rfl (EI _)⟩) y ?_
   simp only[Act.put]
   refine AnyX.bC (i:=5) (v:=aJ (aA ⟨g,o,aB⟩) N vc) rfl (by kernel_rfl) (λ_ _ _ h=>h) (aG ⟨by rfl,λW a=>by obtain⟨q1,C⟩:=a;go_simp⟩) y ?_
   simp only[Act.put]
   refine AnyX.bC (i:=6) (v:=aC aD (j:Int)) rfl (by kernel_rfl) (λ_ _ _ h=>h) (aG ⟨by rfl,λW a=>by obtain⟨q1,C⟩:=a;go_simp⟩) y ?_
   simp only[Act.put]
   refine AnyX.bC (i:=7) (v:=aN (aA ⟨g,o+j,aB⟩)) rfl (by kernel_rfl) (λ_ _ _ h=>h) (aG ⟨by rfl,λW a=>by obtain⟨q1,C⟩:=a;go_simp⟩) y ?_
   simp only[Act.put]
   refine AnyX.bC (i:=8) (v:=ev) rfl (by kernel_rfl) (λ_ _ _ h=>h) (aG ⟨by rfl,λW a=>by obtain⟨q1,C⟩:=a;go_simp⟩) y ?_
   simp only[Act.put]
   refine AnyX.fE (i:=9) (by kernel_rfl) rfl (λK F=> ?_)
   go_simp
   refine(rh.out _ (eX B4.out)).mono ?_
   rintro e w5 ⟨rfl,Ur⟩
   have b5:Hid (zb wr w5):=pM Ur
   have A5:Hid (lI w5 A rs j b):=AA.out.kept (b5.out.block A AA.out.lt)
   have mx:=B4.out.size
   have c5:w5.cell? ⟨g,o+j,aB⟩=aA ev:=by rw[b5.out.cell (p:=⟨g,o+j,aB⟩) (by show g<_;omega)];exact Hl
   clear Ur
   dsimp only
   refine F.out _ _ (λ_=>⟨A5.out.row,c5⟩) ?_
   clear F K y
   refine AnyX.fE (i:=10) (by kernel_rfl) rfl (λK F=> ?_)
   go_simp
   refine F.out _ _ (λh=>AnyX.mL h (by kernel_rfl)) ?_
   clear F K
   refine AnyX.fE (i:=11) (by kernel_rfl) rfl (λK F=> ?_)
   refine FK rfl 43 _ _ rfl A ((j+1)*128) (dJ (eZ rs (j+1))) rfl rfl 72 b A5.out.row (EI _) (by rw[qW,A5.out.size];omega) (Dl _) ?_
   refine F.out _ _ (λh=>AnyX.mL h (by kernel_rfl)) ?_
   clear F K
   refine AnyX.sL (by kernel_rfl) ?_ _
   have ov:=cN w5 A (over b.toList ((j+1)*128) (dJ (eZ rs (j+1))).toList).toArray
   have A6:Hid (lI (w5.setRow A (over b.toList ((j+1)*128) (dJ (eZ rs (j+1))).toList).toArray) A rs (j+1) (over b.toList ((j+1)*128) (dJ (eZ rs (j+1))).toList).toArray):=A5.out.next (by omega)
   have D6:Hid (cV (w5.setRow A (over b.toList ((j+1)*128) (dJ (eZ rs (j+1))).toList).toArray) d k r f D t tt 100000 b' z (lL rs f m)):=(DA.out.below b5.out (zAa _)).other ov A5.out.row (by decide) (by omega)
   have B6:Hid (zb w (w5.setRow A (over b.toList ((j+1)*128) (dJ (eZ rs (j+1))).toList).toArray)):=PM (aV B4.out b5.out mx) ov hAw (zBl mx b5.out.size)
   generalize(over b.toList ((j+1)*128) (dJ (eZ rs (j+1))).toList).toArray=G at*
   generalize w5.setRow A G=w6 at*
   have c6:w6.cell? ⟨g,o+j,aB⟩=aA ev:=by rw[B6.out.cell (p:=⟨g,o+j,aB⟩) hg];exact HCE.out
   clear c5 Hl b5 A5 DA AA B4 rh
   simp only[Act.put,zCo,zDm,zDg]
   go_wp2_with fail
   refine(Gw ev l w6 (HR.out.below B6.out (zAa _)) hlen).mono ?_
   rintro e w7 ⟨v7,rfl,qc,X⟩
   have O7:Hid (cI w7 w6.heap.size v7 (((rs j).take 20).map cZ)):=by rw[rv.out];exact qc
   have B7:Hid (zb w w7):=aV B6.out X B6.out.size
   have D7:Hid (cV w7 d k r f D t tt 100000 b' z (lL rs f m)):=D6.out.below X (zAa _)
   have A7:Hid (lI w7 A rs (j+1) G):=A6.out.kept (X.block A A6.out.lt)
   clear qc X c6 D6 A6 B6
   dsimp only
   have so:=Gz rs D7.out O7.out xz nt wh Yi (by omega)
   go_wp2_with fail
   refine so.mono ?_
   clear so
   rintro e w8 (⟨_,rfl,rfl,f',m',cf,R,b8,Zu,qj,xy,wq,ia,Wj,Wi,gj⟩|⟨c,rfl,he⟩)
   rotate_left
   .exact⟨rfl,.told he⟩
   have tu:=B7.out.size
   have D8:Hid (cV w8 d k r f' cf R tt 100000 b8 Zu (lL rs f' m')):=qj
   have B8:Hid (zb w w8):=ZR B7.out gj (λx O=>by obtain rfl|rfl|rfl|rfl:=O<;>omega) tu
   have A8:Hid (lI w8 A rs (j+1) G):=A7.out.kept (gj.block A A7.out.lt (λO=>by
    obtain⟨H,_,_,hh⟩:=D7.out.gJ;obtain⟨kq,ch,_⟩:=cT.row hh;obtain⟨aAB,cb,_⟩:=D7.out.EC.row;obtain O|O|O|O:=O
    .exact oC A7.out.row D7.out.at' (by decide) O
    .exact oC A7.out.row ch (by decide) O
    .exact oC A7.out.row D7.out.EC.at' (by decide) O
    .exact oC A7.out.row cb (by decide) O))
   have xk:w.heap.size<=cf:=by obtain h|h:=Wj<;>omega
   have jr:w.heap.size<=b8:=by obtain h|h:=Wi<;>omega
   clear qj gj Wj Wi D7 A7 B7 O7
   dsimp only
   go_wp2
   go_roundg (20-(j+1))
   case measure=>go_light;omega
   case rel=>go_light;exact⟨j+1,f',m',cf,R,b8,Zu,G,by omega,by omega,by go_num,D8.out,by omega,wq,ia,xk,jr,A8.out,B8.out⟩
  all_goals
   first|(have Qq:¬((j:Int)<(N:Int)):=by omega)|(have Qq:(j:Int)<(N:Int):=by omega)
   try(have bs:¬((j:Int)<20):=by omega)
   have HK:=TN DA.out
   rw[yV,show(f:Int)+(m:Int)-1=(j:Int) by omega]at HK
   go_wp2_with fail
   refine HK.mono ?_
   clear HK
   rintro e Z ⟨rfl,V⟩
   have B9:Hid (zb w Z):=aV B4.out V B4.out.size
   have D9:Hid (cV Z d k r f D t tt 100000 b' z (lL rs f m)):=DA.out.below V (zAa _)
   have A9:Hid (lI Z A rs j b):=AA.out.kept (V.block A AA.out.lt)
   have kg:A<Z.heap.size:=A9.out.lt
   clear V DA AA B4
   dsimp only
   have xd:j<=20:=by omega
   go_upto_region 15 with(fail)
   go_loopg [19] m (λq i wr=>∃(p n:Nat),p+q=m/\n=f+p/\i=aC aD (n:Int)/\zb Z wr)
   case atStart=>exact⟨0,f,by omega,by omega,rfl,zGp _ _⟩
   case round=>
    obtain⟨p,n,hp,U,rfl,b1⟩:=hrel
    generalize wr=J at*
    have sf:Hid (n=f+p):=U
    have S:Hid (zb Z J):=b1
    have AR:Hid (lI J A rs j b):=A9.out.kept (b1.block A kg)
    clear b1
    by_cases vo:p<m
    .have hle:(n:Int)<=(j:Int):=by omega
     have he0:¬((n:Int)<0):=by omega
     have he1:(0:Int)<=(n:Int):=by omega
     have he2:(n:Int)<21:=by omega
     have he3:¬((20:Int)<(n:Int)):=by omega
     have T:(lL rs f m)[p]? =aA (jJ (eZ rs n)):=by rw[IP rs m f p vo,U]
     have sg:Hid (CG J (aN (aA ⟨d,0,aB⟩)) (n:Int) (bL (eZ rs n))):=λW a=>by have:=IV ((D9.out.below S.out (zAa _)).below a (zAa _)) T;rw[show(f:Int)+(p:Int)=(n:Int) by omega]at this;exact this
     have HRO:Hid (∀w1,zb J w1->ZY w1 (aN (aA ⟨d,0,aB⟩)) (n:Int) k (bL (eZ rs n))):=λw1 Wk W a=>by have:=UM (((D9.out.below S.out (zAa _)).below Wk (zAa _)).below a (zAa _)) T;rw[show(f:Int)+(p:Int)=(n:Int) by omega,pZ]at this;exact this
     have HPR:Hid (∀w1,zb J w1->PS w1 (aN (aA ⟨d,0,aB⟩)) (n:Int) k (bL (eZ rs n))):=λw1 Wk W a I hI=>by have:=OZ (((D9.out.below S.out (zAa _)).below Wk (zAa _)).below a (zAa _)) T I hI;rw[show(f:Int)+(p:Int)=(n:Int) by omega,pZ]at this;exact this
     have HTB:Hid (dO J):=(D9.out.below S.out (zAa _)).EC.mZ
     have Nx:=D9.out.EC.k1
     have br:=D9.out.EC.k2
     have ru:Hid (n<=j):=by show n<=j;omega
     clear T U
     go_wp2_with (refine wpList_load_mid rfl 43 _ rfl A (n*128) rfl 72 b (dJ (eZ rs n)) (0,0) _ AR.out.row (λp v hv=>AR.out.has n ru.out p v hv) ((Qz.cO 43).trans Tryz.underlying43) rfl (EI _) ?_)
     refine(Fe (eZ rs n) _ (n:Int) J sg.out).mono ?_
     rintro e sz ⟨rfl,Ze⟩
     have sv:Hid (zb J sz):=Ze
     clear Ze sg
     dsimp only
     go_upto_region 23 with(fail)
     go_loopg [21] 20 (λq i wr=>∃(u:Nat),u+q=20/\u<=M/\i=aC aD (u:Int)/\zb J wr)
     case atStart=>exact⟨0,by omega,by omega,rfl,sv.out⟩
     case round=>
      obtain⟨u,hu,hun,rfl,b1⟩:=hrel
      have Y:Hid (zb J wr):=b1
      clear b1 sv
      obtain⟨Nw,od⟩|⟨Nw,od⟩|Nw:=(show(u<M/\u<20)\/(u<M/\¬u<20)\/¬u<M by omega)
      .have Q:=zAf (l:=L) (i:=u) (by have:=ry.out;omega);generalize L[u]'(by have:=ry.out;omega)=nn at Q;obtain⟨g,o,rfl,hg,s,bk,wb⟩:=HL.out.EB u nn Q;have hr9:=S.out.size;have fy:=B9.out.size;have bu:wr.cell? ⟨g,o+u,aB⟩=aA (aC aD nn):=by
        rw[Y.out.cell (p:=⟨g,o+u,aB⟩) (by show g<_;omega),S.out.cell (p:=⟨g,o+u,aB⟩) (by show g<_;omega),B9.out.cell (p:=⟨g,o+u,aB⟩) hg];exact s
       have Qn:(u:Int)<(M:Int):=by omega
       have Nu:(u:Int)<20:=by omega
       have hu0:¬((u:Int)<0):=by omega
       have mq:(0:Int)<=(u:Int):=by omega
       have AX:Hid (lI wr A rs j b):=AR.out.kept (Y.out.block A AR.out.lt)
       clear Q s
       go_upto_region 25 with(fail)
       have y:(λB:zW=>B.heap[A]? =aA (aI b 72 (0,0))/\B.cell? ⟨g,o+u,aB⟩=aA (aC aD nn)) wr.drew:=⟨AX.out.row,bu⟩
       refine AnyX.sK (λB=>B.heap[A]? =aA (aI b 72 (0,0))/\B.cell? ⟨g,o+u,aB⟩=aA (aC aD nn)) (λi=>i==9) (by kernel_rfl) ?_
       refine AnyX.bC (i:=0) (v:=aC aD (n:Int)) rfl (by kernel_rfl) (λ_ _ _ h=>h) (aG ⟨by rfl,λW a=>by obtain⟨q1,C⟩:=a;go_simp⟩) y ?_
       simp only[Act.put]
       refine AnyX.bC (i:=1) (v:=aN (aA ⟨A,n*128,aB⟩)) rfl (by kernel_rfl) (λ_ _ _ h=>h) (aG ⟨by rfl,λW a=>by obtain⟨q1,C⟩:=a;go_simp⟩) y ?_
       simp only[Act.put]
       refine AnyX.bC (i:=2) (v:= .agg (dJ (eZ rs n))) rfl (by kernel_rfl) (λ_ _ _ h=>h) (aG ⟨by rfl,λW a=>by obtain⟨q1,C⟩:=a;exact vW 43 _ rfl A (n*128) rfl _ b _ _ _ q1 (λp v hv=>AX.out.has n ru.out p v hv) ((Qz.cO 43).trans Tryz.underlying43) rfl (EI _)⟩) y ?_
       simp only[Act.put]
       refine AnyX.bC (i:=3) (v:=aN (aA ⟨d,0,aB⟩)) rfl (by kernel_rfl) (λ_ _ _ h=>h) (aG ⟨by rfl,λW a=>by obtain⟨q1,C⟩:=a;go_simp⟩) y ?_
       simp only[Act.put]
       refine AnyX.bC (i:=4) (v:=aC aD (n:Int)) rfl (by kernel_rfl) (λ_ _ _ h=>h) (aG ⟨by rfl,λW a=>by obtain⟨q1,C⟩:=a;go_simp⟩) y ?_
       simp only[Act.put]
       refine AnyX.bC (i:=5) (v:=aJ (aA ⟨g,o,aB⟩) M ac) rfl (by kernel_rfl) (λ_ _ _ h=>h) (aG ⟨by rfl,λW a=>by obtain⟨q1,C⟩:=a;go_simp⟩) y ?_
       simp only[Act.put]
       refine AnyX.bC (i:=6) (v:=aC aD (u:Int)) rfl (by kernel_rfl) (λ_ _ _ h=>h) (aG ⟨by rfl,λW a=>by obtain⟨q1,C⟩:=a;go_simp⟩) y ?_
       simp only[Act.put]
       refine AnyX.bC (i:=7) (v:=aN (aA ⟨g,o+u,aB⟩)) rfl (by kernel_rfl) (λ_ _ _ h=>h) (aG ⟨by rfl,λW a=>by obtain⟨q1,C⟩:=a;go_simp⟩) y ?_
       simp only[Act.put]
       refine AnyX.bC (i:=8) (v:=aC aD nn) rfl (by kernel_rfl) (λ_ _ _ h=>h) (aG ⟨by rfl,λW a=>by obtain⟨q1,C⟩:=a;go_simp⟩) y ?_
       simp only[Act.put]
       refine AnyX.fE (i:=9) (by kernel_rfl) rfl (λK F=> ?_)
       go_simp
       refine(XI (eZ rs n) _ (n:Int) nn k wr.drew (HTB.out.below (eX Y.out) (zAa _)) Nx br (AH rs n) (HRO.out _ (eX Y.out)) (HPR.out _ (eX Y.out)) bk wb).mono ?_
       rintro e sy (⟨_,rfl,rfl,Zd⟩|⟨c,rfl,he⟩)
       rotate_left
       .exact⟨rfl,.told he⟩
       have B12:Hid (zb J sy):=aV Y.out (pM Zd) Y.out.size
       clear Zd
       dsimp only
       refine F.out _ _ (λh=>AnyX.mL h (by kernel_rfl)) ?_
       clear F K y bu AX
       refine AnyX.fE (i:=10) (by kernel_rfl) rfl (λK F=> ?_)
       go_simp
       refine F.out _ _ (λh=>AnyX.mL h (by kernel_rfl)) ?_
       clear F K
       refine AnyX.sL (by kernel_rfl) ?_ _
       go_wp2
       go_roundg (20-(u+1))
       case measure=>go_light;omega
       case rel=>go_light;exact⟨u+1,by omega,by omega,by go_num,B12.out⟩
      .have Qn:(u:Int)<(M:Int):=by omega
       have Nu:¬((u:Int)<20):=by omega
       have lq:Hid (zb Z wr):=aV S.out Y.out S.out.size
       go_wp2
       go_roundg (m-(p+1))
       case measure=>go_light;omega
       case rel=>go_light;exact⟨p+1,n+1,by omega,by have:=sf.out;omega,by go_num,lq.out⟩
      .have Qn:¬((u:Int)<(M:Int)):=by omega
       have lq:Hid (zb Z wr):=aV S.out Y.out S.out.size;go_wp2;go_roundg (m-(p+1));case measure=>go_light;omega
       case rel=>go_light;exact⟨p+1,n+1,by omega,by have:=sf.out;omega,by go_num,lq.out⟩
    .have hle:¬((n:Int)<=(j:Int)):=by omega
     have jc:(j:Int)-(f:Int)<1+(c:Int):=by have:=HC.out;omega
     have B14:Hid (zb w J):=aV B9.out S.out B9.out.size
     have hwx:IntKind.i64.wrap ((j:Int)-(f:Int))=(j:Int)-(f:Int):=by rw[zGw];omega
     clear U
     go_wp2_with fail
     refine(HP2.out J).mono ?_
     rintro e w15 ⟨rfl,rfl⟩
     dsimp only
     go_wp2
     go_ret
     exact .of ⟨by simp[jc],B14.out⟩
end Go.Proofs.Zq
