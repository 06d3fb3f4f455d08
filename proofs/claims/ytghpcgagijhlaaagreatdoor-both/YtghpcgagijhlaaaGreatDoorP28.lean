import Derived.WalkMore
import Derived.ScopeJumps
import Derived.Test.YtghpcgagijhlaaaGreatDoorP27
set_option linter.all false
set_option maxRecDepth 100000
set_option maxHeartbeats 16000000
open Option renaming some->aA,none->aB
open Bool renaming true->aE,false->aF
open Or renaming inl->aG,inr->aH
open Go.Ending renaming returned->aL
open Go.Obj renaming cells->aI
open Go.IntKind renaming i64->aD,u8->aP
open Go.Value renaming slice->aJ,string->aK,pointer->aN,int->aC
open Go.AllReady renaming cons->aDt,nil->aDu
namespace Go.Proofs.Zq
open Go.RowKit Sha
def dD:zA:= #[aC aD 0,aC aD 0,aJ aB 0 0,aK ⟨#[]⟩,aK ⟨#[]⟩,aK ⟨#[]⟩]
def NC (root idx s:zB)(w:zW)(e:Ending)(w':zW):Prop:=
 zb w w'/\
 ((bT root idx s≠0/\e=aL (.tuple #[.agg dD,aC aD (bT root idx s:Nat)]))\/
  ∃p v,bT root idx s=0/\parse root.length idx s=aA p/\p.root root.length idx=root/\e=aL (.tuple #[.agg (bE root.length p.kind v p.value p.other p.dM),aC aD 0])/\Own w' w.heap.size 9 v p.bM.length (p.bM.map λx=>aK ⟨x.toArray⟩))
def XJ {root idx s:zB}{w w':zW}{n:Nat}(h:bT root idx s=n)(a:n≠0)(b:zb w w'):NC root idx s w (aL (.tuple #[.agg dD,aC aD (n:Int)])) w':=
 ⟨b,aG ⟨by rw[h];exact a,by rw[h]⟩⟩
def OM {w:zW}{base:Nat}{e:zD}{v:zY}{n:Nat}{xs:zV}(h:Own w base e v n xs){k d:Nat}{a b c:zB}:(bE k d v a b c).all (·.oneCell')=aE:=by obtain⟨rfl,_⟩|⟨g,cap,_,_,rfl,_⟩:=h.2<;>simp[bE,Value.oneCell']
def Jr (a b:Nat)(f:a<256)(e:b<256):bits .or aD ((a:Int)*256) (b:Int)=256*(a:Int)+(b:Int):=by
 have d:((a:Int)*256%((2^64:Nat):Int)).toNat=a<<<8:=by rw[Nat.shiftLeft_eq];omega
 have c:((b:Int)%((2^64:Nat):Int)).toNat=b:=by omega
 have h:a<<<8|||b=a*256+b:=by rw[<-Nat.shiftLeft_add_eq_or_of_lt (by omega:b<2^8),Nat.shiftLeft_eq]
 unfold bits
 simp only[BitVec.toNat_or,BitVec.toNat_ofInt]
 rw[zGw,show IntKind.i64.bits=64 from rfl,d,c,h]
 omega
def Jump (root idx s:zB)(w:zW)(a:Act)(w':zW):Prop:=
 a.defers=[]/\a.tmps.size=146/\a.tmps[6]? =aA (aN (aA ⟨w.heap.size,0,aB⟩))/\a.tmps[10]? =aA (aC aD (bT root idx s:Nat))/\bT root idx s≠0/\zb w w'/\bB w' w.heap.size 112 dD
def El (root idx s:ByteArray)(w:zW)(hs:s.size<=140737488351232)(Nx:1<=root.size)(F:root.size<=32)(hi:idx.size=32)(hT:dO w):
  Calls zq 55 #[aK root,aK idx,aK s] w (NC root.data.toList idx.data.toList s.data.toList w):=by
 have HT:Hid (dO w):=hT
 clear hT
 have m:Hid (root.data.toList.length=root.size):=by show _=_;simp
 have Qr:Hid (idx.data.toList.length=idx.size):=by show _=_;simp
 have E:Hid (¬(root.data.toList.length<1\/32<root.data.toList.length\/idx.data.toList.length≠32)):=by
  show¬_
  rw[m.out,Qr.out];omega
 generalize hk:root.size=k at*
 have Hk:Hid (root.size=k):=hk
 go_enter Qz.func55,Tryz.ntmps55
 go_upto_region 1 with(fail)
 refine wp_scope_jumps 0 (Jump root.data.toList idx.data.toList s.data.toList w) (λ_ _=>0) rfl ?_ ?_
 case refine_2=>
  rintro⟨T,df⟩ W ⟨h0,h1,h2,h3,h4,h5,h6⟩
  obtain rfl:df=[]:=h0
  dsimp only at h1 h2 h3
  have hB:Hid (zb w W):=h5
  have hZ:Hid (bB W w.heap.size 112 dD):=h6
  have f:Hid (bT root.data.toList idx.data.toList s.data.toList≠0):=h4
  have g6:T[6]'(by omega)=aN (aA ⟨w.heap.size,0,aB⟩):=(zAb.1 h2).2
  have g10:T[10]'(by omega)=aC aD (bT root.data.toList idx.data.toList s.data.toList:Nat):=(zAb.1 h3).2
  clear h2 h3 h4 h5 h6
  generalize hn:bT root.data.toList idx.data.toList s.data.toList=n at*
  have Hn:Hid (bT root.data.toList idx.data.toList s.data.toList=n):=hn
  clear hn
  go_wp2_with (refine zGs rfl 112 _ _ rfl w.heap.size dD (by simp[Act.eval,h1,g6]) (by simp[Act.eval,h1,dD]) _ _ hZ.out (by kernel_rfl) rfl (by kernel_rfl) ?_)
  change bodyPost zq Tryz.f55 _ Exit.ret _ _
  exact zHb (fH Tryz.results55 _ _ w.heap.size _ _ _ _ (by simp[h1,g6]) (hZ.out.cH _) ((Qz.cO 112).trans Tryz.underlying112) rfl (by kernel_rfl) (aC aD (n:Int)) (by simp[h1])) rfl (XJ Hn.out f.out (bN hB.out (zAa _) _))
 go_upto_region 2 with(fail)
 have b1:Hid (zb w ((w.alloc (aI dD 112)).alloc (aI (bE k 0 (aJ aB 0 0) [] [] []) 112))):=((zGp _ _).alloc (zAa _) _).alloc (by simp) _
 have b2:Hid (bB ((w.alloc (aI dD 112)).alloc (aI (bE k 0 (aJ aB 0 0) [] [] []) 112)) w.heap.size 112 dD):=(bB.new _ _ _).alloc _
 have b3:Hid (bB ((w.alloc (aI dD 112)).alloc (aI (bE k 0 (aJ aB 0 0) [] [] []) 112)) (w.heap.size+1) 112 (bE k 0 (aJ aB 0 0) [] [] [])):=by have:=bB.new (w.alloc (aI dD 112)) 112 (bE k 0 (aJ aB 0 0) [] [] []);rw[size_alloc]at this;exact this
 have b4:Hid (w.heap.size+2<=((w.alloc (aI dD 112)).alloc (aI (bE k 0 (aJ aB 0 0) [] [] []) 112)).heap.size):=by show _<=_;rw[size_alloc,size_alloc];omega
 rw[show((w.alloc (aI #[aC aD 0,aC aD 0,aJ aB 0 0,aK ⟨#[]⟩,aK ⟨#[]⟩,aK ⟨#[]⟩] 112)).alloc (aI #[aC aD (k:Int),aC aD 0,aJ aB 0 0,aK ⟨#[]⟩,aK ⟨#[]⟩,aK ⟨#[]⟩] 112))=((w.alloc (aI dD 112)).alloc (aI (bE k 0 (aJ aB 0 0) [] [] []) 112))from rfl]
 generalize(w.alloc (aI dD 112)).alloc (aI (bE k 0 (aJ aB 0 0) [] [] []) 112)=w0 at*
 have e0:w0.cell? ⟨w.heap.size+1,0,aB⟩=aA (aC aD (k:Int)):=by rw[b3.out.cell];rfl
 go_wp2_with fail
 refine(ND k w0 Nx F (HT.out.below b1.out (zAa _))).mono ?_
 rintro e w1 ⟨rfl,P⟩
 have c1:=aV b1.out P b1.out.size
 have c2:Hid (bB w1 w.heap.size 112 dD):=b2.out.below P b2.out.lt
 have c3:Hid (bB w1 (w.heap.size+1) 112 (bE k 0 (aJ aB 0 0) [] [] [])):=b3.out.below P b3.out.lt
 have c4:Hid (w.heap.size+2<=w1.heap.size):=zBl b4.out P.size
 clear b1 b2 b3 b4 e0 P
 have hDl:(dg k [0]).length=k:=eC k _ F
 generalize hD:dg k [0]=D at*
 have HD:Hid (dg k [0]=D):=hD
 have u:Hid (s.data.toList.length=s.size):=by show _=_;simp
 clear hD
 by_cases h3:s.size<3
 .have f:Hid (bT root.data.toList idx.data.toList s.data.toList=2):=dV E.out (pC (aG (by rw[u.out];exact h3)));go_wp2;go_step3;show 0=0/\Jump root.data.toList idx.data.toList s.data.toList w _ _
  exact⟨rfl,rfl,rfl,rfl,by rw[f.out];rfl,by rw[f.out];decide,c1.out,c2.out⟩
 have ki:3<=s.size:=by omega
 have bd:∀W,(Instr.index 9 (aK s) (aC aD 0)).run zq W= .ok (aC aP ((kindOf s.data.toList:Nat):Int)) W:=ID s 0 (by omega)
 have Wj:∀W,(Instr.index 9 (aK s) (aC aD 1)).run zq W= .ok (aC aP ((s.data.toList.getD 1 0).toNat:Int)) W:=ID s 1 (by omega)
 have Wi:∀W,(Instr.index 9 (aK s) (aC aD 2)).run zq W= .ok (aC aP ((s.data.toList.getD 2 0).toNat:Int)) W:=ID s 2 (by omega)
 have i3:(3:Int)<=(s.size:Int):=by omega
 have hd:bits .or aD (((s.data.toList.getD 1 0).toNat:Int)*256) ((s.data.toList.getD 2 0).toNat:Int)=((dT s.data.toList:Nat):Int):=by rw[Jr _ _ (s.data.toList.getD 1 0).toNat_lt (s.data.toList.getD 2 0).toNat_lt];unfold dT;omega
 have hn:(((dT s.data.toList:Nat):Int)+7)/8=((dB s.data.toList:Nat):Int):=by unfold dB;omega
 have je:=Lv s.data.toList
 have nk:dB s.data.toList<8193:=by unfold dB;omega
 have hkl:kindOf s.data.toList<256:=(s.data.toList.getD 0 0).toNat_lt
 have P:((s.data.toList.getD 1 0).toNat:Int)<256:=by have:=(s.data.toList.getD 1 0).toNat_lt;omega
 have VT:((s.data.toList.getD 2 0).toNat:Int)<256:=by have:=(s.data.toList.getD 2 0).toNat_lt;omega
 have Za:0<=((s.data.toList.getD 1 0).toNat:Int):=zEe _
 have Yz:0<=((s.data.toList.getD 2 0).toNat:Int):=zEe _
 generalize((s.data.toList.getD 1 0).toNat:Int)=y1 at*
 generalize((s.data.toList.getD 2 0).toNat:Int)=y2 at*
 generalize hL:s.data.toList=L at*
 have HL:Hid (s.data.toList=L):=hL
 clear hL
 generalize hI:idx.data.toList=I at*
 have HI:Hid (idx.data.toList=I):=hI
 clear hI
 generalize hR:root.data.toList=l at*
 have HR:Hid (root.data.toList=l):=hR
 clear hR
 generalize im:kindOf L=p at*
 have z:Hid (kindOf L=p):=im
 generalize Yy:dT L=d at*
 have J:Hid (dT L=d):=Yy
 generalize bj:dB L=n at*
 have G:Hid (dB L=n):=bj
 clear im Yy bj
 have e1:w1.cell? ⟨w.heap.size+1,1,aB⟩=aA (aC aD 0):=by rw[c3.out.cell];rfl
 have f1:w1.frozen? ⟨w.heap.size+1,1,aB⟩=aF:=c3.out.frozen 1
 have e0:w1.cell? ⟨w.heap.size+1,0,aB⟩=aA (aC aD (k:Int)):=by rw[c3.out.cell];rfl
 go_wp2
 have v0:IntKind.i64.wrap (p:Int)=(p:Int):=by rw[zGw];omega
 have v1:IntKind.i64.wrap y1=y1:=by rw[zGw];omega
 have v2:IntKind.i64.wrap (y1*256)=y1*256:=by rw[zGw];omega
 have v3:IntKind.i64.wrap y2=y2:=by rw[zGw];omega
 refine wp_region_any (by kernel_rfl) ?_
 change wpAny _ _ _ _ _ _ _ (World.drew _)
 refine zHk (i:=0) (v:=aK s) rfl (by kernel_rfl) (by kernel_rfl) (by kernel_rfl) (λ_ _ _ h=>h) (aG ⟨by rfl,λW=>by go_simp⟩) ?_
 simp only[Act.put]
 refine zHk (i:=1) (v:=aC aP (p:Int)) rfl (by kernel_rfl) (by kernel_rfl) (by kernel_rfl) (λ_ _ _ h=>h) (aG ⟨by rfl,λW=>by go_simp⟩) ?_
 simp only[Act.put]
 refine zHk (i:=2) (v:=aC aD (p:Int)) rfl (by kernel_rfl) (by kernel_rfl) (by kernel_rfl) (λ_ _ _ h=>h) (aG ⟨by rfl,λW=>by go_simp⟩) ?_
 simp only[Act.put]
 refine zHk (i:=3) (v:=aK s) rfl (by kernel_rfl) (by kernel_rfl) (by kernel_rfl) (λ_ _ _ h=>h) (aG ⟨by rfl,λW=>by go_simp⟩) ?_
 simp only[Act.put]
 refine zHk (i:=4) (v:=aC aP y1) rfl (by kernel_rfl) (by kernel_rfl) (by kernel_rfl) (λ_ _ _ h=>h) (aG ⟨by rfl,λW=>by go_simp⟩) ?_
 simp only[Act.put]
 refine zHk (i:=5) (v:=aC aD y1) rfl (by kernel_rfl) (by kernel_rfl) (by kernel_rfl) (λ_ _ _ h=>h) (aG ⟨by rfl,λW=>by go_simp⟩) ?_
 simp only[Act.put]
 refine zHk (i:=6) (v:=aC aD (y1*256)) rfl (by kernel_rfl) (by kernel_rfl) (by kernel_rfl) (λ_ _ _ h=>h) (aG ⟨by rfl,λW=>by go_simp⟩) ?_
 simp only[Act.put]
 refine zHk (i:=7) (v:=aK s) rfl (by kernel_rfl) (by kernel_rfl) (by kernel_rfl) (λ_ _ _ h=>h) (aG ⟨by rfl,λW=>by go_simp⟩) ?_
 simp only[Act.put]
 refine zHk (i:=8) (v:=aC aP y2) rfl (by kernel_rfl) (by kernel_rfl) (by kernel_rfl) (λ_ _ _ h=>h) (aG ⟨by rfl,λW=>by go_simp⟩) ?_
 simp only[Act.put]
 refine zHk (i:=9) (v:=aC aD y2) rfl (by kernel_rfl) (by kernel_rfl) (by kernel_rfl) (λ_ _ _ h=>h) (aG ⟨by rfl,λW=>by go_simp⟩) ?_
 simp only[Act.put]
 refine zHk (i:=10) (v:=aC aD (d:Int)) rfl (by kernel_rfl) (by kernel_rfl) (by kernel_rfl) (λ_ _ _ h=>h) (aG ⟨by rfl,λW=>by go_simp⟩) ?_
 simp only[Act.put]
 refine zHk (i:=11) (v:=aK s) rfl (by kernel_rfl) (by kernel_rfl) (by kernel_rfl) (λ_ _ _ h=>h) (aG ⟨by rfl,λW=>by go_simp⟩) ?_
 simp only[Act.put]
 refine zHk (i:=12) (v:=aK (s.extract 3 s.size)) rfl (by kernel_rfl) (by kernel_rfl) (by kernel_rfl) (λ_ _ _ h=>h) (aG ⟨by rfl,λW=>by go_simp⟩) ?_
 simp only[Act.put]
 refine zHk (i:=13) (v:=aN (aA ⟨w.heap.size+1,1,aB⟩)) rfl (by kernel_rfl) (by kernel_rfl) (by kernel_rfl) (λ_ _ _ h=>h) (aG ⟨by rfl,λW=>by go_simp⟩) ?_
 simp only[Act.put]
 refine wpAny_ready (rs:=[14]) (by kernel_rfl) (by simp) ?_
 refine aDt rfl (λK hK=> ?_) aDu
 go_simp
 refine hK _ _ ?_
 clear hK K
 refine wpAny_ready (rs:=[15]) (by kernel_rfl) (by simp) ?_
 refine aDt rfl (λK hK=> ?_) aDu
 go_simp
 refine hK _ _ ?_
 clear hK K
 refine wpAny_ready (rs:=[16]) (by kernel_rfl) (by simp) ?_
 refine aDt rfl (λK hK=> ?_) aDu
 go_simp
 refine hK _ _ ?_
 clear hK K
 refine wpAny_done (by kernel_rfl) ?_ _
 have d1:Hid (zb w (w1.setCell ⟨w.heap.size+1,1,aB⟩ (aC aD (p:Int))).drew):=(c1.out.setCell (by simp) _).drew
 have d2:Hid (bB (w1.setCell ⟨w.heap.size+1,1,aB⟩ (aC aD (p:Int))).drew w.heap.size 112 dD):=c2.out.bP _ _ (by simp)
 have d3:Hid (bB (w1.setCell ⟨w.heap.size+1,1,aB⟩ (aC aD (p:Int))).drew (w.heap.size+1) 112 (bE k p (aJ aB 0 0) [] [] [])):=c3.out.cG 1 _
 have d4:Hid (w.heap.size+2<=(w1.setCell ⟨w.heap.size+1,1,aB⟩ (aC aD (p:Int))).drew.heap.size):=by show _<=(w1.setCell _ _).heap.size;rw[size_setCell];exact c4.out
 clear c1 c2 c3 c4 e1 f1 e0 v0 v1 v2 v3 bd Wj Wi hd P VT Za Yz
 generalize(w1.setCell ⟨w.heap.size+1,1,aB⟩ (aC aD (p:Int))).drew=w2 at*
 have ft:Hid (s.extract 3 s.size=⟨(L.drop 3).toArray⟩):=by
  show _=_
  rw[<-HL.out]
  apply zDw
  apply zCx.1
  simp
  rw[zBg (by simp)]
 rw[ft.out]
 have px:((⟨(L.drop 3).toArray⟩:ByteArray)).size=s.size-3:=by show(L.drop 3).length=_;rw[zBa,u.out]
 generalize py:(⟨(L.drop 3).toArray⟩:ByteArray)=t0 at*
 have rk:Hid (t0=⟨(L.drop 3).toArray⟩):=py.symm
 clear py ft
 have la:Hid (t0.size=s.size-3):=px
 clear px
 have e1:w2.cell? ⟨w.heap.size+1,1,aB⟩=aA (aC aD (p:Int)):=by rw[d3.out.cell];rfl
 by_cases ir:2<p
 .have f:Hid (bT l I L=2):=dV E.out (pC (aH (aG (by rw[z.out];exact ir))));go_wp2;go_step3;show 0=0/\Jump l I L w _ _
  exact⟨rfl,rfl,rfl,rfl,by rw[f.out];rfl,by rw[f.out];decide,d1.out,d2.out⟩
 by_cases kk:256<d
 .have f:Hid (bT l I L=2):=dV E.out (pC (aH (aH (aG (by rw[J.out];exact kk)))));go_wp2;go_step3;show 0=0/\Jump l I L w _ _
  exact⟨rfl,rfl,rfl,rfl,by rw[f.out];rfl,by rw[f.out];decide,d1.out,d2.out⟩
 have nm:Hid ((d+7)/8=n):=by show _=_;omega
 go_wp2_with fail
 refine(tX d w2 (by omega)).mono ?_
 rw[nm.out]
 rintro e w3 ⟨rfl,ml⟩
 obtain rfl:w2=w3:=ml.symm
 clear ml
 by_cases hsn:t0.size<n
 .have f:Hid (bT l I L=2):=dV E.out (pC (aH (aH (aH (by rw[G.out,u.out];have:=la.out;omega)))));go_wp2;go_step3;show 0=0/\Jump l I L w _ _
  exact⟨rfl,rfl,rfl,rfl,by rw[f.out];rfl,by rw[f.out];decide,d1.out,d2.out⟩
 have Un:Hid (3+n<=s.size):=by show _<=_;have:=la.out;omega
 have HB:Hid (∀W:zW,Calls zq 80 #[aC aD d] W λe U=>e=aL (aC aD (n:Int))/\U=W):=λW=>by have:=tX d W (by omega);rw[nm.out]at this;exact this
 have i1:(0:Int)<=(n:Int):=zEe _
 have i2:(n:Int)<=(t0.size:Int):=by omega
 go_wp2
 go_quiet ((exact Calls.quiet_of_same (HB.out _)))
 have g1:Hid (zb w (w2.drewN nq)):=below_drewN d1.out nq
 have g2:Hid (bB (w2.drewN nq) w.heap.size 112 dD):=d2.out.drewN nq
 have g3:Hid (bB (w2.drewN nq) (w.heap.size+1) 112 (bE k p (aJ aB 0 0) [] [] [])):=d3.out.drewN nq
 have g4:Hid (w.heap.size+2<=(w2.drewN nq).heap.size):=d4.out
 clear d1 d2 d3 d4 e1 HB
 generalize w2.drewN nq=w3 at*
 have Bf:Hid (t0.extract 0 n=⟨(marksOf L).toArray⟩):=by
  show _=_
  rw[rk.out,marksOf,G.out]
  apply zDw
  apply zCx.1
  simp
 have mr:Hid (t0.extract n t0.size=⟨(L.drop (3+n)).toArray⟩):=by
  show _=_
  have h1:=la.out
  rw[rk.out]
  apply zDw
  apply zCx.1
  simp[ByteArray.size]
  rw[zBg (by simp;omega)]
 rw[Bf.out,mr.out]
 have bn:((⟨(marksOf L).toArray⟩:ByteArray)).size=n:=by show(marksOf L).length=n;rw[marksOf,G.out,zAn,zBa,u.out];have:=Un.out;omega
 generalize hM:(⟨(marksOf L).toArray⟩:ByteArray)=M at*
 have HM:Hid (M.data.toList=marksOf L):=by show _=_;rw[<-hM]
 clear hM Bf mr
 go_wp2_with fail
 refine(XZ M d w3 (by omega)).mono ?_
 rw[HM.out]
 rintro e w4 ⟨Yj,b,rfl,bz,pe⟩
 obtain rfl:w3=w4:=Yj.symm
 clear Yj
 have qv:Hid (b=aE->∃i,d<=i/\i<8*M.size/\bQ (marksOf L) i=1):=bz
 have qw:Hid (b=aF->∀i,d<=i->i<8*M.size->bQ (marksOf L) i=0):=pe
 clear bz pe
 cases b with
 |true=>
  have f:Hid (bT l I L=2):=by obtain⟨i,q1,q2,q3⟩:=qv.out rfl;exact dV E.out (SN i (by rw[J.out];exact q1) (by rw[G.out,<-bn];exact q2) q3)
  go_wp2
  go_step3
  show 0=0/\Jump l I L w _ _
  exact⟨rfl,rfl,rfl,rfl,by rw[f.out];rfl,by rw[f.out];decide,g1.out,g2.out⟩
 |false=>
 have HC:Hid (PI L (8*n)):=λi q1 q2=>qw.out rfl i (by rw[J.out]at q1;exact q1) (by rw[bn];exact q2)
 clear qv qw
 go_wp2
 go_loopg [2,64] d (λq x i wr=>∃(j at_:Nat)(S:zLL)(v:zY),j+q=d/\i=aC aD (j:Int)/\x=aK ⟨(L.drop at_).toArray⟩/\eE k L j=aA (S,at_)/\zb w wr/\bB wr w.heap.size 112 dD/\bB wr (w.heap.size+1) 112 (bE k p v [] [] [])/\Own wr (w.heap.size+2) 9 v j (S.map λx=>aK ⟨x.toArray⟩)/\w.heap.size+2<=wr.heap.size)
 case atStart=>exact⟨0,3+n,[],aJ aB 0 0,by omega,rfl,rfl,by rw[eE,G.out],g1.out,g2.out,g3.out,Own.nil _ _ _,g4.out⟩
 case round=>
  obtain⟨j,at_,S,v,hj,rfl,rfl,c0,c1,c2,c3,c4,c5⟩:=hrel
  have C0:Hid (eE k L j=aA (S,at_)):=c0
  have Q:Hid (zb w wr):=c1
  have X:Hid (bB wr w.heap.size 112 dD):=c2
  have C:Hid (bB wr (w.heap.size+1) 112 (bE k p v [] [] [])):=c3
  have C4:Hid (Own wr (w.heap.size+2) 9 v j (S.map λx=>aK ⟨x.toArray⟩)):=c4
  have C5:Hid (w.heap.size+2<=wr.heap.size):=c5
  clear c0 c1 c2 c3 c4 c5 g1 g2 g3 g4
  obtain⟨q1,q2,q3⟩:=Ap (by rw[G.out,u.out];exact Un.out) C0.out
  rw[u.out]at q2
  have pt:Hid (((⟨(L.drop at_).toArray⟩:ByteArray)).size=s.size-at_):=by show(L.drop at_).length=_;rw[zBa,u.out]
  generalize pv:(⟨(L.drop at_).toArray⟩:ByteArray)=T at*
  have O:Hid (T=⟨(L.drop at_).toArray⟩):=pv.symm
  clear pv
  by_cases bU:j<d
  .go_wp2_with fail;refine(oG M j wr (by rw[bn];omega) (by rw[bn];omega) (by omega)).mono ?_;rw[HM.out];rintro e w5 ⟨rfl,mj⟩;obtain rfl:wr=w5:=mj.symm;clear mj;have jl:=mF (marksOf L) j;generalize bx:bQ (marksOf L) j=b at*;have cy:Hid (bQ (marksOf L) j=b):=bx;clear bx;obtain rfl|rfl:=jl
   .have yo:decide ((0:Nat)=1)=aF:=by decide
    have e0:wr.cell? ⟨w.heap.size+1,2,aB⟩=aA v:=by rw[C.out.cell];rfl
    have Up:aA (w.heap.size+1)≠v.ownBlock:=uN C4.out _ (by omega)
    have Qq:j+1<=1000000:=by omega
    go_wp2_with (at_builtin;refine uA rfl _ _ rfl (w.heap.size+2) _ _ _ rfl C4.out [_] 1 rfl (by simp) (by simp[Value.oneCell']) Qq C5.out ?_;intro v' U r B;obtain⟨g',Mk,rfl⟩:=r.form (by simp);have p3:Hid (bB U (w.heap.size+1) 112 (bE k p v [] [] [])):=C.out.grown B Up;have e1:U.cell? ⟨w.heap.size+1,2,aB⟩=aA v:=(p3.out.cell 2).trans rfl;have e2:U.frozen? ⟨w.heap.size+1,2,aB⟩=aF:=p3.out.frozen 2)
    go_roundg (d-(j+1))
    case measure=>omega
    case rel=>
     go_light
     refine⟨j+1,at_,S++[dg k [0]],_,by omega,by go_num,by rw[O.out],GC C0.out cy.out,(pI Q.out C4.out B (by omega) Q.out.size).setCell (by simp) _,(X.out.grown B (uN C4.out _ (by omega))).bP _ _ (by simp),p3.out.cG 2 _,?_,by rw[size_setCell];exact zBl C5.out B.size⟩
     have Y:=r.kept (w':=U.setCell ⟨w.heap.size+1,2,aB⟩ (aJ (aA ⟨g',0,aB⟩) (j+1) Mk)) λg hg=>zHa _ _ _ _ (by have:=(r.lt g hg).1;simp only;omega)
     rw[zFa]
     rw[HD.out]
     exact Y
   .have yo:decide ((1:Nat)=1)=aE:=by decide
    have ek:wr.cell? ⟨w.heap.size+1,0,aB⟩=aA (aC aD (k:Int)):=by rw[C.out.cell];rfl
    by_cases ya:T.size<k
    .have f:Hid (bT l I L=2):=dV E.out (by
      rw[m.out];have:=LJ (LK C0.out cy.out (by rw[u.out];have:=pt.out;omega)) (d-(j+1));rw[show j+1+(d-(j+1))=d from by omega]at this;exact GS (by rw[J.out];exact this))
     go_wp2;go_step3;show 0=0/\Jump l I L w _ _
     exact⟨rfl,rfl,rfl,rfl,by rw[f.out];rfl,by rw[f.out];decide,Q.out,X.out⟩
    .have Wh:Hid (T.extract 0 k=⟨((L.drop at_).take k).toArray⟩):=by
      show _=_
      rw[O.out]
      apply zDw
      apply zCx.1
      simp
     have tv:Hid (T.extract k T.size=⟨(L.drop (at_+k)).toArray⟩):=by
      show _=_
      rw[O.out]
      apply zDw
      apply zCx.1
      simp[ByteArray.size]
      rw[zBg (by simp;omega)]
     have i1:(0:Int)<=(k:Int):=zEe _
     have i2:(k:Int)<=(T.size:Int):=by omega
     by_cases c:T.extract 0 k=⟨D.toArray⟩
     .have f:Hid (bT l I L=2):=dV E.out (by
       rw[m.out];have hl:(L.drop at_).take k=dg k [0]:=by have:=congrArg (λb=>b.data.toList) (Wh.out.symm.trans c);rw[HD.out];simpa using this
       have:=LJ (LK C0.out cy.out (by rw[hl];simp)) (d-(j+1))
       rw[show j+1+(d-(j+1))=d from by omega]at this
       exact GS (by rw[J.out];exact this))
      have uz:((T.extract 0 k).toList==D)=aE:=by rw[c,ByteArray.toList_mk];simp
      clear c
      go_wp2
      go_step3
      show 0=0/\Jump l I L w _ _
      exact⟨rfl,rfl,rfl,rfl,by rw[f.out];rfl,by rw[f.out];decide,Q.out,X.out⟩
     .have hl:Hid ((L.drop at_).take k≠dg k [0]):=λh=>c (by rw[Wh.out,h,HD.out]);have uz:((T.extract 0 k).toList==D)=aF:=Ez c;clear c;go_wp2;go_quiet (fail);have E1:Hid (zb w (wr.drewN nq)):=below_drewN Q.out nq;have E2:Hid (bB (wr.drewN nq) w.heap.size 112 dD):=X.out.drewN nq;have E3:Hid (bB (wr.drewN nq) (w.heap.size+1) 112 (bE k p v [] [] [])):=C.out.drewN nq;have E4:Hid (Own (wr.drewN nq) (w.heap.size+2) 9 v j (S.map λx=>aK ⟨x.toArray⟩)):=C4.out.kept λ_ _=>rfl;have E5:Hid (w.heap.size+2<=(wr.drewN nq).heap.size):=C5.out;clear Q X C C4 C5 ek;generalize wr.drewN nq=w6 at*;have e0:w6.cell? ⟨w.heap.size+1,2,aB⟩=aA v:=by rw[E3.out.cell];rfl
      have Up:aA (w.heap.size+1)≠v.ownBlock:=uN E4.out _ (by omega);have Qq:j+1<=1000000:=by omega
      go_wp2_with (at_builtin;refine uA rfl _ _ rfl (w.heap.size+2) _ _ _ rfl E4.out [_] 1 rfl (by simp) (by simp[Value.oneCell']) Qq E5.out ?_;intro v' U r B;obtain⟨g',Mk,rfl⟩:=r.form (by simp);have p3:Hid (bB U (w.heap.size+1) 112 (bE k p v [] [] [])):=E3.out.grown B Up;have e1:U.cell? ⟨w.heap.size+1,2,aB⟩=aA v:=(p3.out.cell 2).trans rfl;have e2:U.frozen? ⟨w.heap.size+1,2,aB⟩=aF:=p3.out.frozen 2)
      go_roundg (d-(j+1))
      case measure=>omega
      case rel=>
       go_light
       refine⟨j+1,at_+k,S++[(L.drop at_).take k],_,by omega,by go_num,by rw[tv.out],GB C0.out cy.out (by rw[u.out];have:=pt.out;omega) hl.out,(pI E1.out E4.out B (by omega) E1.out.size).setCell (by simp) _,(E2.out.grown B (uN E4.out _ (by omega))).bP _ _ (by simp),p3.out.cG 2 _,?_,by rw[size_setCell];exact zBl E5.out B.size⟩
       have Y:=r.kept (w':=U.setCell ⟨w.heap.size+1,2,aB⟩ (aJ (aA ⟨g',0,aB⟩) (j+1) Mk)) λg hg=>zHa _ _ _ _ (by have:=(r.lt g hg).1;simp only;omega)
       rw[zFa]
       simp only[Wh.out]at Y
       exact Y
  .obtain rfl:j=d:=by omega
   have hP:Hid (parse k I L=oN k I L S (L.drop at_)):=tA (by rw[u.out];exact ki) (by rw[z.out];omega) (by rw[J.out];omega) (by rw[G.out,u.out];exact Un.out) (by rw[G.out];exact HC.out) (by rw[J.out];exact C0.out);have V:Hid ((L.drop at_).length=T.size):=by show _=_;rw[O.out];rfl
   have jw:Hid (T.toList=L.drop at_):=by show _=_;rw[O.out,ByteArray.toList_mk]
   generalize hR:L.drop at_=R at*
   clear hR C0
   have e1:wr.cell? ⟨w.heap.size+1,1,aB⟩=aA (aC aD (p:Int)):=by rw[C.out.cell];rfl
   have ek:wr.cell? ⟨w.heap.size+1,0,aB⟩=aA (aC aD (k:Int)):=by rw[C.out.cell];rfl
   obtain Wn|iu|Yw:p=0\/p=1\/p=2:=by omega
   .subst Wn;by_cases A:R=[]
    .have HP:Hid (parse k I L=aA ⟨0,S,[],[],[]⟩):=by show _=_;rw[hP.out,oN,z.out,zAk rfl,zAk A]
     have gk:T.toList.isEmpty=aE:=by rw[jw.out,A];rfl
     clear A
     have aj:Hid (PW.Ok k ⟨0,S,[],[],[]⟩):=tB F HP.out
     have N:Hid (dO wr):=HT.out.below Q.out (zAa _)
     have t:Hid (Own wr (w.heap.size+2) 9 v S.length (S.map λx=>aK ⟨x.toArray⟩)):=by rw[q1];exact C4.out
     go_wp2_with (first
      |refine zGq rfl 112 _ rfl (w.heap.size+1) rfl _ _ _ _ C.out ((Qz.cO 112).trans Tryz.underlying112) rfl (by kernel_rfl) ?_)
     refine(BF k idx ⟨0,S,[],[],[]⟩ v (w.heap.size+2) wr Nx F hi aj.out N.out t.out).mono ?_
     rw[HI.out]
     rintro e Z ⟨rfl,o⟩
     have F1:=aV Q.out o Q.out.size
     have F2:Hid (bB Z w.heap.size 112 dD):=X.out.below o X.out.lt
     have F3:Hid (bB Z (w.heap.size+1) 112 (bE k 0 v [] [] [])):=C.out.below o C.out.lt
     have F4:Hid (Own Z (w.heap.size+2) 9 v S.length (S.map λx=>aK ⟨x.toArray⟩)):=t.out.below o (zAa _)
     clear o t N
     have y:Hid (parse l.length I L=aA ⟨0,S,[],[],[]⟩):=by show _=_;rw[m.out];exact HP.out
     have H:Hid (PW.root l.length I ⟨0,S,[],[],[]⟩=PW.root k I ⟨0,S,[],[],[]⟩):=by show _=_;rw[m.out]
     by_cases a:PW.root k I ⟨0,S,[],[],[]⟩=l
     .have f:Hid (bT l I L=0):=rF E.out y.out (H.out.trans a);have Y:(PW.root k I ⟨0,S,[],[],[]⟩==root.toList)=aE:=by rw[zCk,zGz,HR.out];exact a
      have ah:Hid (PW.root k I ⟨0,S,[],[],[]⟩=l):=a;clear a;go_wp2_with (first
       |refine zGq rfl 112 _ rfl (w.heap.size+1) rfl _ _ _ _ F3.out ((Qz.cO 112).trans Tryz.underlying112) rfl (by kernel_rfl) ?_
       |refine zGs rfl 112 _ _ rfl w.heap.size (bE _ _ _ _ _ _) rfl rfl _ _ F2.out (by kernel_rfl) rfl (OM F4.out) ?_)
      change bodyPost zq Tryz.f55 _ Exit.ret _ _
      refine zHb (fH Tryz.results55 _ _ w.heap.size _ _ _ _ rfl (F2.out.cH _) ((Qz.cO 112).trans Tryz.underlying112) rfl (by kernel_rfl) _ rfl) rfl ?_
      exact⟨bN F1.out (zAa _) _,aH ⟨⟨0,S,[],[],[]⟩,v,f.out,y.out,H.out.trans ah.out,by rw[m.out];rfl,(F4.out.setRow _ _ (by omega)).lower (by omega)⟩⟩
     .have f:Hid (bT l I L=3):=rE E.out y.out (λh=>a (H.out.symm.trans h));have Y:(PW.root k I ⟨0,S,[],[],[]⟩==root.toList)=aF:=by rw[zCf,zGz,HR.out];exact a
      clear a;go_wp2;go_step3;show 0=0/\Jump l I L w _ _
      exact⟨rfl,rfl,rfl,rfl,by rw[f.out];rfl,by rw[f.out];decide,F1.out,F2.out⟩
    .have f:Hid (bT l I L=2):=dV E.out (by rw[m.out,hP.out,oN,z.out,zAk rfl,zAh A]);have gk:T.toList.isEmpty=aF:=by rw[jw.out];cases zi:R with|nil=>exact absurd zi A|cons _ _=>rfl
     clear A;go_wp2;go_step3;show 0=0/\Jump l I L w _ _
     exact⟨rfl,rfl,rfl,rfl,by rw[f.out];rfl,by rw[f.out];decide,Q.out,X.out⟩
   .subst iu;by_cases aAp:100<T.size
    .have f:Hid (bT l I L=2):=dV E.out (by rw[m.out,hP.out,oN,z.out,zAh (by decide),zAk rfl,zAh (by rw[V.out];omega)]);go_wp2;go_step3;show 0=0/\Jump l I L w _ _
     exact⟨rfl,rfl,rfl,rfl,by rw[f.out];rfl,by rw[f.out];decide,Q.out,X.out⟩
    .have HP:Hid (parse k I L=aA ⟨1,S,R,[],[]⟩):=by show _=_;rw[hP.out,oN,z.out,zAh (by decide),zAk rfl,zAk (by rw[V.out];omega)]
     have e2:wr.cell? ⟨w.heap.size+1,3,aB⟩=aA (aK ⟨#[]⟩):=by rw[C.out.cell];rfl
     have f2:wr.frozen? ⟨w.heap.size+1,3,aB⟩=aF:=C.out.frozen 3
     have D3:Hid (bB (wr.setCell ⟨w.heap.size+1,3,aB⟩ (aK T)) (w.heap.size+1) 112 (bE k 1 v R [] [])):=by have:=C.out.cG 3 (aK T);rw[O.out]at this⊢;exact this
     have D2:Hid (bB (wr.setCell ⟨w.heap.size+1,3,aB⟩ (aK T)) w.heap.size 112 dD):=X.out.bP _ _ (by simp)
     have D4:Hid (Own (wr.setCell ⟨w.heap.size+1,3,aB⟩ (aK T)) (w.heap.size+2) 9 v j (S.map λx=>aK ⟨x.toArray⟩)):=C4.out.kept λg hg=>zHa _ _ _ _ (by have:=(C4.out.lt g hg).1;simp only;omega)
     have D1:Hid (zb w (wr.setCell ⟨w.heap.size+1,3,aB⟩ (aK T))):=Q.out.setCell (by simp) _
     have aj:Hid (PW.Ok k ⟨1,S,R,[],[]⟩):=tB F HP.out
     have N:Hid (dO (wr.setCell ⟨w.heap.size+1,3,aB⟩ (aK T))):=HT.out.below D1.out (zAa _)
     have t:Hid (Own (wr.setCell ⟨w.heap.size+1,3,aB⟩ (aK T)) (w.heap.size+2) 9 v S.length (S.map λx=>aK ⟨x.toArray⟩)):=by rw[q1];exact D4.out
     go_wp2_with (first
      |refine zGq rfl 112 _ rfl (w.heap.size+1) rfl _ _ _ _ D3.out ((Qz.cO 112).trans Tryz.underlying112) rfl (by kernel_rfl) ?_)
     refine(BF k idx ⟨1,S,R,[],[]⟩ v (w.heap.size+2) (wr.setCell ⟨w.heap.size+1,3,aB⟩ (aK T)) Nx F hi aj.out N.out t.out).mono ?_
     rw[HI.out]
     rintro e Z ⟨rfl,o⟩
     have F1:=aV D1.out o D1.out.size
     have F2:Hid (bB Z w.heap.size 112 dD):=D2.out.below o D2.out.lt
     have F3:Hid (bB Z (w.heap.size+1) 112 (bE k 1 v R [] [])):=D3.out.below o D3.out.lt
     have F4:Hid (Own Z (w.heap.size+2) 9 v S.length (S.map λx=>aK ⟨x.toArray⟩)):=t.out.below o (zAa _)
     clear o t N
     have y:Hid (parse l.length I L=aA ⟨1,S,R,[],[]⟩):=by show _=_;rw[m.out];exact HP.out
     have H:Hid (PW.root l.length I ⟨1,S,R,[],[]⟩=PW.root k I ⟨1,S,R,[],[]⟩):=by show _=_;rw[m.out]
     by_cases a:PW.root k I ⟨1,S,R,[],[]⟩=l
     .have f:Hid (bT l I L=0):=rF E.out y.out (H.out.trans a);have Y:(PW.root k I ⟨1,S,R,[],[]⟩==root.toList)=aE:=by rw[zCk,zGz,HR.out];exact a
      have ah:Hid (PW.root k I ⟨1,S,R,[],[]⟩=l):=a;clear a;go_wp2_with (first
       |refine zGq rfl 112 _ rfl (w.heap.size+1) rfl _ _ _ _ F3.out ((Qz.cO 112).trans Tryz.underlying112) rfl (by kernel_rfl) ?_
       |refine zGs rfl 112 _ _ rfl w.heap.size (bE _ _ _ _ _ _) rfl rfl _ _ F2.out (by kernel_rfl) rfl (OM F4.out) ?_)
      change bodyPost zq Tryz.f55 _ Exit.ret _ _
      refine zHb (fH Tryz.results55 _ _ w.heap.size _ _ _ _ rfl (F2.out.cH _) ((Qz.cO 112).trans Tryz.underlying112) rfl (by kernel_rfl) _ rfl) rfl ?_
      exact⟨bN F1.out (zAa _) _,aH ⟨⟨1,S,R,[],[]⟩,v,f.out,y.out,H.out.trans ah.out,by rw[m.out];rfl,(F4.out.setRow _ _ (by omega)).lower (by omega)⟩⟩
     .have f:Hid (bT l I L=3):=rE E.out y.out (λh=>a (H.out.symm.trans h));have Y:(PW.root k I ⟨1,S,R,[],[]⟩==root.toList)=aF:=by rw[zCf,zGz,HR.out];exact a
      clear a;go_wp2;go_step3;show 0=0/\Jump l I L w _ _
      exact⟨rfl,rfl,rfl,rfl,by rw[f.out];rfl,by rw[f.out];decide,F1.out,F2.out⟩
   .subst Yw;by_cases hlen:T.size=32+k
    .have hO:Hid (T.extract 0 32=⟨(R.take 32).toArray⟩):=by
      show _=_
      rw[O.out]
      apply zDw
      apply zCx.1
      simp
     have Zi:Hid (T.extract 32 (32+k)=⟨(R.drop 32).toArray⟩):=by
      show _=_
      have:=V.out
      rw[O.out]
      apply zDw
      apply zCx.1
      simp
      rw[zBg (by simp;omega)]
     have qk:(T.extract 0 32).size=32:=by rw[hO.out];show(R.take 32).length=32;rw[zAn,V.out];omega
     have e3:wr.cell? ⟨w.heap.size+1,4,aB⟩=aA (aK ⟨#[]⟩):=by rw[C.out.cell];rfl
     have f3:wr.frozen? ⟨w.heap.size+1,4,aB⟩=aF:=C.out.frozen 4
     have e4:wr.cell? ⟨w.heap.size+1,5,aB⟩=aA (aK ⟨#[]⟩):=by rw[C.out.cell];rfl
     have f4:wr.frozen? ⟨w.heap.size+1,5,aB⟩=aF:=C.out.frozen 5
     have db:Hid (bB (wr.setCell ⟨w.heap.size+1,4,aB⟩ (aK (T.extract 0 32))) (w.heap.size+1) 112 (bE k 2 v [] (R.take 32) [])):=by have:=C.out.cG 4 (aK (T.extract 0 32));rw[hO.out]at this⊢;exact this
     have e5:(wr.setCell ⟨w.heap.size+1,4,aB⟩ (aK (T.extract 0 32))).cell? ⟨w.heap.size+1,5,aB⟩=aA (aK ⟨#[]⟩):=by rw[db.out.cell];rfl
     have f5:(wr.setCell ⟨w.heap.size+1,4,aB⟩ (aK (T.extract 0 32))).frozen? ⟨w.heap.size+1,5,aB⟩=aF:=db.out.frozen 5
     have i1:(32:Int)<=(T.size:Int):=by omega
     have i2:(32:Int)<=32+(k:Int):=by omega
     go_wp2
     go_region_law ((fail))
     have D4:Hid (Own ((wr.setCell ⟨w.heap.size+1,4,aB⟩ (aK (T.extract 0 32))).setCell ⟨w.heap.size+1,5,aB⟩ (aK (T.extract 32 (32+k)))).drew (w.heap.size+2) 9 v j (S.map λx=>aK ⟨x.toArray⟩)):=
      (C4.out.kept λg hg=>zHa _ _ _ _ (by have:=(C4.out.lt g hg).1;simp only;omega)).kept λg hg=>zHa _ _ _ _ (by have:=(C4.out.lt g hg).1;simp only;omega)
     have D3:Hid (bB ((wr.setCell ⟨w.heap.size+1,4,aB⟩ (aK (T.extract 0 32))).setCell ⟨w.heap.size+1,5,aB⟩ (aK (T.extract 32 (32+k)))).drew (w.heap.size+1) 112 (bE k 2 v [] (R.take 32) (R.drop 32))):=by have:=db.out.cG 5 (aK (T.extract 32 (32+k)));rw[Zi.out]at this⊢;exact this
     have D2:Hid (bB ((wr.setCell ⟨w.heap.size+1,4,aB⟩ (aK (T.extract 0 32))).setCell ⟨w.heap.size+1,5,aB⟩ (aK (T.extract 32 (32+k)))).drew w.heap.size 112 dD):=(X.out.bP _ _ (by simp)).bP _ _ (by simp)
     have D1:Hid (zb w ((wr.setCell ⟨w.heap.size+1,4,aB⟩ (aK (T.extract 0 32))).setCell ⟨w.heap.size+1,5,aB⟩ (aK (T.extract 32 (32+k)))).drew):=((Q.out.setCell (by simp) _).setCell (by simp) _).drew
     clear Q X C C4 C5 e3 f3 e4 f4 e5 f5 e1 ek db Zi
     generalize((wr.setCell ⟨w.heap.size+1,4,aB⟩ (aK (T.extract 0 32))).setCell ⟨w.heap.size+1,5,aB⟩ (aK (T.extract 32 (32+k)))).drew=w7 at*
     obtain⟨ob,Yr⟩:∃ob:ByteArray,Hid (ob=⟨(R.take 32).toArray⟩):=⟨_,rfl⟩
     have e6:w7.cell? ⟨w.heap.size+1,4,aB⟩=aA (aK ob):=by rw[D3.out.cell,Yr.out];rfl
     have gr:ob.size=32:=by rw[Yr.out,<-hO.out];exact qk
     have kz:Hid (R.length=32+k):=V.out.trans hlen
     clear qk hO
     by_cases c:R.take 32=I
     .have f:Hid (bT l I L=2):=dV E.out (by rw[m.out,hP.out,oN,z.out,zAh (by decide),zAh (by decide),zAh (λh=>h.2.1 c)]);have Y:(ob.toList==idx.toList)=aE:=by rw[zCk,zGz,zGz,HI.out,Yr.out];exact c
      clear c;go_wp2;go_step3;show 0=0/\Jump l I L w _ _
      exact⟨rfl,rfl,rfl,rfl,by rw[f.out];rfl,by rw[f.out];decide,D1.out,D2.out⟩
     .have Y:(ob.toList==idx.toList)=aF:=by rw[zCf,zGz,zGz,HI.out,Yr.out];exact c
      have Hne:Hid (R.take 32≠I):=c;clear c;go_wp2_with fail;refine(KG ob idx j w7 gr hi (by omega)).mono ?_;rw[HI.out];rintro e w9 ⟨fy,b,rfl,hb⟩;obtain rfl:w7=w9:=fy.symm;clear fy;have Hb:Hid (b=aE↔sameBits I (R.take 32) (dT L)):=by
       show _↔_
       rw[hb,J.out,Yr.out]
       exact⟨λh i hi=>(h i hi).symm,λh i hi=>(h i hi).symm⟩
      clear hb
      cases b with
      |true=>
       have HP:Hid (parse k I L=aA ⟨2,S,[],R.take 32,R.drop 32⟩):=by
        show _=_
        rw[hP.out,oN,z.out,zAh (by decide),zAh (by decide),zAk ⟨kz.out,Hne.out,by rw[GH];exact Hb.out.1 rfl⟩]
       have aj:Hid (PW.Ok k ⟨2,S,[],(R.take 32),(R.drop 32)⟩):=tB F HP.out
       have N:Hid (dO w7):=HT.out.below D1.out (zAa _)
       have t:Hid (Own w7 (w.heap.size+2) 9 v S.length (S.map λx=>aK ⟨x.toArray⟩)):=by rw[q1];exact D4.out
       go_wp2_with (first
        |refine zGq rfl 112 _ rfl (w.heap.size+1) rfl _ _ _ _ D3.out ((Qz.cO 112).trans Tryz.underlying112) rfl (by kernel_rfl) ?_)
       refine(BF k idx ⟨2,S,[],(R.take 32),(R.drop 32)⟩ v (w.heap.size+2) w7 Nx F hi aj.out N.out t.out).mono ?_
       rw[HI.out]
       rintro e Z ⟨rfl,o⟩
       have F1:=aV D1.out o D1.out.size
       have F2:Hid (bB Z w.heap.size 112 dD):=D2.out.below o D2.out.lt
       have F3:Hid (bB Z (w.heap.size+1) 112 (bE k 2 v [] (R.take 32) (R.drop 32))):=D3.out.below o D3.out.lt
       have F4:Hid (Own Z (w.heap.size+2) 9 v S.length (S.map λx=>aK ⟨x.toArray⟩)):=t.out.below o (zAa _)
       clear o t N
       have y:Hid (parse l.length I L=aA ⟨2,S,[],(R.take 32),(R.drop 32)⟩):=by show _=_;rw[m.out];exact HP.out
       have H:Hid (PW.root l.length I ⟨2,S,[],(R.take 32),(R.drop 32)⟩=PW.root k I ⟨2,S,[],(R.take 32),(R.drop 32)⟩):=by show _=_;rw[m.out]
       by_cases a:PW.root k I ⟨2,S,[],(R.take 32),(R.drop 32)⟩=l
       .have f:Hid (bT l I L=0):=rF E.out y.out (H.out.trans a);have Y:(PW.root k I ⟨2,S,[],(R.take 32),(R.drop 32)⟩==root.toList)=aE:=by rw[zCk,zGz,HR.out];exact a
        have ah:Hid (PW.root k I ⟨2,S,[],(R.take 32),(R.drop 32)⟩=l):=a;clear a;go_wp2_with (first
         |refine zGq rfl 112 _ rfl (w.heap.size+1) rfl _ _ _ _ F3.out ((Qz.cO 112).trans Tryz.underlying112) rfl (by kernel_rfl) ?_
         |refine zGs rfl 112 _ _ rfl w.heap.size (bE _ _ _ _ _ _) rfl rfl _ _ F2.out (by kernel_rfl) rfl (OM F4.out) ?_)
        change bodyPost zq Tryz.f55 _ Exit.ret _ _
        refine zHb (fH Tryz.results55 _ _ w.heap.size _ _ _ _ rfl (F2.out.cH _) ((Qz.cO 112).trans Tryz.underlying112) rfl (by kernel_rfl) _ rfl) rfl ?_
        exact⟨bN F1.out (zAa _) _,aH ⟨⟨2,S,[],(R.take 32),(R.drop 32)⟩,v,f.out,y.out,H.out.trans ah.out,by rw[m.out];rfl,(F4.out.setRow _ _ (by omega)).lower (by omega)⟩⟩
       .have f:Hid (bT l I L=3):=rE E.out y.out (λh=>a (H.out.symm.trans h));have Y:(PW.root k I ⟨2,S,[],(R.take 32),(R.drop 32)⟩==root.toList)=aF:=by rw[zCf,zGz,HR.out];exact a
        clear a;go_wp2;go_step3;show 0=0/\Jump l I L w _ _
        exact⟨rfl,rfl,rfl,rfl,by rw[f.out];rfl,by rw[f.out];decide,F1.out,F2.out⟩
      |false=>
       have f:Hid (bT l I L=2):=dV E.out (by rw[m.out,hP.out,oN,z.out,zAh (by decide),zAh (by decide),zAh];rw[GH];intro h;have:=Hb.out.2 h.2.2;cases this)
       go_wp2
       go_step3
       show 0=0/\Jump l I L w _ _
       exact⟨rfl,rfl,rfl,rfl,by rw[f.out];rfl,by rw[f.out];decide,D1.out,D2.out⟩
    .have f:Hid (bT l I L=2):=dV E.out (by rw[m.out,hP.out,oN,z.out,zAh (by decide),zAh (by decide),zAh (by rw[V.out];exactλh=>hlen h.1)]);have Yq:((T.size:Int)!=32+(k:Int))=aE:=by rw[bne_iff_ne];omega
     go_wp2;go_step3;show 0=0/\Jump l I L w _ _
     exact⟨rfl,rfl,rfl,rfl,by rw[f.out];rfl,by rw[f.out];decide,Q.out,X.out⟩
end Go.Proofs.Zq
