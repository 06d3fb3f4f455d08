import Derived.Test.YtghpcgagijhlaaaGreatDoorP40
set_option linter.all false
set_option maxRecDepth 100000
set_option maxHeartbeats 16000000
open Option renaming some->aA,none->aB
open Bool renaming true->aE,false->aF
open Or renaming inl->aG,inr->aH
open Go.Ending renaming returned->aL
open Go.Obj renaming cells->aI
open Go.IntKind renaming i64->aD
open Go.Value renaming slice->aJ,string->aK,pointer->aN,int->aC
namespace Go.Proofs.Zq
open Go Go.RowKit Sha Go.Ga Go.Ren
def Lp (k:Nat)(I:zB)(T:zLL):fD k {vE k I []with bM:=T}=sI (dg k [0]) 0 T []:=rfl
def Rh (k:Nat)(I:zB)(e:gL)(T:zLL)(h:e.1=I):fD k {vE k I [e]with bM:=T}=sI (dg k [0]) 1 T e.2:=by rw[show vE k I [e]=⟨1,[],e.2,[],[]⟩from zAk h];rfl
def Rg (k:Nat)(I:zB)(e:gL)(T:zLL)(h:¬e.1=I):fD k {vE k I [e]with bM:=T}=sI (dg k [0]) 2 T (e.1++dg k (4::e.2)):=by rw[show vE k I [e]=⟨2,[],[],e.1,dg k (4::e.2)⟩from zAh h];rfl
section
variable {w:zW}{t k room b cap:Nat}{S:List (List bK)}
def Ek (h:cC w t k room b cap S){i:Nat}{us:List bK}(hi:S[i]? =aA us)(I:zB)(hI:I.length=32):
  Calls zq 153 #[aN (aA ⟨t,0,aB⟩),aC aD i,aK ⟨I.toArray⟩] w (RF λx w'=>x=aK ⟨(fD k (dY k I 256 (bF us) 0)).toArray⟩/\zb w w'):=by
 obtain⟨va,c,d1,d2,d3⟩:=h.tree hi
 have c3:w.cell? ⟨t,3,aB⟩=aA (aJ (aA ⟨b,0,aB⟩) S.length cap):=h.cell 3
 have Qr:=(zAi.1 hi).1
 have Qt:¬((i:Int)<0):=by omega
 have Qs:(i:Int)<(S.length:Int):=by omega
 have Nx:=h.k1
 have r:=h.k2
 have HE:Hid (cC w t k room b cap S):=h
 have HT:Hid (iY w ⟨0,va,c,us⟩):=d2
 have HD:Hid (Hg (UH w t b) ⟨0,va,c,us⟩):=d3
 obtain⟨WP,J⟩:∃WP,WP=fD k (dY k I 256 (bF us) 0):=⟨_,rfl⟩
 have H:Hid (WP=fD k (dY k I 256 (bF us) 0)):=J
 rw[<-J]
 clear h hi d2 d3 J
 generalize S.length=n at*
 go_enter Qz.func153,Tryz.ntmps153
 go_wp2_with fail
 refine(uF va us.length c w).mono ?_
 rintro e w1 ⟨rfl,Hm⟩
 have B1:Hid (zb w w1):=Hm
 clear Hm c3 d1
 dsimp only
 go_wp2_with fail
 refine(Oh I c va us w1 hI (HT.out.below B1.out (zAa _))).mono ?_
 rintro e w2 ⟨v,x,T,rfl,hO,Wi,jw,V,B,G⟩
 have B2:Hid (zb w w2):=aV B1.out G B1.out.size
 obtain⟨vt,ct,rfl,pw⟩:=hO.at
 have rj:Hid (lE w2 vt T):=pw
 have HW:Hid (dY k I 256 (bF us) 0={vE k I (bF x.us)with bM:=T.map (gF k)}):=B k
 have A:Hid (∀y∈x::T,iY w2 y/\Hg (UH w t b) y):=λy E=>by obtain⟨h1,h2⟩:=V y E;refine⟨h1.below G (zAa _),λa ha=> ?_⟩;obtain⟨b',e1,e2⟩:=h2 a ha;rw[<-e2];exact HD.out b' e1
 clear G B1 hO pw B V HT HD
 obtain⟨O,j,C,l⟩:=x
 dsimp only[Tr.cells]at*
 go_upto_region 2 with(fail)
 have b3:Hid (zb w2 (w2.alloc (aI #[aC aD (O:Int),aJ j l.length C] 209))):=(zGp _ _).alloc (zAa _) _
 have k3:Hid (bB (w2.alloc (aI #[aC aD (O:Int),aJ j l.length C] 209)) w2.heap.size 209 #[aC aD (O:Int),aJ j l.length C]):=bB.new _ _ _
 generalize w2.alloc (aI #[aC aD (O:Int),aJ j l.length C] 209)=w3 at*
 have B3:Hid (zb w w3):=aV B2.out b3.out B2.out.size
 have rf:=CK t k 256 vt ct T w3 (HE.out.EC.below B3.out (zAa _)) (rj.out.below b3.out (zAa _)) (by omega) (λy E=>⟨(A.out y (zBe _ E)).1.below b3.out (zAa _),(A.out y (zBe _ E)).2⟩) (λy E _=>by omega)
 go_wp2_with fail
 refine Calls.mono rf ?_
 clear rf rj
 rintro e w4 (⟨_,rfl,D,c',rfl,jh,hS,s⟩|⟨cc,rfl,he⟩)
 rotate_left
 .exact⟨rfl,.told he⟩
 have N:Hid (zb w w4):=aV B3.out s B3.out.size
 have k4:Hid (bB w4 w2.heap.size 209 #[aC aD (O:Int),aJ j l.length C]):=k3.out.below s k3.out.lt
 have E4:Hid (cC w4 t k room b cap S):=HE.out.below N.out (zAa _)
 have X4:Hid (iY w4 ⟨O,j,C,l⟩):=((A.out _ (zAz ..)).1.below b3.out (zAa _)).below s (zAa _)
 have S4:Hid (iC w4 D (T.map (gF k))):=hS
 have ie:(T.map (gF k)).length=T.length:=zDd ..
 have Vt:Hid (∀y∈T.map (gF k),y.length<=32):=λy E=>by
  obtain⟨z,_,rfl⟩:=zDb.1 E;have:=jA k z.d (bF z.us) r;show(dR k (bF z.us) z.d).length<=32
  omega
 rw[HW.out]at H
 have je:(dg k [0]).length<=32:=by have:=eC k [0] r;omega
 have m:Hid (∀(Q:Nat)(X:zB) W,Q<=2->X.length<=1000->zb w4 W->Calls zq 161 #[aC aD Q,aJ D T.length c',aK ⟨(dg k [0]).toArray⟩,aK ⟨X.toArray⟩] W λe w'=>e=aL (aK ⟨(sI (dg k [0]) Q (T.map (gF k)) X).toArray⟩)/\zb W w'):=λQ X W h1 h2 K=>by have:=Ct Q (dg k [0]) X D c' (T.map (gF k)) W h1 (by omega) Vt.out h2 je (S4.out.below K (zAa _));rw[ie]at this;exact this
 clear s k3 B3 b3 B2 hS A Vt S4 HW HE
 generalize T.map (gF k)=SB at*
 generalize T.length=nT at*
 have e1:w4.cell? ⟨w2.heap.size,1,aB⟩=aA (aJ j l.length C):=(k4.out.cell 1).trans rfl
 have e2:w4.cell? ⟨t,2,aB⟩=aA (aK ⟨(dg k [0]).toArray⟩):=(E4.out.cell 2).trans rfl
 dsimp only
 match l,Wi with
 |[],_=>rw[show bF []=[]from rfl,Lp]at H;go_wp2_with fail;refine(m.out 0 [] w4 (by omega) (by simp) (zGp _ _)).mono ?_;rintro e w5 ⟨rfl,Z⟩;have P:Hid (zb w w5):=aV N.out Z N.out.size;clear Z e1 e2;dsimp only;go_wp2;go_ret;exact .of ⟨by rw[H.out];rfl,P.out⟩
 |[u],_=>
  have hv:=X4.out.eV u (by simp);have hix:=X4.out.sub.idx u (by simp);obtain⟨g,o,e0,hg,y0,y1,y2⟩:=X4.out.tN.idx 0 u rfl;have e0':j=aA ⟨g,o,aB⟩:=e0;subst e0';rw[zEs,zEv]at y0 y1 y2;go_upto_region 6 with(fail)
  have b5:Hid (zb w4 (w4.alloc (aI #[aK ⟨u.idx.toArray⟩,aK ⟨u.val.toArray⟩,.bool u.gone] 53))):=(zGp _ _).alloc (zAa _) _
  have R:Hid (bB (w4.alloc (aI #[aK ⟨u.idx.toArray⟩,aK ⟨u.val.toArray⟩,.bool u.gone] 53)) w4.heap.size 53 #[aK ⟨u.idx.toArray⟩,aK ⟨u.val.toArray⟩,.bool u.gone]):=bB.new _ _ _
  generalize w4.alloc (aI #[aK ⟨u.idx.toArray⟩,aK ⟨u.val.toArray⟩,.bool u.gone] 53)=w5 at*
  have P:Hid (zb w w5):=aV N.out b5.out N.out.size
  have E5:Hid (cC w5 t k room b cap S):=E4.out.below b5.out (zAa _)
  have z0:w5.cell? ⟨w4.heap.size,0,aB⟩=aA (aK ⟨u.idx.toArray⟩):=(R.out.cell 0).trans rfl
  have q0:=dG ((R.out.cell 0).trans (rfl:_=aA (Value.string ⟨u.idx.toArray⟩))) R.out.lt
  have q1:=dG ((R.out.cell 1).trans (rfl:_=aA (Value.string ⟨u.val.toArray⟩))) R.out.lt
  have q2:=dG ((E5.out.cell 2).trans (rfl:_=aA (Value.string ⟨(dg k [0]).toArray⟩))) E5.out.WC
  have q3:=dG ((E5.out.cell 0).trans (rfl:_=aA (Value.int aD k))) E5.out.WC
  clear e1 e2 y0 y1 y2 k4 E4 X4
  by_cases f:u.idx=I
  .have Y:(u.idx==I)=aE:=by rw[f];exact zEp _
   rw[show bF [u]=[(u.idx,u.val)]from rfl,Rh k I (u.idx,u.val) SB f]at H;have M:=quiet_of (w:=w5) λW K=>m.out 1 u.val W (by omega) (by omega) (aV b5.out K b5.out.size).out;clear m N b5 f;go_upto_region 7 with(fail)
   refine zGv (by kernel_rfl) (by kernel_rfl) ?_
   repeat (any_goals(first|go_big_quiet_step (exact M.out _ _)|quiet_step (exact M.out _ _)))
   refine zHc ?_
   intro W1 F
   obtain⟨q,U⟩:=F
   have hb:Hid (zb w W1):=by rw[U];exact P.out.trans ((zGr w5 q.d q.os).mono P.out.size)
   clear U M q0 q1 q2 q3 z0
   go_wp2
   go_ret
   exact .of ⟨by rw[H.out];rfl,hb.out⟩
  .have Y:(u.idx==I)=aF:=zCf.2 f;rw[show bF [u]=[(u.idx,u.val)]from rfl,Rg k I (u.idx,u.val) SB f]at H;have hdv:=eC k (4::u.val) r;have M:=quiet_of (w:=w5) λW K=>m.out 2 (u.idx++dg k (4::u.val)) W (by omega) (by rw[zAj];omega) (aV b5.out K b5.out.size).out;have HV:=quiet_of (w:=w5) λW K=>CC k ⟨u.val.toArray⟩ W Nx r (by show u.val.toArray.size<=_;simp;omega) (E5.out.mZ.below K (zAa _));have L:Hid (∀(dd:Nat)(os:zJ),Calls zq 128 #[aC aD k,aK ⟨u.val.toArray⟩] (Go.Sort.grow (redrawn w5 dd) os) λe tc=>e=aL (aK ⟨(dg k (4::u.val)).toArray⟩)/\∃p:Regrown,tc=Go.Sort.grow (redrawn w5 p.d) p.os):=HV.out;clear m N b5 f HV;generalize dg k (4::u.val)=DV at*;go_upto_region 8 with(fail)
   refine zGv (by kernel_rfl) (by kernel_rfl) ?_;repeat (any_goals(first|go_big_quiet_step ((first|exact L.out _ _|exact M.out _ _))|quiet_step ((first|exact L.out _ _|exact M.out _ _))))
   refine zHc ?_
   intro W1 F
   obtain⟨q,U⟩:=F
   have hb:Hid (zb w W1):=by rw[U];exact P.out.trans ((zGr w5 q.d q.os).mono P.out.size)
   clear U M L q0 q1 q2 q3 z0
   go_wp2
   go_ret
   exact .of ⟨by rw[H.out];rfl,hb.out⟩
end
open Go Go.RowKit
def reaches {name:String}{f:zN}(h:(zq.info? 144).bind (λi=>(i.methods.find? (·.name==name)).map λm=>(m.path,m.func))=aA (#[],aA (f,aE)))(a:zO)(w:zW):
  (method (zq.types.size+100) 144 (.pointer a) name).run zq w= .ok (f,.pointer a) w:=by
 cases c:zq.info? 144 with
 |none=>rw[c]at h;cases h
 |some i=>
  rw[c]at h;simp only[zCw]at h;cases hm:i.methods.find? (·.name==name)with
  |none=>rw[hm]at h;cases h
  |some m=>
   rw[hm]at h;simp only[zAx,Option.some.injEq,Prod.mk.injEq]at h;rw[show zq.types.size+100=(zq.types.size+99)+1 from rfl];have d:=run_underlying (P:=zq) ((Qz.cO 144).trans Tryz.underlying144);have b:(typeInfo 144).run zq w= .ok i w:=by simp[typeInfo,c]
   unfold method
   simp only[Sem.run_bind,b,zHi,hm,h.1,h.2]
   simp[follow,receiverAt,d,Place.get]
def PQ (x:zY):Prop:=∃s,x=aK s
structure cV (w:zW)(d k win first hb eO t room b cap:Nat)(S:List (List bK)):Prop where
 EC:cC w t k room b cap S
 Lr:zq.globals.size<d
 yQ:zq.globals.size<hb
 at':w.heap[d]? =aA (aI #[aC aD k,aC aD win,aC aD first,aJ (aA ⟨hb,0,aB⟩) S.length eO,.iface 144 (aN (aA ⟨t,0,aB⟩))] 86 (0,0))
 gJ:∃H:zLL,H.length=S.length/\(∀h∈H,h.length<=32)/\cT PQ w hb 9 1 (aJ (aA ⟨hb,0,aB⟩) S.length eO) S.length (dA H)
 f1:first<=1000000
section
variable {w w':zW}{d k win first hb eO t room b cap:Nat}{S:List (List bK)}
def cV.lt (h:cV w d k win first hb eO t room b cap S):d<w.heap.size:=(zAb.1 h.at').1
def cV.cell (h:cV w d k win first hb eO t room b cap S)(i:Nat):w.cell? ⟨d,i,aB⟩=(#[aC aD k,aC aD win,aC aD first,aJ (aA ⟨hb,0,aB⟩) S.length eO,.iface 144 (aN (aA ⟨t,0,aB⟩))]:zA)[i]? :=zGy w d i _ _ (0,0) h.at'
def cV.below {B:Nat}(h:cV w d k win first hb eO t room b cap S)(a:Below B w w')(c:w.heap.size<=B):cV w' d k win first hb eO t room b cap S:=by obtain⟨H,g,f,e⟩:=h.gJ;exact⟨h.EC.below a c,h.Lr,h.yQ,by rw[a.block d (zAc h.lt c)];exact h.at',⟨H,g,f,e.below a c⟩,h.f1⟩
def TN (h:cV w d k win first hb eO t room b cap S):
  Calls zq 23 #[aN (aA ⟨d,0,aB⟩)] w λe w'=>e=aL (.tuple #[aC aD first,aC aD ((first:Int)+(S.length:Int)-1)])/\zb w w':=by
 have g:=dG ((h.cell 2).trans (rfl:_=aA (Value.int aD first))) h.lt
 have f:=dG ((h.cell 3).trans (rfl:_=aA (Value.slice (aA ⟨hb,0,aB⟩) S.length eO))) h.lt
 have j:=h.f1
 have i:=h.EC.len
 clear h
 generalize S.length=n at*
 go_enter Qz.func23,Tryz.ntmps23
 go_upto_region 1 with(fail)
 refine zGv (by kernel_rfl) (by kernel_rfl) ?_
 repeat (any_goals(first|go_big_quiet_step (fail)|quiet_step (fail)))
 refine zHc ?_
 intro W a
 obtain⟨q,c⟩:=a
 have hb:Hid (zb w W):=by rw[c];exact zGr w q.d q.os
 clear c g f
 go_wp2
 go_ret2
 exact⟨rfl,hb.out⟩
def BM (h:cV w d k win first hb eO t room b cap S){i:Nat}(a:i<S.length):
  Calls zq 36 #[aN (aA ⟨d,0,aB⟩),aC aD ((first:Int)+(i:Int))] w λe w'=>e=aL (.bool aE)/\zb w w':=by
 have H:=TN h
 have f:(first:Int)<=(first:Int)+(i:Int):=by omega
 have c:(first:Int)+(i:Int)<=(first:Int)+(S.length:Int)-1:=by omega
 clear h a
 generalize(first:Int)+(S.length:Int)-1=l at*
 generalize(first:Int)+(i:Int)=g at*
 go_enter Qz.func36,Tryz.ntmps36
 go_wp2_with fail
 refine H.mono ?_
 clear H
 rintro e w2 ⟨rfl,hb⟩
 have B:Hid (zb w w2):=hb
 clear hb
 dsimp only
 go_wp2
 go_ret
 exact⟨by simp[f,c],B.out⟩
def IV (h:cV w d k win first hb eO t room b cap S){i:Nat}{us:List bK}(n:S[i]? =aA us):
  Calls zq 49 #[aN (aA ⟨d,0,aB⟩),aC aD ((first:Int)+(i:Int))] w λe w'=>∃v,e=aL (.tuple #[v,aC aD 0])/\cI w' w.heap.size v us/\zb w w':=by
 have m:=(zAi.1 n).1
 have H:=BM h m
 have p:Hid (cV w d k win first hb eO t room b cap S):=h
 have G:=h.f1
 have F:=h.EC.len
 have y:Hid (S[i]? =aA us):=n
 have D:∀W,(method (zq.types.size+100) 144 (aN (aA ⟨t,0,aB⟩)) "Entries").run zq W= .ok (150,aN (aA ⟨t,0,aB⟩)) W:=λW=>reaches (by kernel_rfl) _ W
 have u:IntKind.i64.wrap (i:Int)=(i:Int):=by rw[zGw];omega
 have o:(first:Int)+(i:Int)-(first:Int)=(i:Int):=by omega
 clear h n
 go_enter Qz.func49,Tryz.ntmps49
 go_wp2_with fail
 refine H.mono ?_
 clear H
 rintro e w2 ⟨rfl,f⟩
 have C:Hid (zb w w2):=f
 have E:Hid (cV w2 d k win first hb eO t room b cap S):=p.out.below f (zAa _)
 clear f p
 dsimp only
 have s:w2.cell? ⟨d,2,aB⟩=aA (aC aD first):=E.out.cell 2
 have q:w2.cell? ⟨d,4,aB⟩=aA (.iface 144 (aN (aA ⟨t,0,aB⟩))):=E.out.cell 4
 have z:Hid (cC w2.drew t k room b cap S):=E.out.EC.kept (zAa _) λ_ _=>rfl
 have B:Hid (zb w w2.drew):=eX C.out
 have a:w.heap.size<=w2.drew.heap.size:=B.out.size
 go_wp2_with fail
 go_region_with (first
  |(go_at_call 150;refine(UG z.out y.out).mono ?_;rintro e w3 ⟨v3,rfl,c,j⟩;dsimp only))
 all_goals
  have A:Hid (zb w w3):=aV B.out j a
  have O:Hid (cI w3 w.heap.size v3 us):=by
   refine⟨c.1,?_⟩;obtain h|⟨g,l,cur,e,x,r⟩:=c.2
   .exact aG h
   .exact aH ⟨g,l,cur,e,zBl a x,r⟩
  clear c j s q
  go_wp2
  go_ret2
  exact⟨v3,rfl,O.out,A.out⟩
def UM (h:cV w d k win first hb eO t room b cap S){i:Nat}{us:List bK}(l:S[i]? =aA us):
  Calls zq 21 #[aN (aA ⟨d,0,aB⟩),aC aD ((first:Int)+(i:Int))] w (RF λx w'=>x= .tuple #[aK ⟨(dR k (bF us) 0).toArray⟩,aC aD 0]/\zb w w'):=by
 have j:=(zAi.1 l).1
 have H:=BM h j
 have n:Hid (cV w d k win first hb eO t room b cap S):=h
 have A:=h.f1
 have z:=h.EC.len
 have r:Hid (S[i]? =aA us):=l
 have y:∀W,(method (zq.types.size+100) 144 (aN (aA ⟨t,0,aB⟩)) "Root").run zq W= .ok (154,aN (aA ⟨t,0,aB⟩)) W:=λW=>reaches (by kernel_rfl) _ W
 have p:IntKind.i64.wrap (i:Int)=(i:Int):=by rw[zGw];omega
 have m:(first:Int)+(i:Int)-(first:Int)=(i:Int):=by omega
 clear h l
 go_enter Qz.func21,Tryz.ntmps21
 go_wp2_with fail
 refine H.mono ?_
 clear H
 rintro e w2 ⟨rfl,a⟩
 have v:Hid (zb w w2):=a
 have E:Hid (cV w2 d k win first hb eO t room b cap S):=n.out.below a (zAa _)
 clear a n
 dsimp only
 have o:w2.cell? ⟨d,2,aB⟩=aA (aC aD first):=E.out.cell 2
 have q:w2.cell? ⟨d,4,aB⟩=aA (.iface 144 (aN (aA ⟨t,0,aB⟩))):=E.out.cell 4
 have s:Hid (cC w2.drew t k room b cap S):=E.out.EC.kept (zAa _) λ_ _=>rfl
 have B:Hid (zb w w2.drew):=eX v.out
 have f:w.heap.size<=w2.drew.heap.size:=B.out.size
 go_wp2_with fail
 go_region_with (first
  |(go_at_call 154;refine(SH s.out r.out).mono ?_;rintro e w3 (⟨_,rfl,rfl,g⟩|⟨c,rfl,he⟩);rotate_left;exact⟨rfl,.told he⟩;dsimp only))
 all_goals
  have u:Hid (zb w w3):=aV B.out g f
  clear g o q
  go_wp2
  go_ret2
  exact .of ⟨rfl,u.out⟩
def OZ (h:cV w d k win first hb eO t room b cap S){i:Nat}{us:List bK}(l:S[i]? =aA us)(I:zB)(n:I.length=32):
  Calls zq 24 #[aN (aA ⟨d,0,aB⟩),aC aD ((first:Int)+(i:Int)),aK ⟨I.toArray⟩] w (RF λx w'=>x= .tuple #[aK ⟨(fD k (dY k I 256 (bF us) 0)).toArray⟩,aC aD 0]/\zb w w'):=by
 have s:(⟨I.toArray⟩:ByteArray).size=32:=by show I.toArray.size=32;simpa using n
 have j:=(zAi.1 l).1
 have H:=BM h j
 have o:Hid (cV w d k win first hb eO t room b cap S):=h
 have D:=h.f1
 have C:=h.EC.len
 have u:Hid (S[i]? =aA us):=l
 have A:∀W,(method (zq.types.size+100) 144 (aN (aA ⟨t,0,aB⟩)) "Prove").run zq W= .ok (153,aN (aA ⟨t,0,aB⟩)) W:=λW=>reaches (by kernel_rfl) _ W
 have r:IntKind.i64.wrap (i:Int)=(i:Int):=by rw[zGw];omega
 have m:(first:Int)+(i:Int)-(first:Int)=(i:Int):=by omega
 clear h l
 go_enter Qz.func24,Tryz.ntmps24
 go_wp2_with fail
 refine H.mono ?_
 clear H
 rintro e w2 ⟨rfl,a⟩
 have z:Hid (zb w w2):=a
 have E:Hid (cV w2 d k win first hb eO t room b cap S):=o.out.below a (zAa _)
 clear a o
 dsimp only
 have p:w2.cell? ⟨d,2,aB⟩=aA (aC aD first):=E.out.cell 2
 have q:w2.cell? ⟨d,4,aB⟩=aA (.iface 144 (aN (aA ⟨t,0,aB⟩))):=E.out.cell 4
 have v:Hid (cC w2.drew t k room b cap S):=E.out.EC.kept (zAa _) λ_ _=>rfl
 have B:Hid (zb w w2.drew):=eX z.out
 have f:w.heap.size<=w2.drew.heap.size:=B.out.size
 go_wp2_with fail
 go_region_with (first
  |(go_at_call 153;refine(Ek v.out u.out I n).mono ?_;rintro e w3 (⟨_,rfl,rfl,g⟩|⟨c,rfl,he⟩);rotate_left;exact⟨rfl,.told he⟩;dsimp only))
 all_goals
  have y:Hid (zb w w3):=aV B.out g f
  clear g p q
  go_wp2
  go_ret2
  exact .of ⟨rfl,y.out⟩
end
structure Base (w:zW):Prop where
 nB:JP w
 mZ:dO w
 low:zq.globals.size<w.heap.size
def Base.below {w w':zW}{B:Nat}(h:Base w)(a:Below B w w')(b:w.heap.size<=B):Base w':=
 ⟨h.nB.kept λx c=>a.block x (by have:=h.low;omega),h.mZ.below a b,zAc h.low a.size⟩
def Re {w:zW}(h:Base w)(k r t c:Nat)(f:1<=k)(e:k<=32)(m:w.heap[t]? =aA (aI #[aC aD k,aC aD r,aK ⟨(dg k [0]).toArray⟩,aJ (aA ⟨c,0,aB⟩) 1 1] 165 (0,0)))(n:w.heap[c]? =aA (aI #[aJ aB 0 0] 48 (0,0)))(d:zq.globals.size<t)(g:zq.globals.size<c):cC w t k r c 1 [[]]:=by
 refine⟨f,e,h.nB,h.mZ,d,g,m,⟨_,n,zAa _,by simp only[maxLen];omega,rfl,λx j=> ?_,λi us b=> ?_⟩,λus l=> ?_,by simp,by simp⟩
 .simp only[zAg,zAt,zCp]at j;subst j;exact⟨aB,0,0,rfl,λa o=>by cases o⟩
 .match i,b with
  |0,b=>simp at b;subst b;exact⟨aB,0,rfl,zAa _,λh=>absurd h (zEt _)⟩
 .rw[zAw.1 l];exact⟨uB.nil,zBp _⟩
def Qb (k r:Nat)(w:zW)(h:Base w)(d:1<=k)(c:k<=32):
  Calls zq 86 #[aC aD k,aC aD r] w λe f=>∃t g,e=aL (aN (aA ⟨t,0,aB⟩))/\cC f t k r g 1 [[]]/\w.heap.size<=t/\w.heap.size<=g/\zb w f:=by
 have H:Hid (Base w):=h
 clear h
 go_enter Qz.func86,Tryz.ntmps86
 go_wp2_with fail
 refine(ND k w d c H.out.mZ).mono ?_
 rintro e w1 ⟨rfl,a⟩
 have B:Hid (zb w w1):=a
 have H1:Hid (Base w1):=H.out.below a (zAa _)
 clear a
 dsimp only
 go_wp2_with fail
 have b:∀(v:zW)(o:Obj),(v.alloc o).heap.size=v.heap.size+1:=λv o=>zBb ..
 have k1:Hid (bB ((w1.alloc (aI #[aJ aB 0 0] 48)).alloc (aI #[aC aD (k:Int),aC aD (r:Int),aK ⟨(dg k [0]).toArray⟩,aJ (aA ⟨w1.heap.size,0,aB⟩) 1 1] 165)) w1.heap.size 48 #[aJ aB 0 0]):=(bB.new _ _ _).alloc _
 have k2:Hid (bB ((w1.alloc (aI #[aJ aB 0 0] 48)).alloc (aI #[aC aD (k:Int),aC aD (r:Int),aK ⟨(dg k [0]).toArray⟩,aJ (aA ⟨w1.heap.size,0,aB⟩) 1 1] 165)) (w1.heap.size+1) 165 #[aC aD (k:Int),aC aD (r:Int),aK ⟨(dg k [0]).toArray⟩,aJ (aA ⟨w1.heap.size,0,aB⟩) 1 1]):=by have:=bB.new (w1.alloc (aI #[aJ aB 0 0] 48)) 165 #[aC aD (k:Int),aC aD (r:Int),aK ⟨(dg k [0]).toArray⟩,aJ (aA ⟨w1.heap.size,0,aB⟩) 1 1];rw[b]at this;exact this
 have i:Hid (zb w1 ((w1.alloc (aI #[aJ aB 0 0] 48)).alloc (aI #[aC aD (k:Int),aC aD (r:Int),aK ⟨(dg k [0]).toArray⟩,aJ (aA ⟨w1.heap.size,0,aB⟩) 1 1] 165))):=((zGp _ _).alloc (zAa _) _).alloc (by rw[b];omega) _
 generalize(w1.alloc (aI #[aJ aB 0 0] 48)).alloc (aI #[aC aD (k:Int),aC aD (r:Int),aK ⟨(dg k [0]).toArray⟩,aJ (aA ⟨w1.heap.size,0,aB⟩) 1 1] 165)=w2 at*
 have n:Hid (zb w w2):=aV B.out i.out B.out.size
 have l:=H1.out.low
 have j:=B.out.size
 have m:Hid (cC w2 (w1.heap.size+1) k r w1.heap.size 1 [[]]):=Re (H1.out.below i.out (zAa _)) k r _ _ d c k2.out k1.out (by omega) l
 go_ret
 exact⟨w1.heap.size+1,w1.heap.size,rfl,m.out,by omega,j,n.out⟩
def OS (k a cells:Nat)(w:zW)(g:1<=k)(f:k<=32)(d:1<=a)(h:a<=50)(j:1<=cells)(i:cells<=100000):
  Calls zq 57 #[.agg #[aC aD 1,aC aD k,aC aD a,aC aD cells]] w λe c=>e=aL (.bool aE)/\zb w c:=by
 have b0:Hid (zb w (w.alloc (aI #[aC aD 1,aC aD (k:Int),aC aD (a:Int),aC aD (cells:Int)] 23))):=(zGp _ _).alloc (zAa _) _
 have b:Hid (bB (w.alloc (aI #[aC aD 1,aC aD (k:Int),aC aD (a:Int),aC aD (cells:Int)] 23)) w.heap.size 23 #[aC aD 1,aC aD (k:Int),aC aD (a:Int),aC aD (cells:Int)]):=bB.new _ _ _
 have q:(1:Int)<=(k:Int):=by omega
 have p:(k:Int)<=32:=by omega
 have o:(1:Int)<=(a:Int):=by omega
 have n:(a:Int)<=50:=by omega
 have m:(1:Int)<=(cells:Int):=by omega
 have l:(cells:Int)<=100000:=by omega
 go_enter Qz.func57,Tryz.ntmps57
 go_upto_region 1 with(fail)
 generalize w.alloc (aI #[aC aD 1,aC aD (k:Int),aC aD (a:Int),aC aD (cells:Int)] 23)=w0 at*
 have r:w0.cell? ⟨w.heap.size,0,aB⟩=aA (aC aD 1):=(b.out.cell 0).trans rfl
 have c1:w0.cell? ⟨w.heap.size,1,aB⟩=aA (aC aD (k:Int)):=(b.out.cell 1).trans rfl
 have c2:w0.cell? ⟨w.heap.size,2,aB⟩=aA (aC aD (a:Int)):=(b.out.cell 2).trans rfl
 have c3:w0.cell? ⟨w.heap.size,3,aB⟩=aA (aC aD (cells:Int)):=(b.out.cell 3).trans rfl
 go_wp2
 go_ret
 exact⟨by simp[q,p,o,n,m,l],b0.out⟩
def OY (k a r:Nat)(w:zW)(h:Base w)(g:1<=k)(f:k<=32):
  Calls zq 59 #[.agg #[aC aD 1,aC aD k,aC aD a,aC aD r]] w λe i=>∃t c,e=aL (.iface 144 (aN (aA ⟨t,0,aB⟩)))/\cC i t k r c 1 [[]]/\w.heap.size<=t/\w.heap.size<=c/\zb w i:=by
 have b0:Hid (zb w (w.alloc (aI #[aC aD 1,aC aD (k:Int),aC aD (a:Int),aC aD (r:Int)] 23))):=(zGp _ _).alloc (zAa _) _
 have d:Hid (bB (w.alloc (aI #[aC aD 1,aC aD (k:Int),aC aD (a:Int),aC aD (r:Int)] 23)) w.heap.size 23 #[aC aD 1,aC aD (k:Int),aC aD (a:Int),aC aD (r:Int)]):=bB.new _ _ _
 have H:Hid (Base w):=h
 clear h
 go_enter Qz.func59,Tryz.ntmps59
 go_upto_region 1 with(fail)
 generalize w.alloc (aI #[aC aD 1,aC aD (k:Int),aC aD (a:Int),aC aD (r:Int)] 23)=w0 at*
 have l:w0.cell? ⟨w.heap.size,0,aB⟩=aA (aC aD 1):=(d.out.cell 0).trans rfl
 have c1:w0.cell? ⟨w.heap.size,1,aB⟩=aA (aC aD (k:Int)):=(d.out.cell 1).trans rfl
 have c3:w0.cell? ⟨w.heap.size,3,aB⟩=aA (aC aD (r:Int)):=(d.out.cell 3).trans rfl
 go_wp2_with fail
 refine(Qb k r w0 (H.out.below b0.out (zAa _)) g f).mono ?_
 rintro e w1 ⟨t,c,rfl,j,o,n,b⟩
 have B:Hid (zb w w1):=aV b0.out b b0.out.size
 have E:Hid (cC w1 t k r c 1 [[]]):=j
 have m:=b0.out.size
 clear j b l c1 c3
 dsimp only
 go_wp2
 go_ret
 exact⟨t,c,rfl,E.out,by omega,by omega,B.out⟩
def KN (k:Nat)(w:zW)(d:dO w)(c:1<=k)(b:k<=32):
  Calls zq 58 #[aC aD k] w λe a=>e=aL (aK ⟨(dg k [3]).toArray⟩)/\zb w a:=by
 have f:=rU k ⟨#[3]⟩ w c b (by decide) d
 have H:Hid (Calls zq 53 #[aC aD k,aK ⟨#[3]⟩] w λe a=>e=aL (aK ⟨(dg k [3]).toArray⟩)/\zb w a):=f
 clear f d
 go_enter Qz.func58,Tryz.ntmps58
 go_wp2_with fail
 refine H.out.mono ?_
 rintro e w1 ⟨rfl,h⟩
 have B:Hid (zb w w1):=h
 clear h H
 dsimp only
 go_wp2
 go_ret
 exact⟨rfl,B.out⟩
def Br {w:zW}{d k a e t r b:Nat}{h:zB}(i:cC w t k r b 1 [[]])(g:w.heap[d]? =aA (aI #[aC aD k,aC aD a,aC aD 0,aJ (aA ⟨e,0,aB⟩) 1 1,.iface 144 (aN (aA ⟨t,0,aB⟩))] 86 (0,0)))(hh:w.heap[e]? =aA (aI #[aK ⟨h.toArray⟩] 9 (0,0)))(f:h.length<=32)(l:zq.globals.size<d)(j:zq.globals.size<e):
  cV w d k a 0 e 1 t r b 1 [[]]:=
 ⟨i,l,j,g,⟨[h],rfl,λx c=>by rw[zAw.1 c];exact f,cT.of _ hh (zAa _) (zAa _) (by simp only[maxLen];omega) rfl rfl (λx c=>by simp only[zAg,zAt,zCp]at c;exact⟨_,c⟩)⟩,zBp _⟩
def YX (k a r:Nat)(w:zW)(h:Base w)(s:1<=k)(n:k<=32)(I:1<=a)(G:a<=50)(L:1<=r)(J:r<=100000):
  Calls zq 35 #[.agg #[aC aD 1,aC aD k,aC aD a,aC aD r]] w λe j=>∃d S t i,e=aL (.tuple #[aN (aA ⟨d,0,aB⟩),aC aD 0])/\cV j d k a 0 S 1 t r i 1 [[]]/\w.heap.size<=d/\w.heap.size<=S/\w.heap.size<=t/\w.heap.size<=i/\zb w j:=by
 have b0:Hid (zb w (w.alloc (aI #[aC aD 1,aC aD (k:Int),aC aD (a:Int),aC aD (r:Int)] 23))):=(zGp _ _).alloc (zAa _) _
 have B:Hid (bB (w.alloc (aI #[aC aD 1,aC aD (k:Int),aC aD (a:Int),aC aD (r:Int)] 23)) w.heap.size 23 #[aC aD 1,aC aD (k:Int),aC aD (a:Int),aC aD (r:Int)]):=bB.new _ _ _
 have HB:Hid (Base w):=h
 have yQ:=h.low
 clear h
 go_enter Qz.func35,Tryz.ntmps35
 go_upto_region 1 with(fail)
 generalize w.alloc (aI #[aC aD 1,aC aD (k:Int),aC aD (a:Int),aC aD (r:Int)] 23)=w0 at*
 go_wp2_with (refine zGq rfl 23 _ rfl w.heap.size rfl 23 _ (0,0) _ B.out ((Qz.cO 23).trans Tryz.underlying23) rfl (by kernel_rfl) ?_)
 refine(OS k a r w0 s n I G L J).mono ?_
 rintro e w1 ⟨rfl,v⟩
 have D:Hid (zb w w1):=aV b0.out v b0.out.size
 have K1:Hid (bB w1 w.heap.size 23 #[aC aD 1,aC aD (k:Int),aC aD (a:Int),aC aD (r:Int)]):=B.out.below v B.out.lt
 have H1:Hid (Base w1):=HB.out.below D.out (zAa _)
 have R:=D.out.size
 clear v b0 B HB
 dsimp only
 go_upto_region 3 with(fail)
 have M:Hid (∀W,zb w1 W->W.cell? ⟨w.heap.size,0,aB⟩=aA (aC aD 1)/\W.cell? ⟨w.heap.size,1,aB⟩=aA (aC aD (k:Int))/\W.cell? ⟨w.heap.size,2,aB⟩=aA (aC aD (a:Int))/\W.cell? ⟨w.heap.size,3,aB⟩=aA (aC aD (r:Int))/\w.heap.size<W.heap.size):=λW o=>⟨((K1.out.below o K1.out.lt).cell 0).trans rfl,((K1.out.below o K1.out.lt).cell 1).trans rfl,((K1.out.below o K1.out.lt).cell 2).trans rfl,((K1.out.below o K1.out.lt).cell 3).trans rfl,(K1.out.below o K1.out.lt).lt⟩
 obtain⟨V,c1,c2,c3,c4⟩:=M.out w1 (zGp _ _)
 have z:(dg k [3]).length<=32:=by have:=eC k [3] n;omega
 have A:Hid ((dg k [3]).length<=32):=z
 have Z:Hid (∀W,zb w1 W->Calls zq 58 #[aC aD k] W λe j=>e=aL (aK ⟨(dg k [3]).toArray⟩)/\zb W j):=λW o=>KN k W (H1.out.below o (zAa _)).mZ s n
 have N:Hid (∀W,zb w1 W->Calls zq 59 #[.agg #[aC aD 1,aC aD k,aC aD a,aC aD r]] W λe j=>∃t i,e=aL (.iface 144 (aN (aA ⟨t,0,aB⟩)))/\cC j t k r i 1 [[]]/\W.heap.size<=t/\W.heap.size<=i/\zb W j):=λW o=>OY k a r W (H1.out.below o (zAa _)) s n
 generalize dg k [3]=l at*
 clear z K1 H1
 go_region_held3 (λj=>j.cell? ⟨w.heap.size,0,aB⟩=aA (aC aD 1)/\j.cell? ⟨w.heap.size,1,aB⟩=aA (aC aD (k:Int))/\j.cell? ⟨w.heap.size,2,aB⟩=aA (aC aD (a:Int))/\j.cell? ⟨w.heap.size,3,aB⟩=aA (aC aD (r:Int))) (go_keep) (first
  |(go_at_call 58;
    first
    |(refine(Z.out _ (eX (zGp _ w1))).mono ?_;rintro e wf ⟨rfl,m⟩;have c:Hid (zb w1 wf):=pM m)
    |(refine(Z.out _ f.out).mono ?_;rintro e wf ⟨rfl,m⟩;have c:Hid (zb w1 wf):=aV f.out m f.out.size);
    obtain⟨f0,f1,f2,f3,f4⟩:=M.out wf c.out;dsimp only)
  |(go_at_call 59;
    first
    |(refine(N.out _ (eX (zGp _ w1))).mono ?_;rintro e b ⟨t,i,rfl,C,y,x,g⟩;have f:Hid (zb w1 b):=pM g)
    |(refine(N.out _ c.out).mono ?_;rintro e b ⟨t,i,rfl,C,y,x,g⟩;have f:Hid (zb w1 b):=aV c.out g c.out.size)
    |(refine(N.out _ (c.out.alloc c.out.size _)).mono ?_;rintro e b ⟨t,i,rfl,C,y,x,g⟩;have f:Hid (zb w1 b):=aV (c.out.alloc c.out.size _) g (c.out.alloc c.out.size _).size);
    obtain⟨g0,U,g2,T,g4⟩:=M.out b f.out;have H:Hid (cC b t k r i 1 [[]]):=C;have u:=g;clear C;dsimp only))
 .have q:bB (wf.alloc (aI #[aK ⟨l.toArray⟩] 9)) wf.heap.size 9 #[aK ⟨l.toArray⟩]:=bB.new _ _ _;have Y:Hid (bB b wf.heap.size 9 #[aK ⟨l.toArray⟩]):=q.below u q.lt;have E:=c.out.size;have p:(wf.alloc (aI #[aK ⟨l.toArray⟩] 9)).heap.size=wf.heap.size+1:=zBb ..;have F:=f.out.size;have P:Hid (zb w (b.alloc (aI #[aC aD (k:Int),aC aD (a:Int),aC aD 0,aJ (aA ⟨wf.heap.size,0,aB⟩) 1 1,.iface 144 (aN (aA ⟨t,0,aB⟩))] 86))):=(aV D.out f.out R).out.alloc (by omega) _;have K:Hid (bB (b.alloc (aI #[aC aD (k:Int),aC aD (a:Int),aC aD 0,aJ (aA ⟨wf.heap.size,0,aB⟩) 1 1,.iface 144 (aN (aA ⟨t,0,aB⟩))] 86)) b.heap.size 86 #[aC aD (k:Int),aC aD (a:Int),aC aD 0,aJ (aA ⟨wf.heap.size,0,aB⟩) 1 1,.iface 144 (aN (aA ⟨t,0,aB⟩))]):=bB.new _ _ _;have O:Hid (cV (b.alloc (aI #[aC aD (k:Int),aC aD (a:Int),aC aD 0,aJ (aA ⟨wf.heap.size,0,aB⟩) 1 1,.iface 144 (aN (aA ⟨t,0,aB⟩))] 86)) b.heap.size k a 0 wf.heap.size 1 t r i 1 [[]]):=Br (H.out.below ((zGp _ _).alloc (zAa _) _) (zAa _)) K.out (Y.out.alloc _) A.out (by omega) (by omega);generalize b.alloc (aI #[aC aD (k:Int),aC aD (a:Int),aC aD 0,aJ (aA ⟨wf.heap.size,0,aB⟩) 1 1,.iface 144 (aN (aA ⟨t,0,aB⟩))] 86)=w9 at*;clear q u g m V c1 c2 c3 f0 f1 f2 f3 g0 U g2 T Y K;go_wp2;go_ret2;exact⟨b.heap.size,wf.heap.size,t,i,rfl,O.out,by omega,by omega,by omega,by omega,P.out⟩
 .have E:=c.out.size;have F:=f.out.size;have p:∀Q,(b.alloc Q).heap.size=b.heap.size+1:=λQ=>zBb ..;have X:Hid (bB ((b.alloc (aI #[aK ⟨l.toArray⟩] 9)).alloc (aI #[aC aD (k:Int),aC aD (a:Int),aC aD 0,aJ (aA ⟨b.heap.size,0,aB⟩) 1 1,.iface 144 (aN (aA ⟨t,0,aB⟩))] 86)) b.heap.size 9 #[aK ⟨l.toArray⟩]):=(bB.new _ _ _).alloc _;have K:Hid (bB ((b.alloc (aI #[aK ⟨l.toArray⟩] 9)).alloc (aI #[aC aD (k:Int),aC aD (a:Int),aC aD 0,aJ (aA ⟨b.heap.size,0,aB⟩) 1 1,.iface 144 (aN (aA ⟨t,0,aB⟩))] 86)) (b.heap.size+1) 86 #[aC aD (k:Int),aC aD (a:Int),aC aD 0,aJ (aA ⟨b.heap.size,0,aB⟩) 1 1,.iface 144 (aN (aA ⟨t,0,aB⟩))]):=by
   have:=bB.new (b.alloc (aI #[aK ⟨l.toArray⟩] 9)) 86 #[aC aD (k:Int),aC aD (a:Int),aC aD 0,aJ (aA ⟨b.heap.size,0,aB⟩) 1 1,.iface 144 (aN (aA ⟨t,0,aB⟩))];rw[p]at this;exact this
  have be:zb b ((b.alloc (aI #[aK ⟨l.toArray⟩] 9)).alloc (aI #[aC aD (k:Int),aC aD (a:Int),aC aD 0,aJ (aA ⟨b.heap.size,0,aB⟩) 1 1,.iface 144 (aN (aA ⟨t,0,aB⟩))] 86)):=((zGp _ _).alloc (zAa _) _).alloc (by rw[p];omega) _;have P:Hid (zb w ((b.alloc (aI #[aK ⟨l.toArray⟩] 9)).alloc (aI #[aC aD (k:Int),aC aD (a:Int),aC aD 0,aJ (aA ⟨b.heap.size,0,aB⟩) 1 1,.iface 144 (aN (aA ⟨t,0,aB⟩))] 86))):=aV (aV D.out f.out R).out be (by omega);have O:Hid (cV ((b.alloc (aI #[aK ⟨l.toArray⟩] 9)).alloc (aI #[aC aD (k:Int),aC aD (a:Int),aC aD 0,aJ (aA ⟨b.heap.size,0,aB⟩) 1 1,.iface 144 (aN (aA ⟨t,0,aB⟩))] 86)) (b.heap.size+1) k a 0 b.heap.size 1 t r i 1 [[]]):=Br (H.out.below be (zAa _)) K.out X.out A.out (by omega) (by omega);generalize(b.alloc (aI #[aK ⟨l.toArray⟩] 9)).alloc (aI #[aC aD (k:Int),aC aD (a:Int),aC aD 0,aJ (aA ⟨b.heap.size,0,aB⟩) 1 1,.iface 144 (aN (aA ⟨t,0,aB⟩))] 86)=w9 at*;clear u g m V c1 c2 c3 f0 f1 f2 f3 g0 U g2 T X K be;go_wp2;go_ret2;exact⟨b.heap.size+1,b.heap.size,t,i,rfl,O.out,by omega,by omega,by omega,by omega,P.out⟩
def Kt (k g:Nat)(h r:zB)(w:zW)(j:dO w)(i:1<=k)(a:k<=32)(hh:h.length<=32)(v:r.length<=32)(n:g<=2000000):
  Calls zq 40 #[aC aD k,aK ⟨h.toArray⟩,aC aD g,aK ⟨r.toArray⟩] w λe w'=>∃H:zB,e=aL (aK ⟨H.toArray⟩)/\H.length<=32/\zb w w':=by
 have q:Hid (dO w):=j
 have s:Hid (∀W (m:ByteArray),m.size<=1000->dO W->Calls zq 53 #[aC aD k,aK m] W λe w'=>(∃H:zB,e=aL (aK ⟨H.toArray⟩)/\H.length<=32)/\zb W w'):=λW m x p=>(rU k m W i a (by omega) p).mono λe w' h=>⟨⟨_,h.1,by have:=eC k m.data.toList a;show(dg k m.data.toList).length<=32;omega⟩,h.2⟩
 have o:(eight g).length=8:=by simp[eight]
 clear j
 go_enter Qz.func40,Tryz.ntmps40
 go_wp2_with fail
 refine(tS g w).mono ?_
 rintro e w1 ⟨rfl,f⟩
 have B:Hid (zb w w1):=f
 clear f
 generalize eight g=E at*
 dsimp only
 go_wp2_with fail
 refine(s.out w1 _ ?_ (q.out.below B.out (zAa _))).mono ?_
 .simp only[ByteArray.size_append];show 1+h.toArray.size+E.toArray.size+r.toArray.size<=1000
  simp only[zAl];omega
 rintro e w2 ⟨⟨H,rfl,l⟩,c⟩
 have u:Hid (zb w w2):=aV B.out c B.out.size
 clear c
 dsimp only
 go_wp2
 go_ret
 exact⟨H,rfl,l,u.out⟩
def tK (d hb t b:Nat):zP:=λx=>x=d\/x=hb\/x=t\/x=b
section
variable {w w':zW}{d k win first hb eO t room b cap:Nat}{S:List (List bK)}
def oC {x y:Nat}{cs cs':zA}{c ty:zD}{j i:Nat×Nat}(g:w.heap[x]? =aA (aI cs c j))(h:w.heap[y]? =aA (aI cs' ty i))(a:c≠ty):x≠y:=λe=>by subst e;rw[g]at h;injection h with h;injection h with _ f;exact a f
def cV.ne (h:cV w d k win first hb eO t room b cap S):d≠hb/\d≠t/\d≠b/\hb≠t/\hb≠b:=by obtain⟨f,c1,_⟩:=h.EC.row;obtain⟨H,_,_,a⟩:=h.gJ;obtain⟨c,e,_⟩:=cT.row a;exact⟨oC h.at' e (by decide),oC h.at' h.EC.at' (by decide),oC h.at' c1 (by decide),oC e h.EC.at' (by decide),oC e c1 (by decide)⟩
def cV.bU (h:cV w d k win first hb eO t room b cap S):hb<w.heap.size:=by obtain⟨H,_,_,a⟩:=h.gJ;obtain⟨c,e,_⟩:=cT.row a;exact(zAb.1 e).1
def KP (h:cV w d k win first hb eO t room b cap S)(P:1<S.length):
  Calls zq 41 #[aN (aA ⟨d,0,aB⟩),aC aD 1] w λe w'=>e=aL (.tuple #[])/\(first+1<=1000000->cV w' d k win (first+1) hb eO t room b cap (S.drop 1))/\gI (tK d hb t b) w w':=by
 obtain⟨A,M,L,K,J⟩:=h.ne
 have r:=YQ h.EC P
 have N:∀W,(method (zq.types.size+100) 144 (aN (aA ⟨t,0,aB⟩)) "Forget").run zq W= .ok (151,aN (aA ⟨t,0,aB⟩)) W:=λW=>reaches (by kernel_rfl) _ W
 have G:w.cell? ⟨d,4,aB⟩=aA (.iface 144 (aN (aA ⟨t,0,aB⟩))):=h.cell 4
 have i:Hid (cV w d k win first hb eO t room b cap S):=h
 have B:=h.EC.len
 have T:=h.f1
 clear h
 go_enter Qz.func41,Tryz.ntmps41
 go_wp2_with fail
 refine r.mono ?_
 clear r
 rintro e w1 ⟨rfl,p,f⟩
 have F:Hid (cC w1 t k room b cap (S.drop 1)):=p
 have V:Hid (gI (QP t b) w w1):=f
 have D1:Hid (bB w1 d 86 #[aC aD k,aC aD win,aC aD first,aJ (aA ⟨hb,0,aB⟩) S.length eO,.iface 144 (aN (aA ⟨t,0,aB⟩))]):=(f.block d i.out.lt (λa=>by obtain a|a:=a;exact M a;exact L a)).trans i.out.at'
 obtain⟨H,z,y,o⟩:=i.out.gJ
 have O:Hid (cT PQ w1 hb 9 1 (aJ (aA ⟨hb,0,aB⟩) S.length eO) S.length (dA H)):=o.kept λg u=>by have e:hb=g:=zAm u;subst e;exact f.block hb i.out.bU (λa=>by obtain a|a:=a;exact K a;exact J a)
 clear p f o G N
 dsimp only
 have I:w1.cell? ⟨d,3,aB⟩=aA (aJ (aA ⟨hb,0,aB⟩) S.length eO):=(D1.out.cell 3).trans rfl
 have E:=Lx (S:=PQ) (λx a=>by obtain⟨s,rfl⟩:=a;rfl) (λx a=>by simp[Value.cells]at a;exact⟨_,a⟩) hb hb S.length eO 0 (dA H) w1 O.out (by omega) (by omega)
 go_wp2_with fail
 refine E.mono ?_
 clear E
 rintro e w2 ⟨rfl,l,c⟩
 have D2:Hid (bB w2 d 86 #[aC aD k,aC aD win,aC aD first,aJ (aA ⟨hb,0,aB⟩) S.length eO,.iface 144 (aN (aA ⟨t,0,aB⟩))]):=D1.out.grown c (λe=>by injection e with e;exact A e)
 obtain⟨C,q,_⟩:=cT.row O.out
 have R:Hid (cC w2 t k room b cap (S.drop 1)):=F.out.other c q (by decide) i.out.yQ
 have Q:Hid (gI (tK d hb t b) w w2):=(V.out.mono λx a=>aH (aH a)).trans (gI.grown c (aH (aG rfl)))
 have D:Hid (cT PQ w2 hb 9 1 (aJ (aA ⟨hb,0,aB⟩) (S.length-1) eO) (S.length-1) (dA (H.drop 1))):=by
  have e:List.take (0*1) (dA H)++List.drop ((0+1)*1) (dA H)=dA (H.drop 1):=by simp[dA]
  rw[e]at l
  exact l
 have p3:w2.cell? ⟨d,3,aB⟩=aA (aJ (aA ⟨hb,0,aB⟩) S.length eO):=(D2.out.cell 3).trans rfl
 have p2:w2.cell? ⟨d,2,aB⟩=aA (aC aD first):=(D2.out.cell 2).trans rfl
 have f3:=D2.out.frozen 3
 have f2:=D2.out.frozen 2
 clear l c q I F V O D1
 dsimp only
 go_wp2_with fail
 go_end0
 have m:(w2.setCell ⟨d,3,aB⟩ (aJ (aA ⟨hb,0,aB⟩) (S.length-1) eO)).setCell ⟨d,2,aB⟩ (aC aD ((first:Int)+1))=w2.setRow d (#[aC aD k,aC aD win,aC aD ((first:Int)+1),aJ (aA ⟨hb,0,aB⟩) (S.length-1) eO,.iface 144 (aN (aA ⟨t,0,aB⟩))]:zA):=by rw[setCell_eq_setRow w2 d 3 _ _ (0,0) _ D2.out,setCell_eq_setRow _ d 2 _ _ (0,0) _ (D2.out.cH _),setRow_setRow];rfl
 have j:=cN w2 d (#[aC aD k,aC aD win,aC aD ((first:Int)+1),aJ (aA ⟨hb,0,aB⟩) (S.length-1) eO,.iface 144 (aN (aA ⟨t,0,aB⟩))]:zA)
 have n:=D2.out.cH (#[aC aD k,aC aD win,aC aD ((first:Int)+1),aJ (aA ⟨hb,0,aB⟩) (S.length-1) eO,.iface 144 (aN (aA ⟨t,0,aB⟩))]:zA)
 rw[m]
 refine⟨rfl,λv=>⟨R.out.other j D2.out (by decide) i.out.Lr,i.out.Lr,i.out.yQ,by rw[zBa];exact n,⟨H.drop 1,by rw[zBa,zBa,z],λx a=>y x (zCb a),?_⟩,v⟩,Q.out.trans (gI.grown j (aG rfl))⟩
 rw[zBa]
 exact D.out.kept λg u=>by have e:hb=g:=zAm u;subst e;exact j.block hb ((cT.lt D.out hb rfl).2) (λe=>by injection e with e;exact A e.symm)
end
end Go.Proofs.Zq
