import Derived.Test.YtghpcgagijhlaaaGreatDoorP36
set_option linter.all false
set_option maxRecDepth 100000
set_option maxHeartbeats 16000000
open Option renaming some->aA,none->aB
open Bool renaming true->aE,false->aF
open Or renaming inl->aG,inr->aH
open Go.Ending renaming returned->aL
open Go.Obj renaming cells->aI
open Go.IntKind renaming i64->aD
open Go.Value renaming slice->aJ,string->aK,int->aC
open Go.Lib renaming compareBytes->aDw
namespace Go.Proofs.Zq
open Go.RowKit Sha Go.Shelf Go.Sort
def emit (S:List bK)(i:Nat):Option bK:=
 match S[i]?,S[i+1]? with
 |some u,aB=>aA u
 |some u,aA v=>if v.idx=u.idx then aB else aA u
 |none,_=>aB
def vT:∀S:List bK,gZ S=(List.range S.length).filterMap (emit S)
 |[]=>rfl
 |[u]=>rfl
 |u::v::r=>by
  have i:=vT (v::r);have e:(List.range (u::v::r).length).filterMap (emit (u::v::r))=([0].filterMap (emit (u::v::r)))++(List.range (v::r).length).filterMap (emit (v::r)):=by rw[zAe,List.range_succ_eq_map,show(0::(List.range (v::r).length).map Nat.succ)=[0]++(List.range (v::r).length).map Nat.succ from rfl,zDs,List.filterMap_map];rfl
  rw[e,gZ,i]
  have a:emit (u::v::r) 0=if v.idx=u.idx then aB else aA u:=rfl
  rw[zDz,List.filterMap_nil,a]
  by_cases h:v.idx=u.idx
  .rw[zAk h,zAk h];rfl
  .rw[zAh h,zAh h];rfl
def lO (S:List bK)(t:Nat):List bK:=(List.range t).filterMap (emit S)
def XL (S:List bK)(t:Nat):lO S (t+1)=lO S t++(emit S t).toList:=by unfold lO;rw[List.range_succ,zDs,zDz,List.filterMap_nil];cases emit S t<;>rfl
def LS (S:List bK)(t:Nat):(lO S t).length<=t:=by have:=zGk (emit S) (List.range t);rw[List.length_range]at this;exact this
def Kk (v fv:zY)(w:zW):Calls zq 101 #[v,aC aD 0,aC aD 0,fv] w λe a=>e=aL (.tuple #[])/\a=w:=by
 go_enter Qz.func101,Tryz.ntmps101;go_wp2_with fail;go_loopg [8] 0 (λq i wr=>i=aC aD 1/\wr=w);case atStart=>exact⟨rfl,rfl⟩
 case round=>
  obtain⟨rfl,rfl⟩:=hrel
  go_wp2_with fail
  go_end0
  exact⟨rfl,rfl⟩
def RB (v fv:zY)(w:zW):Calls zq 88 #[v,aC aD 0,fv] w λe c=>e=aL (.tuple #[])/\c=w:=by
 go_enter Qz.func88,Tryz.ntmps88;go_wp2_with fail;go_loopg [7,8] 0 (λq a b wr=>a=aC aD 0/\b=aC aD 20/\wr=w);case atStart=>exact⟨rfl,rfl,rfl⟩
 case round=>
  obtain⟨rfl,rfl,rfl⟩:=hrel
  go_wp2_with fail
  refine(Kk v fv wr).mono ?_
  rintro e w1 ⟨rfl,rfl⟩
  go_wp2_with fail
  go_loopg [6] 0 (λq d w3=>d=aC aD 20/\w3=w1)
  case atStart=>exact⟨rfl,rfl⟩
  case round=>
   obtain⟨rfl,rfl⟩:=hrel
   go_wp2_with fail
   go_end0
   exact⟨rfl,rfl⟩
def DU (a:zO)(c:Nat)(fv:zY)(w:zW):Calls zq 61 #[aJ a 0 c,fv] w λe b=>e=aL (.tuple #[])/\b=w:=by go_enter Qz.func61,Tryz.ntmps61;go_wp2_with fail;refine(RB _ fv w).mono ?_;rintro e w1 ⟨rfl,rfl⟩;go_wp2_with fail;go_end0;exact⟨rfl,rfl⟩
def xU (a:zO)(c:Nat)(w:zW)(n:∀x,a=aA x->∃g o,x=⟨g,o,aB⟩):
  Calls zq 39 #[aJ a 0 c] w λe b=>∃f,e=aL f/\cI b w.heap.size f []/\zb w b:=by
 have m:Calls zq 60 #[aJ a 0 c] w λe b=>∃va v,e=aL (aJ va 0 v)/\zb w b:=by
  cases a with
  |none=>exact(AnyE.slices_Clone_nil Qz.Mf 0 c w).mono λe b ⟨l,k⟩=>⟨aB,0,l,by rw[k];exact zGp _ _⟩
  |some x=>
   obtain⟨g,o,rfl⟩:=n x rfl;exact(IZ g o c [] w (by simp) (λj u h=>by cases h)).mono λe b ⟨f,l,k,_,p⟩=>by obtain⟨va,v,rfl,_⟩:=k.len;exact⟨va,v,l,p⟩
 go_enter Qz.func39,Tryz.ntmps39
 go_wp2_with fail
 refine m.mono ?_
 rintro e w1 ⟨va,v,rfl,hb⟩
 have B:Hid (zb w w1):=hb
 clear hb m n
 go_wp2_with fail
 refine(DU va v _ w1).mono ?_
 rintro e w2 ⟨rfl,d⟩
 obtain rfl:w1=w2:=d.symm
 clear d
 go_wp2_with fail
 go_loopg [4,13] 0 (λq out i wr=>out=aJ aB 0 0/\i=aC aD 0/\wr=w1)
 case atStart=>exact⟨rfl,rfl,rfl⟩
 case round=>
  obtain⟨rfl,rfl,rfl⟩:=hrel
  go_wp2_with fail
  go_ret
  exact⟨_,rfl,cI.nil _ _,B.out⟩
def OC (g0 o c:Nat)(us:List bK)(w:zW)(hn:0<us.length)(Zj:us.length<=20)(s:∀j u,(bH us)[j]? =aA u->w.cell? ⟨g0,o+j,aB⟩=aA u):
  Calls zq 39 #[aJ (aA ⟨g0,o,aB⟩) us.length c] w λe l=>∃n,e=aL n/\cI l w.heap.size n (dU us)/\zb w l:=by
 have hc:=IZ g0 o c us w (by omega) s
 clear s
 have HC:Hid (Calls zq 60 #[aJ (aA ⟨g0,o,aB⟩) us.length c] w λe l=>∃n,e=aL n/\cI l w.heap.size n us/\n≠aJ aB 0 0/\zb w l):=hc
 have HS:Hid (∀g cap w1,cI w1 w.heap.size (aJ (aA ⟨g,0,aB⟩) us.length cap) us->w.heap.size<=g->g<w1.heap.size->Calls zq 61 #[aJ (aA ⟨g,0,aB⟩) us.length cap,.func (.func 62) #[] #[]] w1 λe l=>e=aL (.tuple #[])/\HoldsK bK.cells 3 l g 0 (cE us).toArray/\Below w.heap.size w1 l):=λg cap w1 L C h3=>FM w.heap.size g cap us w1 L C h3 Zj
 have HF:Hid (dU us=lO (cE us) us.length):=by
  show gZ (cE us)=_
  rw[vT,mI];rfl
 have pz:(cE us).length=us.length:=mI us
 rw[HF.out]
 clear hc HF
 generalize cE us=S at*
 have HL:Hid (∀n l,cI l w.heap.size n us->∃g cap,n=aJ (aA ⟨g,0,aB⟩) us.length cap/\w.heap.size<=g/\g<l.heap.size):=λn l h=>by obtain⟨va,cc,e,C⟩:=h.len;obtain⟨g,rfl,h3,h4⟩:=C hn;exact⟨g,cc,e,h3,h4⟩
 go_enter Qz.func39,Tryz.ntmps39
 go_wp2_with fail
 refine HC.out.mono ?_
 rintro e w1 ⟨n,rfl,a,_,hb⟩
 obtain⟨g,cap,rfl,jb,J⟩:=HL.out n w1 a
 have B1:Hid (zb w w1):=hb
 have O1:Hid (cI w1 w.heap.size (aJ (aA ⟨g,0,aB⟩) us.length cap) us):=a
 clear hb a HC HL
 go_wp2_with fail
 refine(HS.out g cap w1 O1.out jb J).mono ?_
 rintro e w2 ⟨rfl,hh,z⟩
 have G:Hid (zb w w2):=B1.out.trans z
 have K2:Hid (HoldsK bK.cells 3 w2 g 0 S.toArray):=hh
 have xu:g<w2.heap.size:=zAc J z.size
 clear z hh HS B1 O1
 generalize hN:us.length=N at*
 have HN0:Hid (us.length=N):=hN
 clear hN
 go_wp2_with fail
 go_loopg [4,13] N (λq out i wr=>∃t:Nat,t+q=N/\i=aC aD (t:Int)/\zb w wr/\zb w2 wr/\cI wr w2.heap.size out (lO S t))
 case atStart=>exact⟨0,by omega,rfl,G.out,zGp _ _,cI.nil _ _⟩
 case round=>
  obtain⟨t,ht,rfl,b1,b2,b3⟩:=hrel
  have U:Hid (zb w wr):=b1
  have P:Hid (zb w2 wr):=b2
  have C3:Hid (cI wr w2.heap.size u4 (lO S t)):=b3
  clear b1 b2 b3
  by_cases bU:t<N
  .have zg:t<S.length:=by omega
   have K3:Hid (∀W,zb w2 W->∀i u,S[i]? =aA u->∀j,j<3->W.cell? ⟨g,i*3+j,aB⟩=u.cells[j]?):=λW hW i u Q j Z=>by rw[hW.cell (p:=⟨_,_,aB⟩) xu];exact ZI K2.out i u Q j Z
   have Q:S[t]? =aA S[t]:=zAf zg
   have E:Hid (lO S (t+1)=lO S t++(emit S t).toList):=XL S t
   have R:Hid (S[t]? =aA S[t]):=Q
   clear Q
   have r0:wr.rangeAt g (t*3) S[t].cells:=λj v hv=>by have Z:j<3:=(zAi.1 hv).1;rw[K3.out wr P.out t _ R.out j Z];exact hv
   generalize S[t]=u at*
   obtain⟨b,d,f⟩:=u
   have Sa:(t:Int)<(N:Int):=by omega
   have uv:(0:Int)<=(t:Int):=by omega
   have r1:wr.rangeAt g (t*3) [aK ⟨b.toArray⟩,aK ⟨d.toArray⟩,.bool f]:=r0
   clear r0
   go_upto_region 7 with(refine wpList_load_mid rfl 53 _ rfl g (t*3) rfl _ _ r1 ((Qz.cO 53).trans Tryz.underlying53) rfl (by kernel_rfl) ?_)
   have Ka:Hid (bB (wr.alloc (aI #[aK ⟨b.toArray⟩,aK ⟨d.toArray⟩,.bool f] 53)) wr.heap.size 53 #[aK ⟨b.toArray⟩,aK ⟨d.toArray⟩,.bool f]):=bB.new _ _ _
   have Ca:Hid (zb w (wr.alloc (aI #[aK ⟨b.toArray⟩,aK ⟨d.toArray⟩,.bool f] 53))):=U.out.alloc U.out.size _
   have Cb:Hid (zb w2 (wr.alloc (aI #[aK ⟨b.toArray⟩,aK ⟨d.toArray⟩,.bool f] 53))):=P.out.alloc P.out.size _
   have Cc:Hid (cI (wr.alloc (aI #[aK ⟨b.toArray⟩,aK ⟨d.toArray⟩,.bool f] 53)) w2.heap.size u4 (lO S t)):=C3.out.alloc _
   have HN:Hid (w2.heap.size<=wr.heap.size):=P.out.size
   generalize wr.alloc (aI #[aK ⟨b.toArray⟩,aK ⟨d.toArray⟩,.bool f] 53)=m at*
   clear U P C3 r1
   generalize wr.heap.size=B at*
   have p0:m.cell? ⟨B,0,aB⟩=aA (aK ⟨b.toArray⟩):=by rw[Ka.out.cell];rfl
   by_cases Y:t+1=N
   .have hq:(t:Int)+1=(N:Int):=by omega
    have H:Hid ((emit S t).toList=[⟨b,d,f⟩]):=by
     show(emit S t).toList=_
     have L:S[t+1]? =aB:=List.getElem?_eq_none (by omega)
     unfold emit
     rw[R.out,L];rfl
    go_quiet (fail)
    have Dk:Hid (bB (m.drewN nq) B 53 #[aK ⟨b.toArray⟩,aK ⟨d.toArray⟩,.bool f]):=Ka.out.drewN nq
    have T:Hid (zb w (m.drewN nq)):=below_drewN Ca.out nq
    have F:Hid (zb w2 (m.drewN nq)):=below_drewN Cb.out nq
    have D:Hid (cI (m.drewN nq) w2.heap.size u4 (lO S t)):=Cc.out.kept λ_ _=>rfl
    generalize m.drewN nq=V at*
    have y:(lO S t).length<=1000000:=by have:=LS S t;omega
    have k:w2.heap.size<=V.heap.size:=F.out.size
    go_wp2_with (first|(refine zGq rfl 53 _ rfl B rfl 53 _ (0,0) _ Dk.out ((Qz.cO 53).trans Tryz.underlying53) rfl (by kernel_rfl) ?_)|(at_builtin;refine iX rfl _ _ rfl w2.heap.size _ _ rfl D.out ⟨b,d,f⟩ 1 rfl y k ?_;intro g' M l a r))
    go_roundg (N-(t+1))
    case measure=>omega
    case rel=>
     go_light
     refine⟨t+1,by omega,by go_num,dN T.out D.out r G.out.size (zBl G.out.size k),dN F.out D.out r (zAa _) k,?_⟩
     rw[E.out,H.out]
     have hl:(lO S t++[(⟨b,d,f⟩:bK)]).length=(lO S t).length+1:=by simp
     exact a
   .have hq:¬(t:Int)+1=(N:Int):=by omega
    have K:t+1<S.length:=by omega
    have uk:(t:Int)+1<(N:Int):=by omega
    have Wk:IntKind.i64.wrap ((t:Int)+1)=(t:Int)+1:=by rw[zGw];omega
    have ht1:(0:Int)<=(t:Int)+1:=by omega
    have ht2:((t:Int)+1).toNat=t+1:=by omega
    have p1:m.cell? ⟨g,(t+1)*3,aB⟩=aA (aK ⟨S[t+1].idx.toArray⟩):=by have:=K3.out m Cb.out (t+1) _ (zAf K) 0 (by omega);rw[zEv]at this;exact this
    have O:Hid (S[t+1]? =aA S[t+1]):=zAf K
    generalize S[t+1]=v at*
    obtain⟨X,vV,vG⟩:=v
    dsimp only at p1
    go_quiet (fail)
    have Dk:Hid (bB (m.drewN nq) B 53 #[aK ⟨b.toArray⟩,aK ⟨d.toArray⟩,.bool f]):=Ka.out.drewN nq
    have T:Hid (zb w (m.drewN nq)):=below_drewN Ca.out nq
    have F:Hid (zb w2 (m.drewN nq)):=below_drewN Cb.out nq
    have D:Hid (cI (m.drewN nq) w2.heap.size u4 (lO S t)):=Cc.out.kept λ_ _=>rfl
    generalize m.drewN nq=V at*
    have I:((t:Int)+1==(N:Int))=aF:=by rw[zCf];exact hq
    by_cases x:X=b
    .have A:(((t:Int)+1==(N:Int))|| !(X==b))=aF:=by rw[I,x];simp
     have H:Hid ((emit S t).toList=[]):=by
      show(emit S t).toList=_
      unfold emit
      rw[R.out,O.out]
      dsimp only
      rw[zAk x];rfl
     rw[A]
     go_wp2_with fail
     go_roundg (N-(t+1))
     case measure=>omega
     case rel=>
      go_light
      refine⟨t+1,by omega,by go_num,T.out,F.out,?_⟩
      rw[E.out,H.out,zAy]
      exact D.out
    .have A:(((t:Int)+1==(N:Int))|| !(X==b))=aE:=by
      rw[I,zGc,Bool.not_eq_true',zCf];exact x
     have H:Hid ((emit S t).toList=[⟨b,d,f⟩]):=by
      show(emit S t).toList=_
      unfold emit
      rw[R.out,O.out]
      dsimp only
      rw[zAh x];rfl
     rw[A]
     have y:(lO S t).length<=1000000:=by have:=LS S t;omega
     have k:w2.heap.size<=V.heap.size:=F.out.size
     go_wp2_with (first|(refine zGq rfl 53 _ rfl B rfl 53 _ (0,0) _ Dk.out ((Qz.cO 53).trans Tryz.underlying53) rfl (by kernel_rfl) ?_)|(at_builtin;refine iX rfl _ _ rfl w2.heap.size _ _ rfl D.out ⟨b,d,f⟩ 1 rfl y k ?_;intro g' M l a r))
     go_roundg (N-(t+1))
     case measure=>omega
     case rel=>
      go_light
      refine⟨t+1,by omega,by go_num,dN T.out D.out r G.out.size (zBl G.out.size k),dN F.out D.out r (zAa _) k,?_⟩
      rw[E.out,H.out]
      have hl:(lO S t++[(⟨b,d,f⟩:bK)]).length=(lO S t).length+1:=by simp
      exact a
  .obtain rfl:t=N:=by omega
   go_wp2_with fail;go_ret;refine⟨_,rfl,?_,U.out⟩;rw[HN0.out];obtain⟨L,C⟩:=C3.out;refine⟨L,?_⟩;obtain C|⟨gg,cp,cur,e1,e2,e3⟩:=C
   .exact aG C
   .exact aH ⟨gg,cp,cur,e1,zBl G.out.size e2,e3⟩
open Go.RowKit Sha
def LV (u:bK):Bool:=decide (u.idx.length=32)&&(decide (u.val.length<=100)&&(!u.gone||decide (u.val=[])))
def TP (v:zY)(us:List bK)(w:zW)(hl:us.length<=1000)(F:ZX w v us)(hs:∀u∈us,u.idx.length<=1000000/\u.val.length<=1000000):
  Calls zq 38 #[v] w λe R=>e=aL (.bool (us.all LV))/\zb w R:=by
 have X:Hid (ZX w v us):=F
 obtain⟨va,N,rfl,E⟩:∃va N,v=aJ va us.length N/\(0<us.length->∃g o,va=aA ⟨g,o,aB⟩/\g<w.heap.size/\∀j u,(bH us)[j]? =aA u->w.cell? ⟨g,o+j,aB⟩=aA u):=by
  obtain⟨rfl,a,c,rfl⟩|⟨g,o,c,rfl,m,l⟩:=F
  .exact⟨a,c,rfl,λh=>by simp at h⟩
  .exact⟨_,c,rfl,λ_=>⟨g,o,rfl,m,l⟩⟩
 clear F X
 have Z:Hid (∀t,t<=us.length->(∀i u,i<t->us[i]? =aA u->LV u=aE)->t=us.length->us.all LV=aE):=λt _ h e=>by rw[zCa];intro u k;obtain⟨i,z⟩:=List.getElem?_of_mem k;exact h i u (by rw[e];exact(zAi.1 z).1) z
 have L:Hid (∀t u,us[t]? =aA u->LV u=aF->us.all LV=aF):=λt u r m=>by rw[List.all_eq_false];exact⟨u,zCq r,by rw[m];decide⟩
 generalize us.all LV=A at*
 go_enter Qz.func38,Tryz.ntmps38
 go_wp2_with fail
 go_loopg [7] us.length (λq i wr=>∃t:Nat,t+q=us.length/\i=aC aD (t:Int)/\zb w wr/\∀i u,i<t->us[i]? =aA u->LV u=aE)
 case atStart=>exact⟨0,by omega,rfl,zGp _ _,λi u h=>by omega⟩
 case round=>
  obtain⟨t,ht,rfl,b1,Q⟩:=hrel
  have y:Hid (zb w wr):=b1
  have M:Hid (∀i u,i<t->us[i]? =aA u->LV u=aE):=Q
  clear b1 Q
  by_cases bU:t<us.length
  .obtain⟨g,o,rfl,U,P⟩:=E (by omega);have n:Hid (us[t]? =aA us[t]):=zAf bU;have I:=hs us[t] (zCr _);have r0:wr.rangeAt g (o+t*3) us[t].cells:=λj x O=>by
    have T:j<3:=(zAi.1 O).1;rw[y.out.cell (p:=⟨_,_,aB⟩) U,zCv];exact P _ _ (by rw[qU us t _ n.out j T];exact O)
   generalize us[t]=u at*;obtain⟨d,b,f⟩:=u;have r1:wr.rangeAt g (o+t*3) [aK ⟨d.toArray⟩,aK ⟨b.toArray⟩,.bool f]:=r0;clear r0 P;have G:(t:Int)<(us.length:Int):=by omega
   have S:(0:Int)<=(t:Int):=by omega
   go_upto_region 4 with(refine wpList_load_mid rfl 53 _ rfl g (o+t*3) rfl _ _ r1 ((Qz.cO 53).trans Tryz.underlying53) rfl (by kernel_rfl) ?_)
   have K:Hid (bB (wr.alloc (aI #[aK ⟨d.toArray⟩,aK ⟨b.toArray⟩,.bool f] 53)) wr.heap.size 53 #[aK ⟨d.toArray⟩,aK ⟨b.toArray⟩,.bool f]):=bB.new _ _ _
   have C:Hid (zb w (wr.alloc (aI #[aK ⟨d.toArray⟩,aK ⟨b.toArray⟩,.bool f] 53))):=y.out.alloc y.out.size _
   generalize wr.alloc (aI #[aK ⟨d.toArray⟩,aK ⟨b.toArray⟩,.bool f] 53)=D at*
   clear y r1
   generalize wr.heap.size=B at*
   have p0:D.cell? ⟨B,0,aB⟩=aA (aK ⟨d.toArray⟩):=by rw[K.out.cell];rfl
   have p1:D.cell? ⟨B,1,aB⟩=aA (aK ⟨b.toArray⟩):=by rw[K.out.cell];rfl
   have p2:D.cell? ⟨B,2,aB⟩=aA (.bool f):=by rw[K.out.cell];rfl
   dsimp only at I
   have s0:(⟨d.toArray⟩:ByteArray).size=d.length:=by simp[ByteArray.size]
   have s1:(⟨b.toArray⟩:ByteArray).size=b.length:=by simp[ByteArray.size]
   by_cases r:d.length=32
   .by_cases m:b.length<=100
    .have J:¬(100:Int)<(b.length:Int):=by omega
     cases f with
     |false=>
      have H:LV ⟨d,b,aF⟩=aE:=by simp[LV,r,m]
      go_wp2_with fail
      go_roundg (us.length-(t+1))
      case measure=>omega
      case rel=>
       go_light
       refine⟨t+1,by omega,by go_num,C.out,λi u z k=> ?_⟩
       by_cases e:i=t
       .subst e;rw[n.out]at k;rw[<-zAm k];exact H
       .exact M.out i u (by omega) k
     |true=>
      by_cases l:b=[]
      .have H:LV ⟨d,b,aE⟩=aE:=by simp[LV,r,l]
       subst l;go_wp2_with fail;go_roundg (us.length-(t+1));case measure=>omega
       case rel=>
        go_light
        refine⟨t+1,by omega,by go_num,C.out,λi u z k=> ?_⟩
        by_cases e:i=t
        .subst e;rw[n.out]at k;rw[<-zAm k];exact H
        .exact M.out i u (by omega) k
      .have H:LV ⟨d,b,aE⟩=aF:=by simp[LV,l]
       have V:b.isEmpty=aF:=by simpa using l
       have s:Hid (A=aF):=L.out t _ n.out H
       go_wp2_with fail
       go_ret
       exact⟨by rw[s.out];rfl,C.out⟩
    .have J:(100:Int)<(b.length:Int):=by omega
     have H:LV ⟨d,b,f⟩=aF:=by simp[LV,m]
     have s:Hid (A=aF):=L.out t _ n.out H
     go_wp2_with fail
     go_ret
     exact⟨by rw[s.out];rfl,C.out⟩
   .have W:¬(d.length:Int)=32:=by omega
    have H:LV ⟨d,b,f⟩=aF:=by simp[LV,r]
    have s:Hid (A=aF):=L.out t _ n.out H
    go_wp2_with fail
    go_ret
    exact⟨by rw[s.out];rfl,C.out⟩
  .have Y:Hid (A=aE):=Z.out t (by omega) M.out (by omega);have G:¬(t:Int)<(us.length:Int):=by omega
   go_wp2_with fail;go_ret;exact⟨by rw[Y.out];rfl,y.out⟩
def vD (I:zB)(us:List bK):Bool:=us.any λx=>x.idx==I
structure Vr (I:zB)(us:List bK)(m:Nat)(b:Bool):Prop where
 le:m<=us.length
 low:∀i u,i<m->us[i]? =aA u->aDw u.idx I= -1
 high:∀i u,m<=i->us[i]? =aA u->aDw u.idx I=0\/aDw u.idx I=1
 at':∀u,us[m]? =aA u->(aDw u.idx I=0↔b=aE)
 no:us.length<=m->b=aF
def Ba {I:zB}{us:List bK}{u:bK}(h:u∈jH I us):aDw u.idx I= -1:=of_decide_eq_true (zBz.1 h).2
def TT {I:zB}{us:List bK}{u:bK}(h:u∈iH I us):aDw u.idx I=1:=of_decide_eq_true (zBz.1 h).2
def Ug {I:zB}{us:List bK}(k:JM us):Vr I us (jH I us).length (vD I us):=by
 obtain⟨x,d,e⟩|⟨e,g⟩:=AW I us k
 .have j:vD I us=aE:=zFq.2 ⟨x,by rw[e];simp,by rw[d];exact zEp _⟩;rw[j];have c:∀i:Nat,us[i]? =(jH I us++x::iH I us)[i]? :=λi=>by rw[<-e]
  have l:us.length=(jH I us).length+(1+(iH I us).length):=by have:=congrArg List.length e;rw[zAj,zAe]at this;omega
  refine⟨by omega,λi u b a=> ?_,λi u b a=> ?_,λu a=> ?_,λh=>by omega⟩
  .rw[c,zCe b]at a;exact Ba (zCq a)
  .rw[c,zBq b]at a;obtain rfl|h:=zAg.1 (zCq a)
   .left;rw[d];exact eD _
   .exact aH (TT h)
  .rw[c,zBq (zAa _),zGa]at a;simp only[zDc,Option.some.injEq]at a;subst a;rw[d,eD];simp
 .have j:vD I us=aF:=by
   rw[zFm];intro h;obtain⟨x,d,m⟩:=zFq.1 h;exact g x d (zCk.1 m)
  rw[j];have c:∀i:Nat,us[i]? =(jH I us++iH I us)[i]? :=λi=>by rw[<-e]
  have l:us.length=(jH I us).length+(iH I us).length:=by have:=congrArg List.length e;rw[zAj]at this;exact this
  have f:∀(i:Nat) u,(jH I us).length<=i->us[i]? =aA u->aDw u.idx I=1:=λi u b a=>by rw[c,zBq b]at a;exact TT (zCq a)
  refine⟨by omega,λi u b a=> ?_,λi u b a=>aH (f i u b a),λu a=> ?_,λ_=>rfl⟩
  .rw[c,zCe b]at a;exact Ba (zCq a)
  .rw[f _ u (zAa _) a];simp
def MQ (u:bK)(I:zB)(w:zW):
  Calls zq 176 #[.agg #[aK ⟨u.idx.toArray⟩,aK ⟨u.val.toArray⟩,.bool u.gone],aK ⟨I.toArray⟩] w λe a=>e=aL (aC aD (aDw u.idx I))/\zb w a:=by
 have B:Hid (zb w (w.alloc (aI #[aK ⟨u.idx.toArray⟩,aK ⟨u.val.toArray⟩,.bool u.gone] 53))):=(zGp _ _).alloc (zAa _) _
 go_enter Qz.func176,Tryz.ntmps176
 go_wp2_with fail
 refine(Qz.strings_Compare ⟨u.idx.toArray⟩ ⟨I.toArray⟩ _).mono ?_
 rintro e w2 ⟨rfl,rfl⟩
 dsimp only
 go_wp2
 go_ret
 exact⟨by simp,B.out⟩
def VA (I:zB)(us:List bK)(m:Nat)(b:Bool)(va:zO)(c:Nat)(w:zW)(L:bI w va us)(A:Vr I us m b)(P:us.length<=1000000):
  Calls zq 175 #[aJ va us.length c,aK ⟨I.toArray⟩,.func (.func 176) #[] #[]] w λe O=>e=aL (.tuple #[aC aD m,.bool b])/\zb w O:=by
 have M:Hid (bI w va us):=L
 have t:Hid (Vr I us m b):=A
 have J:=A.le
 obtain⟨n,C⟩:∃n,n=us.length:=⟨_,rfl⟩
 have H:Hid (n=us.length):=C
 rw[<-C]at P J⊢
 clear L A C
 go_enter Qz.func175,Tryz.ntmps175
 go_wp2_with fail
 go_loopg [9,10] n (λq x y wr=>∃i j:Nat,j-i=q/\x=aC aD (i:Int)/\y=aC aD (j:Int)/\i<=m/\m<=j/\j<=n/\zb w wr)
 case atStart=>exact⟨0,n,by omega,rfl,rfl,by omega,J,zAa _,zGp _ _⟩
 case round=>
  obtain⟨i,j,hq,rfl,rfl,U,R,Q,b1⟩:=hrel
  have B:Hid (zb w wr):=b1
  have p:=b1.size
  clear b1
  by_cases bU:i<j
  .have D:0<=(i:Int)+(j:Int):=by omega
   have z:(i:Int)+(j:Int)<=2000000:=by omega
   obtain⟨h,W⟩:∃h:Nat,h=(i+j)/2:=⟨_,rfl⟩
   have K:Hid (((i:Int)+(j:Int))/2=(h:Int)):=by show _=_;omega
   have T:i<=h:=by omega
   have V:h<j:=by omega
   have d:=zAf (l:=us) (i:=h) (by have:=H.out;omega)
   generalize us[h]'(by have:=H.out;omega)=u at d
   obtain⟨g,o,G,X,v,k1,k2⟩:=(M.out.below B.out (zAa _)).idx h u d
   subst G
   have s:Hid (us[h]? =aA u):=d
   have F:¬((h:Int)<0):=by omega
   have E:(h:Int)<(n:Int):=by omega
   clear d
   clear W
   go_upto_region 5 with(fail)
   rw[K.out]
   clear D z K
   go_wp2_with fail
   refine(MQ u I wr).mono ?_
   rintro e w2 ⟨rfl,a⟩
   have r:Hid (zb w w2):=aV B.out a p
   clear B a v k1 k2
   dsimp only
   obtain f|f:=zDx h m
   .rw[t.out.low h u f s.out];go_wp2;go_roundg (j-(h+1));case measure=>omega
    case rel=>
     go_light
     exact⟨h+1,j,rfl,by go_num,rfl,by omega,R,by omega,r.out⟩
   .obtain k|k:=t.out.high h u f s.out;all_goals
     rw[k]
     go_wp2
     go_roundg (h-i)
     case measure=>omega
     case rel=>
      go_light
      exact⟨i,h,rfl,rfl,rfl,U,f,by omega,r.out⟩
  .obtain rfl:i=j:=by omega
   obtain rfl:i=m:=by omega
   by_cases S:i<n
   .have d:=zAf (l:=us) (i:=i) (by have:=H.out;omega);generalize us[i]'(by have:=H.out;omega)=u at d;obtain⟨g,o,G,X,v,k1,k2⟩:=(M.out.below B.out (zAa _)).idx i u d;subst G;have s:Hid (us[i]? =aA u):=d;have F:¬((i:Int)<0):=by omega
    have E:(i:Int)<(n:Int):=by omega
    clear d
    have N:Hid (aDw u.idx I=0↔b=aE):=t.out.at' u s.out
    go_wp2_with fail
    refine(MQ u I wr).mono ?_
    rintro e w2 ⟨rfl,a⟩
    have r:Hid (zb w w2):=aV B.out a p
    clear B a v k1 k2
    dsimp only
    by_cases k:aDw u.idx I=0
    .have a:=N.out.1 k;subst a;rw[k];go_wp2;go_ret2;exact⟨rfl,r.out⟩
    .have a:b=aF:=by rw[zFm];exactλh=>k (N.out.2 h)
     subst a;generalize aDw u.idx I=Z at*;have Y:(Z==0)=aF:=by simpa using k
     go_wp2
     go_ret2
     exact⟨rfl,r.out⟩
   .have a:=t.out.no (by have:=H.out;omega);subst a;go_wp2;go_ret2;exact⟨rfl,B.out⟩
def UD (I:zB)(us:List bK)(va:zO)(c:Nat)(w:zW)(a:bI w va us)(h:JM us)(f:us.length<=1000000):
  Calls zq 164 #[aJ va us.length c,aK ⟨I.toArray⟩] w λe d=>e=aL (.tuple #[aC aD (jH I us).length,.bool (vD I us)])/\zb w d:=by
 have H:=VA I us _ _ va c w a (Ug h) f
 clear a h
 generalize(jH I us).length=m at*
 generalize vD I us=b at*
 go_enter Qz.func164,Tryz.ntmps164
 go_wp2_with fail
 refine H.mono ?_
 clear H
 rintro e w2 ⟨rfl,hb⟩
 have B:Hid (zb w w2):=hb
 clear hb
 dsimp only
 go_wp2
 go_ret2
 exact⟨rfl,B.out⟩
def gS:Nat->List bK->List bK->Nat->Nat
 |0,us,cs,_=>if us.length=0\/cs.length=0 then 0 else if vD ((us.headD ⟨[],[],aF⟩).idx) cs then 1 else 0
 |f+1,us,cs,d=>if us.length=0\/cs.length=0 then 0 else if us.length<2 then(if vD ((us.headD ⟨[],[],aF⟩).idx) cs then 1 else 0)
   else 1+(gS f (dW d 0 us) (dW d 0 cs) (d+1)+gS f (dW d 1 us) (dW d 1 cs) (d+1))
def iU (f:Nat)(us cs:List bK)(d:Nat)(h:us.length=0\/cs.length=0):gS f us cs d=0:=by cases f<;>rw[gS,zAk h]
def wQ (f:Nat)(u:bK)(cs:List bK)(d:Nat)(h:0<cs.length):gS f [u] cs d=if vD u.idx cs then 1 else 0:=by
 cases f with
 |zero=>rw[gS,zAh (λe=>by obtain e|e:=e<;>simp at e;rw[e]at h;simp at h)];rfl
 |succ f=>rw[gS,zAh (λe=>by obtain e|e:=e<;>simp at e;rw[e]at h;simp at h),zAk (by simp)];rfl
def DO (f:Nat)(us cs:List bK)(d:Nat)(a:2<=us.length)(h:0<cs.length):gS (f+1) us cs d=1+(gS f (dW d 0 us) (dW d 0 cs) (d+1)+gS f (dW d 1 us) (dW d 1 cs) (d+1)):=by rw[gS,zAh (by omega),zAh (by omega)]
def TZ:∀(f:Nat)(us cs:List bK)(e:List gL)(d:Nat),256-d=f->Sub us d->fJ e->Diff cs (bF us) e->gS f us cs d<=XU (bF us) e d:=by
 intro f;induction f with
 |zero=>
  intro us cs e d s g o i;match us,g,i with
  |[],_,_=>rw[iU _ _ _ _ (aG rfl)];exact zBp _
  |[u],g,i=>
   by_cases p:cs.length=0
   .rw[iU _ _ _ _ (aH p)];exact zBp _
   .rw[wQ _ _ _ _ (by omega)];split
    .rename_i h;obtain⟨c,k,j⟩:=zFq.1 h;exact MA o i k (zCk.1 j)
    .exact zBp _
  |a::b::l,g,_=>have:=g.deep (by simp);omega
 |succ f r=>
  intro us cs e d s g o i;match us,g,i with
  |[],_,_=>rw[iU _ _ _ _ (aG rfl)];exact zBp _
  |[u],g,i=>
   by_cases p:cs.length=0
   .rw[iU _ _ _ _ (aH p)];exact zBp _
   .rw[wQ _ _ _ _ (by omega)];split
    .rename_i h;obtain⟨c,k,j⟩:=zFq.1 h;exact MA o i k (zCk.1 j)
    .exact zBp _
  |a::b::l,g,i=>
   have q:2<=(a::b::l).length:=by simp
   generalize a::b::l=us at*
   by_cases p:cs.length=0
   .rw[iU _ _ _ _ (aH p)];exact zBp _
   .rw[DO _ _ _ _ q (by omega),<-Ey i q (by omega) (g.deep q)];have i0:=r (dW d 0 us) (dW d 0 cs) (cL e d 0) (d+1) (by omega) (g.half 0) (o.half d 0) (by rw[fX];exact i.half d 0);have i1:=r (dW d 1 us) (dW d 1 cs) (cL e d 1) (d+1) (by omega) (g.half 1) (o.half d 1) (by rw[fX];exact i.half d 1);omega
def BO:∀(f:Nat)(us cs:List bK)(d:Nat),gS f us cs d<=(f+1)*us.length:=by
 intro f;induction f with
 |zero=>
  intro us cs d;rw[gS];split
  .exact zBp _
  .split
   .omega
   .exact zBp _
 |succ f i=>
  intro us cs d;rw[gS];split
  .exact zBp _
  .rename_i h;have g:1<=us.length:=by omega
   have b:us.length<=(f+1+1)*us.length:=Nat.le_mul_of_pos_left _ (by omega);split
   .split
    .omega
    .exact zBp _
   .have i0:=i (dW d 0 us) (dW d 0 cs) (d+1);have i1:=i (dW d 1 us) (dW d 1 cs) (d+1);have a:=Mt us d;have:(f+1)*(dW d 0 us).length+(f+1)*(dW d 1 us).length=(f+1)*us.length:=by rw[<-Nat.mul_add,a]
    have e:(f+1+1)*us.length=(f+1)*us.length+us.length:=by rw[zFd (f+1) 1,Nat.one_mul]
    omega
section
variable {d c cc n m:Nat}{va vb:zO}{w:zW}
def IL (d c cc n m:Nat)(va vb:zO)(w:zW)(h:n=0\/m=0):
  Calls zq 162 #[.agg #[aC aD d,aJ va n c],.agg #[aC aD d,aJ vb m cc]] w λe b=>e=aL (aC aD 0)/\zb w b:=by
 have a:∀(v:zW)(o:Obj),(v.alloc o).heap.size=v.heap.size+1:=λv o=>zBb ..
 have b0:Hid (zb w ((w.alloc (aI #[aC aD (d:Int),aJ va n c] 209)).alloc (aI #[aC aD (d:Int),aJ vb m cc] 209))):=((zGp _ _).alloc (zAa _) _).alloc (by rw[a];omega) _
 have k:Hid (bB ((w.alloc (aI #[aC aD (d:Int),aJ va n c] 209)).alloc (aI #[aC aD (d:Int),aJ vb m cc] 209)) w.heap.size 209 #[aC aD (d:Int),aJ va n c]):=(bB.new _ _ _).alloc _
 have k1:Hid (bB ((w.alloc (aI #[aC aD (d:Int),aJ va n c] 209)).alloc (aI #[aC aD (d:Int),aJ vb m cc] 209)) (w.heap.size+1) 209 #[aC aD (d:Int),aJ vb m cc]):=by have:=bB.new (w.alloc (aI #[aC aD (d:Int),aJ va n c] 209)) 209 #[aC aD (d:Int),aJ vb m cc];rw[a]at this;exact this
 clear a
 go_enter Qz.func162,Tryz.ntmps162
 go_upto_region 1 with(fail)
 generalize(w.alloc (aI #[aC aD (d:Int),aJ va n c] 209)).alloc (aI #[aC aD (d:Int),aJ vb m cc] 209)=w0 at*
 have f1:w0.cell? ⟨w.heap.size,1,aB⟩=aA (aJ va n c):=(k.out.cell 1).trans rfl
 have f2:w0.cell? ⟨w.heap.size+1,1,aB⟩=aA (aJ vb m cc):=(k1.out.cell 1).trans rfl
 by_cases g:n=0
 .subst g;go_wp2;go_ret;exact⟨rfl,b0.out⟩
 .have i:m=0:=by omega
  subst i;have f:¬((n:Int)=0):=by omega
  go_wp2
  go_ret
  exact⟨rfl,b0.out⟩
def Fp (d c cc m:Nat)(va vb:zO)(u:bK)(cs:List bK)(w:zW)(z:bI w va [u])(A:bI w vb cs)(t:JM cs)(x:cs.length=m)(K:0<m)(J:m<=1000000):
  Calls zq 162 #[.agg #[aC aD d,aJ va 1 c],.agg #[aC aD d,aJ vb m cc]] w λe D=>e=aL (aC aD (if vD u.idx cs then 1 else 0))/\zb w D:=by
 have b:∀(v:zW)(r:Obj),(v.alloc r).heap.size=v.heap.size+1:=λv r=>zBb ..
 have b0:Hid (zb w ((w.alloc (aI #[aC aD (d:Int),aJ va 1 c] 209)).alloc (aI #[aC aD (d:Int),aJ vb m cc] 209))):=((zGp _ _).alloc (zAa _) _).alloc (by rw[b];omega) _
 have k:Hid (bB ((w.alloc (aI #[aC aD (d:Int),aJ va 1 c] 209)).alloc (aI #[aC aD (d:Int),aJ vb m cc] 209)) w.heap.size 209 #[aC aD (d:Int),aJ va 1 c]):=(bB.new _ _ _).alloc _
 have k1:Hid (bB ((w.alloc (aI #[aC aD (d:Int),aJ va 1 c] 209)).alloc (aI #[aC aD (d:Int),aJ vb m cc] 209)) (w.heap.size+1) 209 #[aC aD (d:Int),aJ vb m cc]):=by have:=bB.new (w.alloc (aI #[aC aD (d:Int),aJ va 1 c] 209)) 209 #[aC aD (d:Int),aJ vb m cc];rw[b]at this;exact this
 clear b
 have C:Hid (bI w va [u]):=z
 have p:=λW (f:zb w W)=>UD u.idx cs vb cc W (A.below f (zAa _)) t (by omega)
 rw[x]at p
 have H:Hid _:=p
 clear z A t p x
 generalize(jH u.idx cs).length=pos at*
 generalize vD u.idx cs=i at*
 go_enter Qz.func162,Tryz.ntmps162
 go_upto_region 1 with(fail)
 generalize(w.alloc (aI #[aC aD (d:Int),aJ va 1 c] 209)).alloc (aI #[aC aD (d:Int),aJ vb m cc] 209)=w0 at*
 have f1:w0.cell? ⟨w.heap.size,1,aB⟩=aA (aJ va 1 c):=(k.out.cell 1).trans rfl
 have f2:w0.cell? ⟨w.heap.size+1,1,aB⟩=aA (aJ vb m cc):=(k1.out.cell 1).trans rfl
 have F:¬((m:Int)=0):=by omega
 go_wp2_with (refine zGq rfl 209 _ rfl w.heap.size rfl 209 _ (0,0) _ k.out ((Qz.cO 209).trans Tryz.underlying209) rfl (by kernel_rfl) ?_)
 refine(tP d 1 c va w0 (by omega)).mono ?_
 rintro e w1 ⟨rfl,h⟩
 have B:Hid (zb w w1):=aV b0.out h b0.out.size
 have K0:Hid (bB w1 w.heap.size 209 #[aC aD (d:Int),aJ va 1 c]):=k.out.below h k.out.lt
 have K1:Hid (bB w1 (w.heap.size+1) 209 #[aC aD (d:Int),aJ vb m cc]):=k1.out.below h k1.out.lt
 clear h b0 k k1 f1 f2
 dsimp only
 rw[show decide (1<2)=aE from rfl]
 go_upto_region 4 with(fail)
 obtain⟨g,o,rfl,G,j,_,_⟩:=(C.out.below B.out (zAa _)).idx 0 u rfl
 rw[zEs,zEv]at j
 have q0:=dG j G
 have q1:=dG ((K0.out.cell 1).trans (rfl:_=aA (Value.slice (aA ⟨g,o,aB⟩) 1 c))) K0.out.lt
 have E:=dG ((K1.out.cell 1).trans (rfl:_=aA (Value.slice vb m cc))) K1.out.lt
 have l:=quiet_of (w:=w1) λW f=>H.out W (aV B.out f B.out.size).out
 clear H K0 K1 C j
 refine zGv (by kernel_rfl) (by kernel_rfl) ?_
 repeat (any_goals(first|go_big_quiet_step (exact l.out _ _)|quiet_step (exact l.out _ _)))
 refine zHc ?_
 intro I a
 obtain⟨q,s⟩:=a
 have y:Hid (zb w I):=by rw[s];exact B.out.trans ((zGr w1 q.d q.os).mono B.out.size)
 clear s l q0 q1 E
 cases i with
 |true=>go_wp2;go_ret;exact⟨rfl,y.out⟩
 |false=>go_wp2;go_ret;exact⟨rfl,y.out⟩
def YP (d c cc n m p q:Nat)(va vb:zO)(us cs:List bK)(w:zW)(hd:d<=255)(h2:2<=us.length)(hn:us.length=n)(hm:cs.length=m)(h0:0<m)(hl:n<=1000000)(bq:m<=1000000)(hc:n<=c)(Wp:m<=cc)
  (I:∀u∈us,u.idx.length=32) (z:∀u∈cs,u.idx.length=32) (hcut:Cut us d p) (i:Cut cs d q) (hE:bI w va us) (hC:bI w vb cs) (X Y:Nat) (hX:X<=1000000000) (hY:Y<=1000000000)
  (hx:∀W,zb w W->Calls zq 162 #[.agg #[aC aD ((d:Int)+1),aJ va p c],.agg #[aC aD ((d:Int)+1),aJ vb q cc]] W λe w'=>e=aL (aC aD X)/\zb W w')
  (hy:∀a c' f g W,n-p<=c'->(p<n->a=va.map λx=>x.add (p*3))->m-q<=g->(q<m->f=vb.map λx=>x.add (q*3))->zb w W->Calls zq 162 #[.agg #[aC aD ((d:Int)+1),aJ a (n-p) c'],.agg #[aC aD ((d:Int)+1),aJ f (m-q) g]] W λe w'=>e=aL (aC aD Y)/\zb W w'):
  Calls zq 162 #[.agg #[aC aD d,aJ va n c],.agg #[aC aD d,aJ vb m cc]] w λe w'=>e=aL (aC aD ((1:Int)+X+Y))/\zb w w':=by
 have O:∀(v:zW)(E:Obj),(v.alloc E).heap.size=v.heap.size+1:=λv E=>zBb ..
 have b0:Hid (zb w ((w.alloc (aI #[aC aD (d:Int),aJ va n c] 209)).alloc (aI #[aC aD (d:Int),aJ vb m cc] 209))):=((zGp _ _).alloc (zAa _) _).alloc (by rw[O];omega) _
 have F:Hid (bB ((w.alloc (aI #[aC aD (d:Int),aJ va n c] 209)).alloc (aI #[aC aD (d:Int),aJ vb m cc] 209)) w.heap.size 209 #[aC aD (d:Int),aJ va n c]):=(bB.new _ _ _).alloc _
 have k1:Hid (bB ((w.alloc (aI #[aC aD (d:Int),aJ va n c] 209)).alloc (aI #[aC aD (d:Int),aJ vb m cc] 209)) (w.heap.size+1) 209 #[aC aD (d:Int),aJ vb m cc]):=by have:=bB.new (w.alloc (aI #[aC aD (d:Int),aJ va n c] 209)) 209 #[aC aD (d:Int),aJ vb m cc];rw[O]at this;exact this
 clear O
 have HX:Hid (∀W,zb w W->Calls zq 162 #[.agg #[aC aD ((d:Int)+1),aJ va p c],.agg #[aC aD ((d:Int)+1),aJ vb q cc]] W λe w'=>e=aL (aC aD X)/\zb W w'):=hx
 have HY:Hid (∀a c' f g W,n-p<=c'->(p<n->a=va.map λx=>x.add (p*3))->m-q<=g->(q<m->f=vb.map λx=>x.add (q*3))->zb w W->Calls zq 162 #[.agg #[aC aD ((d:Int)+1),aJ a (n-p) c'],.agg #[aC aD ((d:Int)+1),aJ f (m-q) g]] W λe w'=>e=aL (aC aD Y)/\zb W w'):=hy
 have C:=λW (o:zb w W)=>oL d p c va us W (by omega) (by omega) hd (hE.below o (zAa _)) I hcut
 have H:=λW (o:zb w W)=>oL d q cc vb cs W (by omega) (by omega) hd (hC.below o (zAa _)) z i
 have Q:=hcut.le
 have P:=i.le
 rw[hn]at C Q h2
 rw[hm]at H P
 have H1:Hid _:=C
 have H2:Hid _:=H
 clear hE hC I z hcut i hx hy C H hn hm
 go_enter Qz.func162,Tryz.ntmps162
 go_upto_region 1 with(fail)
 generalize(w.alloc (aI #[aC aD (d:Int),aJ va n c] 209)).alloc (aI #[aC aD (d:Int),aJ vb m cc] 209)=w0 at*
 have f1:w0.cell? ⟨w.heap.size,1,aB⟩=aA (aJ va n c):=(F.out.cell 1).trans rfl
 have f2:w0.cell? ⟨w.heap.size+1,1,aB⟩=aA (aJ vb m cc):=(k1.out.cell 1).trans rfl
 have R:¬((n:Int)=0):=by omega
 have S:¬((m:Int)=0):=by omega
 have hnb:((n:Int)==0)=aF:=zCf.2 R
 have hmb:((m:Int)==0)=aF:=zCf.2 S
 go_wp2_with (refine zGq rfl 209 _ rfl w.heap.size rfl 209 _ (0,0) _ F.out ((Qz.cO 209).trans Tryz.underlying209) rfl (by kernel_rfl) ?_)
 refine(tP d n c va w0 (by omega)).mono ?_
 rintro e w1 ⟨rfl,l⟩
 have M:Hid (zb w w1):=aV b0.out l b0.out.size
 have K0:Hid (bB w1 w.heap.size 209 #[aC aD (d:Int),aJ va n c]):=F.out.below l F.out.lt
 have K1:Hid (bB w1 (w.heap.size+1) 209 #[aC aD (d:Int),aJ vb m cc]):=k1.out.below l k1.out.lt
 clear l b0 F k1 f1 f2
 dsimp only
 rw[show decide (n<2)=aF from zCy (by omega)]
 go_wp2_with (refine zGq rfl 209 _ rfl w.heap.size rfl 209 _ (0,0) _ K0.out ((Qz.cO 209).trans Tryz.underlying209) rfl (by kernel_rfl) ?_)
 refine(H1.out w1 M.out).mono ?_
 rintro e w2 ⟨a,c',rfl,T,y,_,A⟩
 have B2:Hid (zb w w2):=aV M.out A M.out.size
 have Z:Hid (bB w2 (w.heap.size+1) 209 #[aC aD (d:Int),aJ vb m cc]):=K1.out.below A K1.out.lt
 have K:Hid (p<n->a=Option.map (λx=>x.add (p*3)) va):=y
 clear A M K0 K1 H1 y
 dsimp only
 go_upto_region 9 with(fail)
 have j:∀(v:zW)(E:Obj),(v.alloc E).heap.size=v.heap.size+1:=λv E=>zBb ..
 have B:Hid (zb w2 ((w2.alloc (aI #[aC aD ((d:Int)+1),aJ va p c] 209)).alloc (aI #[aC aD ((d:Int)+1),aJ a (n-p) c'] 209))):=((zGp _ _).alloc (zAa _) _).alloc (by rw[j];omega) _
 have ka:Hid (bB ((w2.alloc (aI #[aC aD ((d:Int)+1),aJ va p c] 209)).alloc (aI #[aC aD ((d:Int)+1),aJ a (n-p) c'] 209)) w2.heap.size 209 #[aC aD ((d:Int)+1),aJ va p c]):=(bB.new _ _ _).alloc _
 have kb:Hid (bB ((w2.alloc (aI #[aC aD ((d:Int)+1),aJ va p c] 209)).alloc (aI #[aC aD ((d:Int)+1),aJ a (n-p) c'] 209)) (w2.heap.size+1) 209 #[aC aD ((d:Int)+1),aJ a (n-p) c']):=by have:=bB.new (w2.alloc (aI #[aC aD ((d:Int)+1),aJ va p c] 209)) 209 #[aC aD ((d:Int)+1),aJ a (n-p) c'];rw[j]at this;exact this
 generalize(w2.alloc (aI #[aC aD ((d:Int)+1),aJ va p c] 209)).alloc (aI #[aC aD ((d:Int)+1),aJ a (n-p) c'] 209)=w3 at*
 have L:Hid (zb w w3):=aV B2.out B.out B2.out.size
 have K3:Hid (bB w3 (w.heap.size+1) 209 #[aC aD (d:Int),aJ vb m cc]):=Z.out.below B.out Z.out.lt
 clear B2 Z B
 go_wp2_with (refine zGq rfl 209 _ rfl (w.heap.size+1) rfl 209 _ (0,0) _ K3.out ((Qz.cO 209).trans Tryz.underlying209) rfl (by kernel_rfl) ?_)
 refine(H2.out w3 L.out).mono ?_
 rintro e w4 ⟨f,g,rfl,G,t,_,k⟩
 have B4:Hid (zb w w4):=aV L.out k L.out.size
 have V:Hid (bB w4 w2.heap.size 209 #[aC aD ((d:Int)+1),aJ va p c]):=ka.out.below k ka.out.lt
 have U:Hid (bB w4 (w2.heap.size+1) 209 #[aC aD ((d:Int)+1),aJ a (n-p) c']):=kb.out.below k kb.out.lt
 have J:Hid (q<m->f=Option.map (λx=>x.add (q*3)) vb):=t
 clear k L K3 ka kb H2 t
 dsimp only
 go_upto_region 10 with(fail)
 have s:Hid (zb w4 ((w4.alloc (aI #[aC aD ((d:Int)+1),aJ vb q cc] 209)).alloc (aI #[aC aD ((d:Int)+1),aJ f (m-q) g] 209))):=((zGp _ _).alloc (zAa _) _).alloc (by rw[j];omega) _
 have kc:Hid (bB ((w4.alloc (aI #[aC aD ((d:Int)+1),aJ vb q cc] 209)).alloc (aI #[aC aD ((d:Int)+1),aJ f (m-q) g] 209)) w4.heap.size 209 #[aC aD ((d:Int)+1),aJ vb q cc]):=(bB.new _ _ _).alloc _
 have kd:Hid (bB ((w4.alloc (aI #[aC aD ((d:Int)+1),aJ vb q cc] 209)).alloc (aI #[aC aD ((d:Int)+1),aJ f (m-q) g] 209)) (w4.heap.size+1) 209 #[aC aD ((d:Int)+1),aJ f (m-q) g]):=by have:=bB.new (w4.alloc (aI #[aC aD ((d:Int)+1),aJ vb q cc] 209)) 209 #[aC aD ((d:Int)+1),aJ f (m-q) g];rw[j]at this;exact this
 generalize(w4.alloc (aI #[aC aD ((d:Int)+1),aJ vb q cc] 209)).alloc (aI #[aC aD ((d:Int)+1),aJ f (m-q) g] 209)=w5 at*
 have D:Hid (zb w w5):=aV B4.out s.out B4.out.size
 have HA:=quiet_of (w:=w5) λW o=>HX.out W (aV D.out o D.out.size).out
 have HB:=quiet_of (w:=w5) λW o=>HY.out a c' f g W T K.out G J.out (aV D.out o D.out.size).out
 have back:∀{b:Nat}{cells:zA},bB w5 b 209 cells->Hid (∀W,(∃p:Regrown,W=Go.Sort.grow (redrawn w5 p.d) p.os)->bB W b 209 cells):=λh W o=>by obtain⟨p,rfl⟩:=o;exact h.below (zGr w5 p.d p.os) h.lt
 have KA:=back (V.out.below s.out V.out.lt)
 have KB:=back (U.out.below s.out U.out.lt)
 have KC:=back kc.out
 have KD:=back kd.out
 clear HX HY K J B4 s V U kc kd j back
 refine zGv (by kernel_rfl) (by kernel_rfl) ?_
 repeat (any_goals(first
  |(refine eI rfl 209 _ rfl w2.heap.size rfl 209 #[aC aD ((d:Int)+1),aJ va p c] _ KA.out ((Qz.cO 209).trans Tryz.underlying209) rfl (by kernel_rfl) ?_)
  |(refine eI rfl 209 _ rfl (w2.heap.size+1) rfl 209 #[aC aD ((d:Int)+1),aJ a (n-p) c'] _ KB.out ((Qz.cO 209).trans Tryz.underlying209) rfl (by kernel_rfl) ?_)
  |(refine eI rfl 209 _ rfl w4.heap.size rfl 209 #[aC aD ((d:Int)+1),aJ vb q cc] _ KC.out ((Qz.cO 209).trans Tryz.underlying209) rfl (by kernel_rfl) ?_)
  |(refine eI rfl 209 _ rfl (w4.heap.size+1) rfl 209 #[aC aD ((d:Int)+1),aJ f (m-q) g] _ KD.out ((Qz.cO 209).trans Tryz.underlying209) rfl (by kernel_rfl) ?_)
  |go_big_quiet_step ((first|exact HA.out _ _|exact HB.out _ _))|quiet_step ((first|exact HA.out _ _|exact HB.out _ _))))
 refine zHc ?_
 intro W1 N
 obtain⟨r,hr⟩:=N
 have hb:Hid (zb w W1):=by rw[hr];exact D.out.trans ((zGr w5 r.d r.os).mono D.out.size)
 clear hr HA HB KA KB KC KD
 go_wp2
 go_ret
 exact⟨rfl,hb.out⟩
end
end Go.Proofs.Zq
