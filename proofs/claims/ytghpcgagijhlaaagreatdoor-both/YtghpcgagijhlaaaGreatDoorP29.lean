import Derived.Shelf.Strconv.Clone
import Derived.Test.YtghpcgagijhlaaaGreatDoorP28
set_option linter.all false
set_option maxRecDepth 100000
set_option maxHeartbeats 16000000
open Option renaming some->aA,none->aB
open Bool renaming true->aE,false->aF
open Or renaming inl->aG,inr->aH
open Go.Ending renaming returned->aL
open Go.Obj renaming cells->aI
open Go.IntKind renaming i64->aD,u8->aP
open Go.Value renaming slice->aJ,string->aK,int->aC
open UInt8 renaming ofNat->aDv
namespace Go.Proofs
open Go.Shelf
def Qz.OR:Go.Shelf.Ren:=⟨λ|316=>100|n=>n,λ|9=>9|3=>3|4=>4|37=>50|0=>0|127=>184|5=>5|n=>n,λ|n=>n⟩
def Qz.Kf:Go.Proofs.LaysM.n316 zq Qz.OR:={
 mixed:=by kernel_rfl
 f316:=Qz.func100.trans (congrArg aA (by kernel_rfl))
 t0:=((Qz.cO 0).trans Tryz.underlying0)
 a0:=(λw=>(Qz.isAgg w 0).trans (Tryz.isAgg0 w))
 z0:=(λw=>(Qz.sizeOf w 0).trans (Tryz.sizeOf0 w))
 v0:=(λw=>(Qz.zeroValue w 0).trans (Tryz.zeroValue0 w))
 t3:=((Qz.cO 3).trans Tryz.underlying3)
 a3:=(λw=>(Qz.isAgg w 3).trans (Tryz.isAgg3 w))
 z3:=(λw=>(Qz.sizeOf w 3).trans (Tryz.sizeOf3 w))
 v3:=(λw=>(Qz.zeroValue w 3).trans (Tryz.zeroValue3 w))
 t4:=((Qz.cO 4).trans Tryz.underlying4)
 a4:=(λw=>(Qz.isAgg w 4).trans (Tryz.isAgg4 w))
 z4:=(λw=>(Qz.sizeOf w 4).trans (Tryz.sizeOf4 w))
 v4:=(λw=>(Qz.zeroValue w 4).trans (Tryz.zeroValue4 w))
 t9:=((Qz.cO 9).trans Tryz.underlying9)
 a9:=(λw=>(Qz.isAgg w 9).trans (Tryz.isAgg9 w))
 z9:=(λw=>(Qz.sizeOf w 9).trans (Tryz.sizeOf9 w))
 v9:=(λw=>(Qz.zeroValue w 9).trans (Tryz.zeroValue9 w))
 t37:=((Qz.cO 50).trans Tryz.underlying50)
 a37:=(λw=>(Qz.isAgg w 50).trans (Tryz.isAgg50 w))
 z37:=(λw=>(Qz.sizeOf w 50).trans (Tryz.sizeOf50 w))
 v37:=(λw=>(Qz.zeroValue w 50).trans (Tryz.zeroValue50 w))
 t127:=((Qz.cO 184).trans Tryz.underlying184)
 a127:=(λw=>(Qz.isAgg w 184).trans (Tryz.isAgg184 w))
 z127:=(λw=>(Qz.sizeOf w 184).trans (Tryz.sizeOf184 w))
 v127:=(λw=>(Qz.zeroValue w 184).trans (Tryz.zeroValue184 w))
 t5:=((Qz.cO 5).trans Tryz.underlying5)
 a5:=(λw=>(Qz.isAgg w 5).trans (Tryz.isAgg5 w))
 z5:=(λw=>(Qz.sizeOf w 5).trans (Tryz.sizeOf5 w))
 v5:=(λw=>(Qz.zeroValue w 5).trans (Tryz.zeroValue5 w))
 i0:=by kernel_rfl
 i3:=by kernel_rfl
 i4:=by kernel_rfl
 i5:=by kernel_rfl
 i9:=by kernel_rfl
 i37:=by kernel_rfl
 i127:=by kernel_rfl}
open Go.RowKit in
def Qz.stringslite_Clone (s:ByteArray)(w:zW)(h:s.size<=281474976710656):
  Calls zq 100 #[aK s] w λe a=>e=aL (aK s)/\zb w a:=Any.stringslite_Clone Qz.Kf s w h
end Go.Proofs
namespace Go.Proofs.Zq
open Go.RowKit Sha
def XY (r idx:ByteArray)(w:zW)(d:1<=r.size)(c:r.size<=32)(b:idx.size=32):Calls zq 54 #[aK r,aK idx] w λe a=>e=aL (.bool aE)/\a=w:=by go_enter Qz.func54,Tryz.ntmps54;go_wp2_with fail;refine(tI _ w (by omega) (by omega)).mono ?_;rintro e w2 ⟨rfl,h⟩;obtain rfl:w=w2:=h.symm;clear h;go_wp2;go_ret;exact⟨rfl,rfl⟩
def Fb (r idx:ByteArray)(w:zW)(c:r.size<=140737488351232)(h:r.size<1\/32<r.size\/idx.size≠32):Calls zq 54 #[aK r,aK idx] w λe b=>e=aL (.bool aF)/\b=w:=by
 by_cases g:r.size<1\/32<r.size
 .go_enter Qz.func54,Tryz.ntmps54;go_wp2_with fail;refine(YJ _ w (by omega)).mono ?_;rintro e w2 ⟨rfl,a⟩;obtain rfl:w=w2:=a.symm;clear a;go_wp2;go_ret;exact⟨rfl,rfl⟩
 .have f:idx.size≠32:=by omega
  have d:((idx.size:Int)==32)=aF:=by rw[zCf];omega
  go_enter Qz.func54,Tryz.ntmps54
  go_wp2_with fail
  refine(tI _ w (by omega) (by omega)).mono ?_
  rintro e w2 ⟨rfl,a⟩
  obtain rfl:w=w2:=a.symm
  clear a
  go_wp2
  go_ret
  exact⟨rfl,rfl⟩
def qO (s:ByteArray)(w:zW)(h:s.size<=1000):Calls zq 85 #[aK s] w λe a=>e=aL (aK s)/\zb w a:=by go_enter Qz.func85,Tryz.ntmps85;go_wp2_with fail;refine(Qz.stringslite_Clone s w (by omega)).mono ?_;rintro e w2 ⟨rfl,hb⟩;have H:Hid (zb w w2):=hb;clear hb;go_wp2;go_ret;exact⟨rfl,H.out⟩
def Ej (k:Nat)(p:PW)(v:zY)(w:zW)(n:p.value.length<=100):
  Calls zq 56 #[.agg (bE k p.kind v p.value p.other p.dM)] w λe m=>e=aL (.agg (gV p.said.1 p.said.2))/\zb w m:=by
 obtain⟨d,S,a,b,c⟩:=p
 dsimp only at n⊢
 have i:Hid (d=1->PW.said ⟨d,S,a,b,c⟩=(1,a)):=λh=>by rw[PW.said];exact zAk h
 have g:Hid (d≠1->PW.said ⟨d,S,a,b,c⟩=(2,[])):=λh=>by rw[PW.said];exact zAh h
 go_enter Qz.func56,Tryz.ntmps56
 go_upto_region 1 with(fail)
 have l:Hid (bB ((w.alloc (aI (bE k d v a b c) 112)).alloc (aI cK 76)) w.heap.size 112 (bE k d v a b c)):=(bB.new _ _ _).alloc _
 have z0:Hid (bB ((w.alloc (aI (bE k d v a b c) 112)).alloc (aI cK 76)) (w.heap.size+1) 76 cK):=by have:=bB.new (w.alloc (aI (bE k d v a b c) 112)) 76 cK;rw[size_alloc]at this;exact this
 have b0:Hid (zb w ((w.alloc (aI (bE k d v a b c) 112)).alloc (aI cK 76))):=((zGp _ _).alloc (zAa _) _).alloc (by simp) _
 rw[show((w.alloc (aI (bE k d v a b c) 112)).alloc (aI #[aC aD 0,aK ⟨#[]⟩] 76))=((w.alloc (aI (bE k d v a b c) 112)).alloc (aI cK 76))from rfl]
 generalize(w.alloc (aI (bE k d v a b c) 112)).alloc (aI cK 76)=W at*
 have r:W.cell? ⟨w.heap.size,1,aB⟩=aA (aC aD (d:Int)):=by rw[l.out.cell];rfl
 have q:W.cell? ⟨w.heap.size,3,aB⟩=aA (aK ⟨a.toArray⟩):=by rw[l.out.cell];rfl
 by_cases h:d=1
 .have H:=i.out h;have o:((d:Int)==1)=aE:=by rw[zCk];omega
  have j:Hid (PW.said ⟨d,S,a,b,c⟩=(1,a)):=H;clear H h;go_wp2_with fail;refine(qO ⟨a.toArray⟩ W (by show a.length<=1000;omega)).mono ?_;rintro e w2 ⟨rfl,f⟩;have z:Hid (bB w2 (w.heap.size+1) 76 cK):=z0.out.below f z0.out.lt;have b1:=aV b0.out f b0.out.size;clear f;go_wp2_with (refine zGs rfl 76 _ _ rfl (w.heap.size+1) _ rfl rfl _ _ z.out (by kernel_rfl) rfl (by simp[Value.oneCell']) ?_);refine zHb (zHj Tryz.results56 _ _ (w.heap.size+1) _ _ _ _ rfl (z.out.cH _) ((Qz.cO 76).trans Tryz.underlying76) rfl (by kernel_rfl)) rfl ⟨?_,bN b1.out (by omega) _⟩;rw[j.out];rfl
 .have H:=g.out h;have o:((d:Int)==1)=aF:=by rw[zCf];omega
  have j:Hid (PW.said ⟨d,S,a,b,c⟩=(2,[])):=H;clear H h;go_wp2_with (refine zGs rfl 76 _ _ rfl (w.heap.size+1) _ rfl rfl _ _ z0.out (by kernel_rfl) rfl (by kernel_rfl) ?_);refine zHb (zHj Tryz.results56 _ _ (w.heap.size+1) _ _ _ _ rfl (z0.out.cH _) ((Qz.cO 76).trans Tryz.underlying76) rfl (by kernel_rfl)) rfl ⟨?_,bN b0.out (by omega) _⟩;rw[j.out];rfl
def DC (root idx s:ByteArray)(w:zW)(hs:s.size<=140737488351232)(C:root.size<=140737488351232)(t:dO w):
  Calls zq 34 #[aK root,aK idx,aK s] w λe z=>zb w z/\
   e=aL (.tuple #[.agg (gV (verdict root.data.toList idx.data.toList s.data.toList).1 (verdict root.data.toList idx.data.toList s.data.toList).2.1),aC aD ((verdict root.data.toList idx.data.toList s.data.toList).2.2:Nat)]):=by
 have d:root.data.toList.length=root.size:=by simp
 have o:idx.data.toList.length=idx.size:=by simp
 have F:Hid (dO w):=t
 clear t
 have z0:Hid (bB (w.alloc (aI cK 76)) w.heap.size 76 cK):=bB.new _ _ _
 have b0:Hid (zb w (w.alloc (aI cK 76))):=(zGp _ _).alloc (zAa _) _
 go_enter Qz.func34,Tryz.ntmps34
 go_wp2_with fail
 by_cases g:root.size<1\/32<root.size\/idx.size≠32
 .have H:Hid (verdict root.data.toList idx.data.toList s.data.toList=(0,[],1)):=by show _=_;rw[verdict,zAk (by rw[d,o];exact g)]
  refine(Fb root idx _ C g).mono ?_;rintro e w2 ⟨rfl,h⟩;obtain rfl:=h.symm;clear h;go_wp2_with (refine zGs rfl 76 _ _ rfl w.heap.size cK rfl rfl _ _ z0.out (by kernel_rfl) rfl (by kernel_rfl) ?_);refine zHb (fH Tryz.results34 _ _ w.heap.size _ _ _ _ rfl (z0.out.cH _) ((Qz.cO 76).trans Tryz.underlying76) rfl (by kernel_rfl) _ rfl) rfl ⟨bN b0.out (zAa _) _,?_⟩;rw[H.out];rfl
 refine(XY root idx _ (by omega) (by omega) (by omega)).mono ?_
 rintro e w2 ⟨rfl,h⟩
 obtain rfl:=h.symm
 clear h
 go_wp2_with fail
 refine(El root idx s (w.alloc (aI cK 76)) hs (by omega) (by omega) (by omega) (F.out.below b0.out (zAa _))).mono ?_
 rintro e w1 ⟨hb,b⟩
 have B:Hid (zb w w1):=b0.out.trans (hb.mono (by rw[size_alloc];omega))
 have q:Hid (bB w1 w.heap.size 76 cK):=z0.out.below hb z0.out.lt
 have A:w.heap.size<w1.heap.size:=q.out.lt
 have y:Hid (bB (w1.alloc (aI dD 112)) w1.heap.size 112 dD):=bB.new _ _ _
 rw[size_alloc]at b
 clear hb b0 z0
 obtain⟨i,rfl⟩|⟨p,v,i,m,a,rfl,c⟩:=b
 .have H:Hid (verdict root.data.toList idx.data.toList s.data.toList=(0,[],bT root.data.toList idx.data.toList s.data.toList)):=QM i;have E:=YC root.data.toList idx.data.toList s.data.toList;generalize bT root.data.toList idx.data.toList s.data.toList=n at*;have D:((n:Int)!=0)=aE:=by rw[bne_iff_ne];omega
  have Z:Hid (bB ((w1.alloc (aI dD 112)).setRow w1.heap.size dD) w.heap.size 76 cK):=(q.out.alloc _).fW _ (by omega);have j:Hid (zb w ((w1.alloc (aI dD 112)).setRow w1.heap.size dD)):=bN (B.out.alloc B.out.size _) B.out.size _;clear i;go_wp2_with (first
   |refine zGs rfl 112 _ _ rfl w1.heap.size dD rfl rfl _ _ y.out (by kernel_rfl) rfl (by kernel_rfl) ?_
   |refine zGs rfl 76 _ _ rfl w.heap.size cK rfl rfl _ _ Z.out (by kernel_rfl) rfl (by kernel_rfl) ?_)
  refine zHb (fH Tryz.results34 _ _ w.heap.size _ _ _ _ rfl (Z.out.cH _) ((Qz.cO 76).trans Tryz.underlying76) rfl (by kernel_rfl) _ rfl) rfl ⟨bN j.out (zAa _) _,?_⟩
  rw[H.out];rfl
 .have H:Hid (verdict root.data.toList idx.data.toList s.data.toList=(p.said.1,p.said.2,0)):=FC i m a;have G:Hid (Own w1 (w.heap.size+1) 9 v p.bM.length (p.bM.map λx=>aK ⟨x.toArray⟩)):=c;have l:p.value.length<=100:=(tB (by rw[d];omega) m).value;rw[d];obtain⟨k,r⟩:∃k,k=root.size:=⟨_,rfl⟩;rw[<-r];clear r;have K:Hid (bB ((w1.alloc (aI dD 112)).setRow w1.heap.size (bE k p.kind v p.value p.other p.dM)) w1.heap.size 112 (bE k p.kind v p.value p.other p.dM)):=y.out.cH _;have Z:Hid (bB ((w1.alloc (aI dD 112)).setRow w1.heap.size (bE k p.kind v p.value p.other p.dM)) w.heap.size 76 cK):=(q.out.alloc _).fW _ (by omega);have j:Hid (zb w ((w1.alloc (aI dD 112)).setRow w1.heap.size (bE k p.kind v p.value p.other p.dM))):=bN (B.out.alloc B.out.size _) B.out.size _;clear i m a c;go_wp2_with (first
   |refine zGs rfl 112 _ _ rfl w1.heap.size (bE _ _ _ _ _ _) rfl rfl _ _ y.out (by kernel_rfl) rfl (OM G.out) ?_
   |refine zGq rfl 112 _ rfl w1.heap.size rfl _ _ _ _ K.out ((Qz.cO 112).trans Tryz.underlying112) rfl (by kernel_rfl) ?_)
  refine(Ej k p v ((w1.alloc (aI dD 112)).setRow w1.heap.size (bE k p.kind v p.value p.other p.dM)) l).mono ?_;rintro e w2 ⟨rfl,f⟩;have I:=ZQ j.out f j.out.size;have u:Hid (bB w2 w.heap.size 76 cK):=Z.out.below f Z.out.lt;clear f j Z K;go_wp2_with (refine zGs rfl 76 _ _ rfl w.heap.size (gV _ _) rfl rfl _ _ u.out (by kernel_rfl) rfl (by simp[gV,Value.oneCell']) ?_);refine zHb (fH Tryz.results34 _ _ w.heap.size _ _ _ _ rfl (u.out.cH _) ((Qz.cO 76).trans Tryz.underlying76) rfl (by kernel_rfl) _ rfl) rfl ⟨bN I.out (zAa _) _,?_⟩;rw[H.out];rfl
def eF (c:Int)(n:Int):Int:=(if c<0 then-(c+1)else c)%n
def SL (c:Int)(n:Int)(h:0<n):0<=eF c n/\eF c n<n:=⟨Int.emod_nonneg _ (by omega),Int.emod_lt_of_pos _ h⟩
def gO (c:Int)(n:Nat)(h:0<n):∃m:Nat,eF c (n:Int)=(m:Int)/\m<n:=by obtain⟨b,a⟩:=SL c n (by omega);exact⟨(eF c n).toNat,by omega,by omega⟩
def oF (c n:Int)(w:zW)(i: -9223372036854775808<=c)(g:c<=9223372036854775807)(f:1<=n)(d:n<=256):
  Calls zq 15 #[aC aD c,aC aD n] w λe b=>e=aL (aC aD (eF c n))/\b=w:=by
 by_cases a:c<0
 .have h:Hid (eF c n= -(c+1).tmod n):=by show _=_;rw[eF,zAk a,<-Int.neg_tmod,Int.tmod_eq_emod_of_nonneg (by omega)]
  go_enter Qz.func15,Tryz.ntmps15;go_wp2;go_ret;exact⟨by rw[h.out];rfl,rfl⟩
 .have h:Hid (eF c n=c%n):=by show _=_;rw[eF,zAh a]
  go_enter Qz.func15,Tryz.ntmps15;go_wp2;go_ret;exact⟨by rw[h.out];rfl,rfl⟩
def iL (l:zB):zA:=(l.map λb=>Value.int aP (b.toNat:Int)).toArray
def AQ (l:zB)(i:Nat)(h:i<l.length):(iL l)[i]? =aA (aC aP ((l.getD i 0).toNat:Int)):=by simp[iL,h]
def AP (l:zB)(i:Nat)(b:UInt8):(iL l).setIfInBounds i (aC aP (b.toNat:Int))=iL (l.set i b):=by apply zCx.1;rw[zDy];simp[iL,List.map_set]
def AM (n:Nat):zA:=iL (List.replicate n 0)
def IB (n:Nat)(e:n<=1000)(W:zW):(Instr.makeSlice 50 (aC aD (n:Int)) (aC aD (n:Int))).run zq W= .ok (aJ (aA ⟨W.heap.size,0,aB⟩) n n) (W.alloc (aI (AM n) 5)):=by
 obtain⟨i,d,c,b,a⟩:=BY;have:=run_make (P:=zq) W 50 5 i (aC aP 0) ((Qz.cO 50).trans Tryz.underlying50) d c aD aD (n:Int) (n:Int) (by omega) (Int.le_refl _) (by rw[a];omega) (by omega);have h:(madeCells (Value.int aP 0).cells n)=AM n:=by apply zCx.1;rw[show(Value.int aP 0).cells= #[Value.int aP 0]from rfl,toList_madeCells_one];simp[AM,iL]
 rw[this,b,zFr,show((n:Int)).toNat=n from by omega,h]
def Ao {W:zW}{g:Nat}{l:zB}(h:bB W g 5 (iL l))(c:Nat):(convert 50 9 (aJ (aA ⟨g,0,aB⟩) l.length c)).run zq W= .ok (aK ⟨l.toArray⟩) W:=
 mA (P:=zq) W 50 9 5 g 0 c l ((Qz.cO 50).trans Tryz.underlying50) ((Qz.cO 5).trans Tryz.underlying5) ((Qz.cO 9).trans Tryz.underlying9) (λj a=>by rw[zAv,h.cell j];exact AQ l j a)
def idxOf (n:Int):zB:=((List.replicate 32 0).set 0 (aDv ((eF n 64).toNat/2*8))).set 31 (aDv ((eF n 64).toNat%2))
def lB (n:Int):(idxOf n).length=32:=by simp[idxOf]
def pG (n:Int)(w:zW)(q: -9223372036854775808<=n)(p:n<=9223372036854775807):
  Calls zq 22 #[aC aD n] w λe d=>e=aL (aK ⟨(idxOf n).toArray⟩)/\zb w d:=by
 have a:∀W,(Instr.makeSlice 50 (aC aD 32) (aC aD 32)).run zq W= .ok (aJ (aA ⟨W.heap.size,0,aB⟩) 32 32) (W.alloc (aI (AM 32) 5)):=IB 32 (by omega)
 have b0:Hid (zb w (w.alloc (aI (AM 32) 5))):=(zGp _ _).alloc (zAa _) _
 have k:Hid (bB (w.alloc (aI (AM 32) 5)) w.heap.size 5 (iL (List.replicate 32 0))):=bB.new _ _ _
 go_enter Qz.func22,Tryz.ntmps22
 go_wp2_with fail
 generalize w.alloc (aI (AM 32) 5)=w0 at*
 refine(oF n 64 w0 q p (by omega) (by omega)).mono ?_
 rintro e w2 ⟨rfl,h⟩
 obtain rfl:w0=w2:=h.symm
 clear h a
 obtain⟨m,b,c⟩:=gO n 64 (by omega)
 have H:Hid (eF n 64=(m:Int)):=b
 rw[show eF n 64=(m:Int)from b]
 clear b
 have l:((m:Int)/2*8)=((aDv (m/2*8)).toNat:Int):=by rw[zCz];omega
 have j:((m:Int)%2)=((aDv (m%2)).toNat:Int):=by rw[zCz];omega
 have o:Hid (idxOf n=((List.replicate 32 0).set 0 (aDv (m/2*8))).set 31 (aDv (m%2))):=by
  show _=_
  rw[idxOf,H.out];rfl
 have i:=(aDv (m/2*8)).toNat_lt
 have g:=(aDv (m%2)).toNat_lt
 generalize aDv (m/2*8)=x at*
 generalize aDv (m%2)=y at*
 have s:w0.cell? ⟨w.heap.size,0,aB⟩=aA (aC aP 0):=by rw[k.out.cell];rfl
 have f0:w0.frozen? ⟨w.heap.size,0,aB⟩=aF:=k.out.frozen 0
 have k1:Hid (bB (w0.setCell ⟨w.heap.size,0,aB⟩ (aC aP (x.toNat:Int))) w.heap.size 5 (iL ((List.replicate 32 0).set 0 x))):=by have:=k.out.cG 0 (aC aP (x.toNat:Int));rw[AP]at this;exact this
 have r:(w0.setCell ⟨w.heap.size,0,aB⟩ (aC aP (x.toNat:Int))).cell? ⟨w.heap.size,31,aB⟩=aA (aC aP 0):=by rw[k1.out.cell,AQ _ _ (by simp)];rfl
 have f1:(w0.setCell ⟨w.heap.size,0,aB⟩ (aC aP (x.toNat:Int))).frozen? ⟨w.heap.size,31,aB⟩=aF:=k1.out.frozen 31
 have k2:Hid (bB ((w0.setCell ⟨w.heap.size,0,aB⟩ (aC aP (x.toNat:Int))).setCell ⟨w.heap.size,31,aB⟩ (aC aP (y.toNat:Int))) w.heap.size 5 (iL (idxOf n))):=by have:=k1.out.cG 31 (aC aP (y.toNat:Int));rw[AP,<-o.out]at this;exact this
 have f:(convert 50 9 (aJ (aA ⟨w.heap.size,0,aB⟩) 32 32)).run zq ((w0.setCell ⟨w.heap.size,0,aB⟩ (aC aP (x.toNat:Int))).setCell ⟨w.heap.size,31,aB⟩ (aC aP (y.toNat:Int)))= .ok (aK ⟨(idxOf n).toArray⟩) ((w0.setCell ⟨w.heap.size,0,aB⟩ (aC aP (x.toNat:Int))).setCell ⟨w.heap.size,31,aB⟩ (aC aP (y.toNat:Int))):=by have:=Ao k2.out 32;rw[lB]at this;exact this
 have i1:(0:Int)<=(m:Int)/2*8:=by omega
 have i2:(m:Int)/2*8<256:=by omega
 go_wp2
 go_ret
 exact⟨rfl,(b0.out.setCell (by simp) _).setCell (by simp) _⟩
def valOf (n:Int):zB:=List.replicate ((eF n 30).toNat%5) (aDv (97+(eF n 30).toNat))
def xA (n:Int):(valOf n).length<=4:=by rw[valOf,zDi];omega
def CN (n:Int)(w:zW)(z: -9223372036854775808<=n)(y:n<=9223372036854775807):
  Calls zq 37 #[aC aD n] w λe g=>e=aL (aK ⟨(valOf n).toArray⟩)/\zb w g:=by
 go_enter Qz.func37,Tryz.ntmps37
 go_wp2_with fail
 refine(oF n 30 w z y (by omega) (by omega)).mono ?_
 rintro e w2 ⟨rfl,h⟩
 obtain rfl:w=w2:=h.symm
 clear h
 obtain⟨m,a,d⟩:=gO n 30 (by omega)
 have A:Hid (eF n 30=(m:Int)):=a
 rw[show eF n 30=(m:Int)from a]
 clear a
 have H:Hid (valOf n=List.replicate (m%5) (aDv (97+m))):=by show _=_;rw[valOf,A.out];rfl
 have f:(97:Int)+(m:Int)=((aDv (97+m)).toNat:Int):=by rw[zCz];omega
 have B:Hid ((97:Int)+(m:Int)=((aDv (97+m)).toNat:Int)):=f
 clear f
 obtain⟨r,c⟩:∃r:Nat,r=m%5:=⟨_,rfl⟩
 have p:(m:Int)%5=(r:Int):=by omega
 have s:r<5:=by omega
 rw[<-c]at H
 clear c
 generalize aDv (97+m)=b at*
 have t:=b.toNat_lt
 go_wp2
 go_loopg [4,5] r (λq x i wr=>∃j:Nat,j+q=r/\i=aC aD (j:Int)/\x=aK ⟨(List.replicate j b).toArray⟩/\zb w wr)
 case atStart=>exact⟨0,by omega,rfl,rfl,zGp _ _⟩
 case round=>
  obtain⟨j,D,rfl,rfl,c1⟩:=hrel
  have C:Hid (zb w wr):=c1
  clear c1
  by_cases bU:j<r
  .have k:(⟨(List.replicate j b).toArray⟩:ByteArray).size=j:=by show(List.replicate j b).length=j;simp
   have o:(convert 50 9 (aJ (aA ⟨wr.heap.size,0,aB⟩) 1 1)).run zq (wr.alloc (aI #[aC aP (b.toNat:Int)] 5))= .ok (aK ⟨#[b]⟩) (wr.alloc (aI #[aC aP (b.toNat:Int)] 5)):=Ao (l:=[b]) (bB.new _ _ _) 1;have v:Hid ((⟨(List.replicate j b).toArray⟩:ByteArray)++⟨#[b]⟩=⟨(List.replicate (j+1) b).toArray⟩):=by apply zDw;apply zCx.1;simp[zEw,List.replicate_succ']
   have u:=B.out
   generalize(⟨(List.replicate j b).toArray⟩:ByteArray)=X at*
   go_wp2
   go_roundg (r-(j+1))
   case measure=>omega
   case rel=>
    go_light
    exact⟨j+1,by omega,by go_num,by rw[<-v.out],C.out.alloc C.out.size _⟩
  .obtain rfl:j=r:=by omega
   go_wp2;go_ret;exact⟨by rw[H.out];rfl,C.out⟩
def mK (x:UInt8)(r:Nat):UInt8:=aDv (x.toNat|||128/2^r)
def Ep (x:UInt8)(r s:Nat)(h:r<8)(hs:s<8):(mK x r).toNat/2^(7-s)%2=if r=s then 1 else x.toNat/2^(7-s)%2:=by
 have H:∀x:Fin 256,∀r s:Fin 8,((x.val|||128/2^r.val)%256)/2^(7-s.val)%2=if r.val=s.val then 1 else x.val/2^(7-s.val)%2:=by decide+kernel
 have:=H ⟨x.toNat,x.toNat_lt⟩ ⟨r,h⟩ ⟨s,hs⟩
 rw[mK,zCz]
 exact this
def Ky (l:zB)(i j:Nat)(b:UInt8)(a:i<l.length):(l.set i b).getD j 0=if i=j then b else l.getD j 0:=by
 rw[zAq,List.getElem?_set,zAq];by_cases h:i=j
 .subst h;simp[a]
 .simp[h]
def Vj (l:zB)(t i:Nat)(b:t/8<l.length):bQ (l.set (t/8) (mK (l.getD (t/8) 0) (t%8))) i=if t=i then 1 else bQ l i:=by
 unfold bQ;rw[Ky _ _ _ _ b];by_cases h:t/8=i/8
 .rw[zAk h,Ep _ _ _ (zFu _ (by omega)) (zFu _ (by omega)),<-h];by_cases a:t=i
  .rw[zAk a,zAk (by omega)]
  .rw[zAh a,zAh (by omega)]
 .rw[zAh h,zAh (by intro a;exact h (by rw[a]))]
def Gu (n i:Nat):bQ (List.replicate n 0) i=0:=by
 unfold bQ;have:((List.replicate n (0:UInt8)).getD (i/8) 0)=0:=by rw[zAq,zFw];split<;>rfl
 rw[this];simp
def eK (D:zB)(S:zLL):Nat->zB
 |0=>List.replicate ((S.length+7)/8) 0
 |j+1=>if S.getD j []=D then eK D S j else(eK D S j).set (j/8) (mK ((eK D S j).getD (j/8) 0) (j%8))
def fB (D:zB)(S:zLL)(j:Nat):(eK D S j).length=(S.length+7)/8:=by
 induction j with
 |zero=>simp[eK]
 |succ j i=>
  unfold eK;split
  .exact i
  .rw[zEn];exact i
def DK (D:zB)(S:zLL)(j:Nat)(e:j<=S.length)(i:Nat):bQ (eK D S j) i=if i<j/\S.getD i []≠D then 1 else 0:=by
 induction j with
 |zero=>rw[eK,Gu,zAh (by omega)]
 |succ j b=>
  have b:=b (by omega);unfold eK;by_cases h:S.getD j []=D
  .rw[zAk h,b];by_cases c:i=j
   .subst c;rw[zAh (by omega),zAh (λa=>a.2 h)]
   .by_cases a:i<j/\S.getD i []≠D
    .rw[zAk a,zAk ⟨by omega,a.2⟩]
    .rw[zAh a,zAh (λd=>a ⟨by omega,d.2⟩)]
  .rw[zAh h,Vj _ _ _ (by rw[fB];omega),b];by_cases c:j=i
   .subst c;rw[zAk rfl,zAk ⟨by omega,h⟩]
   .rw[zAh c];by_cases a:i<j/\S.getD i []≠D
    .rw[zAk a,zAk ⟨by omega,a.2⟩]
    .rw[zAh a,zAh (λd=>a ⟨by omega,d.2⟩)]
def eP (D:zB):zLL->zB
 |[]=>[]
 |s::r=>(if s=D then []else s)++eP D r
def jB (D:zB)(a b:zLL):eP D (a++b)=eP D a++eP D b:=by
 induction a with
 |nil=>rfl
 |cons s r i=>rw[zCs,eP,eP,i,zBu]
def sY (p:PW):zB:=if p.kind=1 then p.value else if p.kind=2 then p.other++p.dM else []
section
variable {k:Nat}{I X:zB}{p:PW}
end
def fD (k:Nat)(p:PW):zB:=[aDv p.kind,aDv (p.bM.length/256),aDv (p.bM.length%256)]++(eK (dg k [0]) p.bM p.bM.length++(eP (dg k [0]) p.bM++sY p))
structure Cl (k:Nat)(I:zB)(p:PW):Prop where
 kind:p.kind<=2
 depth:p.bM.length<=256
 Xj:∀x∈p.bM,x.length=k
 zero:p.kind=0->p.value=[]/\p.other=[]/\p.dM=[]
 one:p.kind=1->p.value.length<=100/\p.other=[]/\p.dM=[]
 two:p.kind=2->p.value=[]/\p.other.length=32/\p.dM.length=k/\p.other≠I/\sameBits I p.other p.bM.length
section
variable {k:Nat}{I X:zB}{p:PW}
def oO (k:Nat)(p:PW)(X:zB):zB:=[aDv p.kind,aDv (p.bM.length/256),aDv (p.bM.length%256)]++(eK (dg k [0]) p.bM p.bM.length++(eP (dg k [0]) p.bM++X))
def IU (h:p.kind<=2):kindOf (oO k p X)=p.kind:=by
 show(aDv p.kind).toNat=_
 rw[zCz];omega
def mQ (h:p.bM.length<=256):dT (oO k p X)=p.bM.length:=by
 show 256*(aDv (p.bM.length/256)).toNat+(aDv (p.bM.length%256)).toNat=_
 rw[zCz,zCz];omega
def tR (h:p.bM.length<=256):dB (oO k p X)=(p.bM.length+7)/8:=by rw[dB,mQ h]
def tQ (h:p.bM.length<=256):marksOf (oO k p X)=eK (dg k [0]) p.bM p.bM.length:=by
 rw[marksOf,tR h];show List.take _ (eK (dg k [0]) p.bM p.bM.length++(eP (dg k [0]) p.bM++X))=_
 rw[zCn (by rw[fB];omega),zBg (by rw[fB];omega)]
def uR:(oO k p X).length=3+(p.bM.length+7)/8+(eP (dg k [0]) p.bM).length+X.length:=by simp[oO,fB];omega
def wR (i:Nat):(oO k p X).drop (3+(p.bM.length+7)/8+(eP (dg k [0]) (p.bM.take i)).length)=eP (dg k [0]) (p.bM.drop i)++X:=by
 have a:eP (dg k [0]) p.bM=eP (dg k [0]) (p.bM.take i)++eP (dg k [0]) (p.bM.drop i):=by rw[<-jB,zDr]
 rw[oO,a,<-zGj,<-zGj]
 show List.drop _ (List.drop _ (eK (dg k [0]) p.bM p.bM.length++(eP (dg k [0]) (p.bM.take i)++eP (dg k [0]) (p.bM.drop i)++X)))=_
 have h:List.drop ((p.bM.length+7)/8) (eK (dg k [0]) p.bM p.bM.length)=[]:=zEo (by rw[fB];omega)
 rw[zDq (by rw[fB];omega),h,zCl,zBu,zDq (zAa _),List.drop_length,zCl]
def YV (f:p.bM.length<=256)(hs:∀x∈p.bM,x.length=k):∀i,i<=p.bM.length->eE k (oO k p X) i=aA (p.bM.take i,3+(p.bM.length+7)/8+(eP (dg k [0]) (p.bM.take i)).length):=by
 intro i;induction i with
 |zero=>intro _;rw[eE,tR f];rfl
 |succ i c=>
  intro q;have c:=c (by omega);have m:p.bM.getD i []=p.bM[i]:=by rw[zAq,zAf (by omega)];rfl
  have g:p.bM.take (i+1)=p.bM.take i++[p.bM[i]]:=by rw[zBv (by omega)]
  have e:p.bM.drop i=p.bM[i]::p.bM.drop (i+1):=zFo (by omega)
  have j:p.bM[i].length=k:=hs _ (zCr _)
  have a:=DK (dg k [0]) p.bM p.bM.length (zAa _) i
  by_cases h:p.bM[i]=dg k [0]
  .rw[m,zAh (λo=>o.2 h)]at a;rw[GC c (by rw[tQ f];exact a),g,jB,h];simp[eP]
  .rw[m,zAk ⟨by omega,h⟩]at a;have d:((oO k p X).drop (3+(p.bM.length+7)/8+(eP (dg k [0]) (p.bM.take i)).length)).take k=p.bM[i]:=by
    rw[wR,e,eP,zAh h,zBu,zCn (by omega),zBg (by omega)]
   have b:3+(p.bM.length+7)/8+(eP (dg k [0]) (p.bM.take i)).length+k<=(oO k p X).length:=by
    have:=congrArg List.length d;rw[zAn,zBa,j]at this;by_cases l:k=0
    .have:=congrArg List.length (wR (k:=k) (p:=p) (X:=X) i);rw[uR,l,zEv];have n:eP (dg k [0]) p.bM=eP (dg k [0]) (p.bM.take i)++eP (dg k [0]) (p.bM.drop i):=by rw[<-jB,zDr]
     rw[l]at n;rw[n,zAj];omega
    .omega
   rw[GB c (by rw[tQ f];exact a) b (by rw[d];exact h),d,g,jB]
   simp[eP,h,j]
   omega
def UJ (a:p.kind<=2)(h:p.bM.length<=256)(hs:∀x∈p.bM,x.length=k):parse k I (oO k p X)=oN k I (oO k p X) p.bM X:=by
 have b:=YV (X:=X) h hs p.bM.length (zAa _);rw[zEf]at b;have c:=wR (k:=k) (p:=p) (X:=X) p.bM.length;rw[zEf,List.drop_length]at c;have:=tA (k:=k) (idx:=I) (s:=oO k p X) (by rw[uR];omega) (by rw[IU a];exact a) (by rw[mQ h];omega) (by rw[tR h,uR];omega) (λi d e=>by rw[tQ h,DK _ _ _ (zAa _),zAh (by rw[mQ h]at d;omega)]) (by rw[mQ h];exact b)
 rw[this,c]
 rfl
end
def vX {k:Nat}{I:zB}{p:PW}(h:Cl k I p):parse k I (fD k p)=aA p:=by
 have:=UJ (I:=I) (X:=sY p) h.kind h.depth h.Xj;rw[show fD k p=oO k p (sY p)from rfl,this,oN,IU h.kind,mQ h.depth];obtain⟨g,S,a,b,c⟩:=p;have o:=h.kind;dsimp only at*;obtain rfl|rfl|rfl:g=0\/g=1\/g=2:=by omega
 .obtain⟨f,e,d⟩:=h.zero rfl;dsimp only at f e d;subst f;subst e;subst d;rfl
 .obtain⟨f,e,d⟩:=h.one rfl;dsimp only at f e d;subst e;subst d;rw[zAh (by decide),zAk rfl];exact zAk f
 .obtain⟨f,e,d,j,i⟩:=h.two rfl;dsimp only at f e d j i;subst f;have n:sY ⟨2,S,[],b,c⟩=b++c:=rfl;have m:(b++c).take 32=b:=by rw[zCn (by omega),zBg (by omega)]
  have l:(b++c).drop 32=c:=by rw[zDq (by omega),zEo (by omega),zCl]
  rw[zAh (by decide),zAh (by decide),n,m,l,zAk ⟨by rw[zAj,e,d],j,by rw[GH];exact i⟩]
def KJ {k:Nat}{I:zB}{p:PW}(d:1<=k)(b:k<=32)(f:I.length=32)(h:Cl k I p):verdict (p.root k I) I (fD k p)=(p.said.1,p.said.2,0):=by
 have a:(p.root k I).length=k:=eC k _ b;have c:parse (p.root k I).length I (fD k p)=aA p:=by rw[a];exact vX h
 have e:bT (p.root k I) I (fD k p)=0:=rF (by rw[a,f];omega) c (by rw[a])
 exact FC e c (by rw[a])
abbrev gL:=zB×zB
def cL (l:List gL)(d b:Nat):List gL:=l.filter λe=>bQ e.1 d==b
def qE (k:Nat)(e:gL):zB:=1::(e.1++dg k (4::e.2))
def gM (k:Nat):Nat->List gL->Nat->zB
 |0,[],_=>[0]
 |0,e::_,_=>qE k e
 |_+1,[],_=>[0]
 |_+1,[e],_=>qE k e
 |f+1,a::b::l,d=>2::(dg k (gM k f (cL (a::b::l) d 0) (d+1))++dg k (gM k f (cL (a::b::l) d 1) (d+1)))
def dR (k:Nat)(l:List gL)(d:Nat):zB:=dg k (gM k (256-d) l d)
def vE (k:Nat)(I:zB):List gL->PW
 |[]=>⟨0,[],[],[],[]⟩
 |e::_=>if e.1=I then⟨1,[],e.2,[],[]⟩else⟨2,[],[],e.1,dg k (4::e.2)⟩
def dY (k:Nat)(I:zB):Nat->List gL->Nat->PW
 |0,l,_=>vE k I l
 |_+1,[],_=>vE k I []
 |_+1,[e],_=>vE k I [e]
 |f+1,a::b::l,d=>
  {dY k I f (cL (a::b::l) d (bQ I d)) (d+1)with
   bM:=dg k (gM k f (cL (a::b::l) d (1-bQ I d)) (d+1))::(dY k I f (cL (a::b::l) d (bQ I d)) (d+1)).bM}
def PW.nX (k:Nat)(idx:zB)(p:PW)(o:Nat):Nat->zB
 |0=>p.fQ k idx
 |j+1=>if bQ idx (o+(p.bM.length-1-j))=0 then 2::(dg k (p.nX k idx o j)++p.bM.getD (p.bM.length-1-j) [])else 2::(p.bM.getD (p.bM.length-1-j) []++dg k (p.nX k idx o j))
def QN (k:Nat)(idx:zB)(p:PW):∀j,p.nX k idx 0 j=p.up k idx j:=by
 intro j;induction j with
 |zero=>rfl
 |succ j i=>rw[PW.nX,PW.up,i,zAv]
def QO (k:Nat)(idx:zB)(p:PW)(s:zB)(o:Nat):∀j,j<=p.bM.length->({p with bM:=s::p.bM}:PW).nX k idx o j=p.nX k idx (o+1) j:=by
 intro j;induction j with
 |zero=>intro _;rfl
 |succ j i=>
  intro h;rw[PW.nX,PW.nX,i (by omega)];have e:({p with bM:=s::p.bM}:PW).bM.length-1-j=(p.bM.length-1-j)+1:=by
   show(p.bM.length+1)-1-j=_
   omega
  rw[e,show o+(p.bM.length-1-j+1)=o+1+(p.bM.length-1-j) by omega]
  rfl
def BR (k:Nat)(I:zB)(e:gL)(l:List gL):vE k I (e::l)=if e.1=I then⟨1,[],e.2,[],[]⟩else⟨2,[],[],e.1,dg k (4::e.2)⟩:=rfl
def jI (k:Nat)(I:zB)(e:gL)(l:List gL):(vE k I (e::l)).fQ k I=qE k e/\(vE k I (e::l)).bM=[]:=by
 rw[BR];by_cases h:e.1=I
 .rw[zAk h];exact⟨by unfold PW.fQ qE;rw[zAk rfl,h],rfl⟩
 .rw[zAh h];exact⟨by unfold PW.fQ qE;rw[zAh (by show¬(2=1);decide),zAk rfl],rfl⟩
def Hw (k:Nat)(I:zB):∀f l d,(dY k I f l d).nX k I d (dY k I f l d).bM.length=gM k f l d:=by
 intro f;induction f with
 |zero=>
  intro l d;cases l with
  |nil=>rfl
  |cons e l=>obtain⟨g,c⟩:=jI k I e l;rw[dY,c];exact g
 |succ f j=>
  intro l d;match l with
  |[]=>rfl
  |[e]=>obtain⟨g,c⟩:=jI k I e [];rw[dY,c];exact g
  |a::b::l=>
   have i:=j (cL (a::b::l) d (bQ I d)) (d+1);rw[dY,gM];generalize m:cL (a::b::l) d=H at*;generalize dY k I f (H (bQ I d)) (d+1)=p at*;show PW.nX k I _ d (p.bM.length+1)=_
   rw[PW.nX]
   have e:(({p with bM:=dg k (gM k f (H (1-bQ I d)) (d+1))::p.bM}:PW).bM.length-1-p.bM.length)=0:=by
    show(p.bM.length+1)-1-p.bM.length=0
    omega
   rw[e,QO _ _ _ _ _ _ (zAa _),i,zEv]
   show(if bQ I d=0 then 2::(dg k (gM k f (H (bQ I d)) (d+1))++dg k (gM k f (H (1-bQ I d)) (d+1)))else 2::(dg k (gM k f (H (1-bQ I d)) (d+1))++dg k (gM k f (H (bQ I d)) (d+1))))=_
   obtain h|h:=mF I d
   .rw[h,zAk rfl]
   .rw[h,zAh (by decide)]
def Hx (k:Nat)(I:zB)(l:List gL):(dY k I 256 l 0).root k I=dR k l 0:=by
 have h:=Hw k I 256 l 0;rw[QN]at h;show dg k ((dY k I 256 l 0).up k I ((dY k I 256 l 0).bM.length-0))=dg k (gM k 256 l 0)
 rw[Nat.sub_zero,h]
def Cv (k:Nat)(I:zB):∀f l d,(dY k I f l d).bM.length<=f:=by
 intro f;induction f with
 |zero=>
  intro l d;cases l with
  |nil=>exact zAa _
  |cons e l=>rw[dY,(jI k I e l).2];exact zAa _
 |succ f i=>
  intro l d;match l with
  |[]=>exact zBp _
  |[e]=>rw[dY,(jI k I e []).2];exact zBp _
  |a::b::l=>rw[dY];exact Nat.succ_le_succ (i _ _)
def Of (k:Nat)(I:zB)(g:k<=32):∀f l d,∀x∈(dY k I f l d).bM,x.length=k:=by
 intro f;induction f with
 |zero=>
  intro l d x c;cases l with
  |nil=>cases c
  |cons e l=>rw[dY,(jI k I e l).2]at c;cases c
 |succ f i=>
  intro l d;match l with
  |[]=>intro x c;cases c
  |[e]=>intro x c;rw[dY,(jI k I e []).2]at c;cases c
  |a::b::l=>
   intro x c;rw[dY]at c;obtain h|h:=zAg.1 c
   .subst h;exact eC k _ g
   .exact i _ _ x h
def Og (k:Nat)(I:zB):∀f l d,(∀e∈l,∀i,i<d->bQ e.1 i=bQ I i)->
  ((dY k I f l d).kind=0/\(dY k I f l d).value=[]/\(dY k I f l d).other=[]/\(dY k I f l d).dM=[]/\∀e∈l,e.1≠I)\/
  ∃e∈l,(∀i,i<d+(dY k I f l d).bM.length->bQ e.1 i=bQ I i)/\
   ((e.1=I/\(dY k I f l d).kind=1/\(dY k I f l d).value=e.2/\(dY k I f l d).other=[]/\(dY k I f l d).dM=[])\/
    (e.1≠I/\(dY k I f l d).kind=2/\(dY k I f l d).value=[]/\(dY k I f l d).other=e.1/\(dY k I f l d).dM=dg k (4::e.2)/\
     ((dY k I f l d).bM.length<f\/l=[e]->∀x∈l,x.1≠I))):=by
 intro f
 induction f with
 |zero=>
  intro l d p;cases l with
  |nil=>exact aG ⟨rfl,rfl,rfl,rfl,λe j=>by cases j⟩
  |cons e l=>
   refine aH ⟨e,zAz ..,?_⟩;rw[dY,(jI k I e l).2];refine⟨λi n=>p e (zAz ..) i (by simpa using n),?_⟩;rw[BR];by_cases h:e.1=I
   .rw[zAk h];exact aG ⟨h,rfl,rfl,rfl,rfl⟩
   .rw[zAh h];refine aH ⟨h,rfl,rfl,rfl,rfl,λm=> ?_⟩;obtain m|m:=m
    .cases m
    .rw[m];intro x c;rw[zAw.1 c];exact h
 |succ f u=>
  intro l d p;match l with
  |[]=>exact aG ⟨rfl,rfl,rfl,rfl,λe j=>by cases j⟩
  |[e]=>
   refine aH ⟨e,zAz ..,?_⟩;rw[dY,(jI k I e []).2];refine⟨λi n=>p e (zAz ..) i (by simpa using n),?_⟩;rw[BR];by_cases h:e.1=I
   .rw[zAk h];exact aG ⟨h,rfl,rfl,rfl,rfl⟩
   .rw[zAh h];refine aH ⟨h,rfl,rfl,rfl,rfl,λ_=> ?_⟩;intro x c;rw[zAw.1 c];exact h
  |a::b::l=>
   have o:∀e∈cL (a::b::l) d (bQ I d),∀i,i<d+1->bQ e.1 i=bQ I i:=by
    intro e j i n;unfold cL at j;obtain⟨r,q⟩:=zBz.1 j;by_cases h:i<d
    .exact p e r i h
    .obtain rfl:i=d:=by omega
     exact zCk.1 q
   have g:∀x∈a::b::l,(∀y∈cL (a::b::l) d (bQ I d),y.1≠I)->x.1≠I:=by intro x c v h;exact v x (zBz.2 ⟨c,by rw[h];exact zEp _⟩) h
   obtain⟨C,m,B,A,z⟩|⟨e,j,w,t⟩:=u _ _ o
   .refine aG ⟨C,m,B,A,λx c=>g x c z⟩
   .have s:e∈a::b::l:=(zBz.1 j).1;refine aH ⟨e,s,λi n=>w i ?_,?_⟩
    .have:(dY k I (f+1) (a::b::l) d).bM.length=(dY k I f (cL (a::b::l) d (bQ I d)) (d+1)).bM.length+1:=rfl;omega
    .obtain t|⟨g1,g2,g3,g4,g5,g6⟩:=t
     .exact aG t
     .refine aH ⟨g1,g2,g3,g4,g5,λh=> ?_⟩;obtain h|h:=h
      .intro x c;refine g x c (g6 (aG ?_));have:(dY k I (f+1) (a::b::l) d).bM.length=(dY k I f (cL (a::b::l) d (bQ I d)) (d+1)).bM.length+1:=rfl;omega
      .cases h
def Ce {a b:zB}(f:a.length=32)(c:b.length=32)(h:∀i,i<256->bQ a i=bQ b i):a=b:=by
 have H:∀x:Fin 256,x.val=x.val/2^7%2*128+x.val/2^6%2*64+x.val/2^5%2*32+x.val/2^4%2*16+x.val/2^3%2*8+x.val/2^2%2*4+x.val/2^1%2*2+x.val/2^0%2:=by decide+kernel
 apply List.ext_getElem (by omega)
 intro n p o
 have c:∀r,r<8->a[n].toNat/2^(7-r)%2=b[n].toNat/2^(7-r)%2:=λr s=>by have:=h (8*n+r) (by omega);unfold bQ at this;rw[show(8*n+r)/8=n by omega,show(8*n+r)%8=r by omega]at this;rw[zAq,zAf p,zAq,zAf o]at this;exact this
 have e:a[n].toNat=b[n].toNat:=by have f:=H ⟨a[n].toNat,a[n].toNat_lt⟩;have d:=H ⟨b[n].toNat,b[n].toNat_lt⟩;have q0:=c 0 (by omega);have q1:=c 1 (by omega);have m:=c 2 (by omega);have l:=c 3 (by omega);have k:=c 4 (by omega);have j:=c 5 (by omega);have g:=c 6 (by omega);have q:=c 7 (by omega);simp only[Nat.sub_zero,Nat.reduceSub]at q0 q1 m l k j g q f d;rw[f,d,q0,q1,m,l,k,j,g,q]
 exact UInt8.toNat_inj.1 e
structure PR (l:List gL):Prop where
 idx:∀e∈l,e.1.length=32
 val:∀e∈l,e.2.length<=100
 one:∀e∈l,∀e'∈l,e.1=e'.1->e=e'
def fS (l:List gL)(I:zB):Option (zB):=(l.find? λe=>e.1==I).map (·.2)
def GG (o:Option (zB)):Nat×zB:=match o with|some v=>(1,v)|none=>(2,[])
def ML {l:List gL}{I v:zB}(h:PR l)(b:(I,v)∈l):fS l I=aA v:=by
 unfold fS;cases a:l.find? λe=>e.1==I with
 |none=>have:=List.find?_eq_none.1 a (I,v) b;simp at this
 |some e=>have d:=List.find?_some a;have c:=List.mem_of_find?_eq_some a;have:=h.one e c (I,v) b (zCk.1 d);rw[this];rfl
def gQ {l:List gL}{I:zB}(h:∀e∈l,e.1≠I):fS l I=aB:=by unfold fS;rw[List.find?_eq_none.2 (λe a=>by simpa using h e a)];rfl
def QJ {k:Nat}{I:zB}{l:List gL}(j:k<=32)(q:I.length=32)(h:PR l):Cl k I (dY k I 256 l 0)/\(dY k I 256 l 0).said=GG (fS l I):=by
 have d:=Cv k I 256 l 0;have c:=Of k I j 256 l 0;obtain⟨w,v,u,t,s⟩|⟨e,he,o,r⟩:=Og k I 256 l 0 (λe _ i m=>by omega)
 .refine⟨⟨by omega,d,c,λ_=>⟨v,u,t⟩,λh=>by omega,λh=>by omega⟩,?_⟩;rw[gQ s];unfold PW.said;rw[zAh (by omega)];rfl
 .obtain⟨b,g2,a,g,f⟩|⟨b,g2,a,g,f,g6⟩:=r
  .refine⟨⟨by omega,d,c,λh=>by omega,λ_=>⟨by rw[a];exact h.val e he,g,f⟩,λh=>by omega⟩,?_⟩;have p:(I,e.2)∈l:=by rw[<-b];exact he
   rw[ML h p];unfold PW.said;rw[zAk g2,a];rfl
  .refine⟨⟨by omega,d,c,λh=>by omega,λh=>by omega,λ_=>⟨a,?_,?_,?_,?_⟩⟩,?_⟩
   .rw[g];exact h.idx e he
   .rw[f];exact eC k _ j
   .rw[g];exact b
   .intro i m;rw[g];exact(o i (by omega)).symm
   .have bU:(dY k I 256 l 0).bM.length<256:=by
     obtain n|n:=zDx (dY k I 256 l 0).bM.length 256
     .exact n
     .exact absurd (Ce (h.idx e he) q (λi m=>o i (by omega))) b
    rw[gQ (g6 (aG bU))];unfold PW.said;rw[zAh (by omega)];rfl
def Cx {k:Nat}{I:zB}{l:List gL}(b:1<=k)(a:k<=32)(c:I.length=32)(h:PR l):
  verdict (dR k l 0) I (fD k (dY k I 256 l 0))=((GG (fS l I)).1,(GG (fS l I)).2,0):=by
 obtain⟨e,d⟩:=QJ (k:=k) a c h
 rw[<-Hx k I l,KJ b a c e,d]
end Go.Proofs.Zq
