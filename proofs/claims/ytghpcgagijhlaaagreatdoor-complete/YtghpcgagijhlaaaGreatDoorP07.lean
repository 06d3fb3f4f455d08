import Derived.Shelf.Strconv.Clone
import Derived.Lib.Bytealg
import Derived.Defers
import Derived.Maps.AppendAt
import Derived.Laws.CopyRow
import Derived.Lib.AppendStr
import Derived.Test.YtghpcgagijhlaaaGreatDoorP06
set_option linter.all false
set_option maxRecDepth 100000
set_option maxHeartbeats 16000000
open Option renaming some->aA,none->aB
open Bool renaming true->aE,false->aF
open Or renaming inl->aG,inr->aH
open Go.Ending renaming returned->aL
open Go.Obj renaming cells->aI
open Go.IntKind renaming i64->aD,u8->aP
open Go.Value renaming slice->aJ,string->aK,pointer->aN,int->aC
open Bool renaming eq_iff_iff->aHe
open Go.Lib renaming compareBytes->aHf,strCells->aHg,wpList_append_own_string->aHh
open Int renaming tmod_eq_emod_of_nonneg->aHi,tmod_eq_zero_of_dvd->aHj,dvd_of_emod_eq_zero->aHk,emod_eq_zero_of_dvd->aHl,dvd_of_tmod_eq_zero->aHm
open Nat renaming succ_mul->aHn,mul_add->aHo,mul_le_mul_left->aHp,add_le_add->aHq,pow_succ->aHr,pow_zero->aHs,div_one->aHt,mul_comm->aHu,div_div_eq_div_mul->aHv,le_of_eq->aHw,add_mul->aHx,min_eq_left->aHy,succ_pos->aHz
open Option renaming isSome->aHA,getD->aHB
open Option.some renaming injEq->aGC
open Prod.mk renaming injEq->aHc
open UInt8 renaming ofNat->aHd,lt_irrefl->aHC,toNat_lt->aHD
open Go.Proofs.Tryz
namespace Go.Proofs
open Go.Shelf
def Qz.QN:Go.Shelf.Ren:=⟨λ|316=>100|n=>n,λ|9=>9|3=>3|4=>4|37=>50|0=>0|127=>184|5=>5|n=>n,λ|n=>n⟩
def Qz.Qc:Go.Proofs.LaysM.n316 zq Qz.QN:={
 mixed:=by kernel_rfl
 f316:=(Qz.fn func100).trans (congrArg aA (by kernel_rfl))
 t0:=((Qz.eH 0).trans Tryz.underlying0)
 a0:=(λw=>(Qz.isAgg w 0).trans (Tryz.isAgg0 w))
 z0:=(λw=>(Qz.sizeOf w 0).trans (Tryz.sizeOf0 w))
 v0:=(λw=>(Qz.zeroValue w 0).trans (Tryz.zeroValue0 w))
 t3:=((Qz.eH 3).trans Tryz.underlying3)
 a3:=(λw=>(Qz.isAgg w 3).trans (Tryz.isAgg3 w))
 z3:=(λw=>(Qz.sizeOf w 3).trans (Tryz.sizeOf3 w))
 v3:=(λw=>(Qz.zeroValue w 3).trans (Tryz.zeroValue3 w))
 t4:=((Qz.eH 4).trans Tryz.underlying4)
 a4:=(λw=>(Qz.isAgg w 4).trans (Tryz.isAgg4 w))
 z4:=(λw=>(Qz.sizeOf w 4).trans (Tryz.sizeOf4 w))
 v4:=(λw=>(Qz.zeroValue w 4).trans (Tryz.zeroValue4 w))
 t9:=((Qz.eH 9).trans Tryz.underlying9)
 a9:=(λw=>(Qz.isAgg w 9).trans (Tryz.isAgg9 w))
 z9:=(λw=>(Qz.sizeOf w 9).trans (Tryz.sizeOf9 w))
 v9:=(λw=>(Qz.zeroValue w 9).trans (Tryz.zeroValue9 w))
 t37:=((Qz.eH 50).trans Tryz.underlying50)
 a37:=(λw=>(Qz.isAgg w 50).trans (Tryz.isAgg50 w))
 z37:=(λw=>(Qz.sizeOf w 50).trans (Tryz.sizeOf50 w))
 v37:=(λw=>(Qz.zeroValue w 50).trans (Tryz.zeroValue50 w))
 t127:=((Qz.eH 184).trans Tryz.underlying184)
 a127:=(λw=>(Qz.isAgg w 184).trans (Tryz.isAgg184 w))
 z127:=(λw=>(Qz.sizeOf w 184).trans (Tryz.sizeOf184 w))
 v127:=(λw=>(Qz.zeroValue w 184).trans (Tryz.zeroValue184 w))
 t5:=((Qz.eH 5).trans Tryz.underlying5)
 a5:=(λw=>(Qz.isAgg w 5).trans (Tryz.isAgg5 w))
 z5:=(λw=>(Qz.sizeOf w 5).trans (Tryz.sizeOf5 w))
 v5:=(λw=>(Qz.zeroValue w 5).trans (Tryz.zeroValue5 w))
 i0:=by kernel_rfl
 i3:=by kernel_rfl
 i4:=by kernel_rfl
 i5:=by kernel_rfl
 i9:=by kernel_rfl
 i37:=by kernel_rfl
 i127:=by kernel_rfl}
open Go.RowKit in
def Qz.stringslite_Clone (s:ByteArray)(w:zW)(h:s.size<=281474976710656):
  Calls zq 100 #[aK s] w λe a=>e=aL (aK s)/\zb w a:=Any.stringslite_Clone Qz.Qc s w h
end Go.Proofs
namespace Go.Proofs.Zq
open Go.RowKit Sha
def Ba (r idx)(w)(d:1<=r.size)(c:r.size<=32)(b:idx.size=32):Calls zq 54 #[aK r,aK idx] w λe a=>e=aL (.bool aE)/\a=w:=by go_enter (Qz.fn func54),ntmps54;go_wp2_with fail;refine(uB _ w (by omega) (by omega)).mono ?_;rintro e w2 ⟨rfl,h⟩;obtain rfl:w=w2:=h.symm;go_wp2;go_ret;exact⟨rfl,rfl⟩
def Jv (r idx)(w)(c:r.size<=140737488351232)(h:r.size<1\/32<r.size\/idx.size≠32):Calls zq 54 #[aK r,aK idx] w λe b=>e=aL (.bool aF)/\b=w:=by
 by_cases g:r.size<1\/32<r.size
 .go_enter (Qz.fn func54),ntmps54;go_wp2_with fail;refine(Bt _ w (by omega)).mono ?_;rintro e w2 ⟨rfl,a⟩;obtain rfl:w=w2:=a.symm;go_wp2;go_ret;exact⟨rfl,rfl⟩
 .have f:idx.size≠32:=by{omega};have d:((idx.size:Int)==32)=aF:=by{rw[zBy];omega};go_enter (Qz.fn func54),ntmps54;go_wp2_with fail;refine(uB _ w (by omega) (by omega)).mono ?_;rintro e w2 ⟨rfl,a⟩;obtain rfl:w=w2:=a.symm;go_wp2;go_ret;exact⟨rfl,rfl⟩
def CF (s)(w)(h:s.size<=1000):Calls zq 85 #[aK s] w λe a=>e=aL (aK s)/\zb w a:=by go_enter (Qz.fn func85),ntmps85;go_wp2_with fail;refine(Qz.stringslite_Clone s w (by omega)).mono ?_;rintro e w2 ⟨rfl,hb⟩;have H:=hid hb;go_wp2;go_ret;exact⟨rfl,H.out⟩
def Iz (k)(p:PW)(v)(w)(o:p.value.length<=100):
  Calls zq 56 #[.agg (bF k p.kind v p.value p.other p.dI)] w λe n=>e=aL (.agg (gV p.said.1 p.said.2))/\zb w n:=by
 obtain⟨d,S,a,b,c⟩:=p;dsimp only at o⊢;have i:Hid (d=1->PW.said ⟨d,S,a,b,c⟩=(1,a)):=λh=>by rw[PW.said];exact zAl h
 have g:Hid (d≠1->PW.said ⟨d,S,a,b,c⟩=(2,[])):=λh=>by rw[PW.said];exact zAj h
 go_enter (Qz.fn func56),ntmps56;go_upto_region 1 with(fail)
 have m:Hid (bW ((w.alloc (aI (bF k d v a b c) 112)).alloc (aI cW 76)) w.heap.size 112 (bF k d v a b c)):=(bW.new _ _ _).alloc _;have z0:Hid (bW ((w.alloc (aI (bF k d v a b c) 112)).alloc (aI cW 76)) (w.heap.size+1) 76 cW):=by have:=bW.new (w.alloc (aI (bF k d v a b c) 112)) 76 cW;rw[size_alloc]at this;exact this
 have j:Hid (zb w ((w.alloc (aI (bF k d v a b c) 112)).alloc (aI cW 76))):=((zGn _ _).alloc (zAa _) _).alloc (by simp) _;rw[show((w.alloc (aI (bF k d v a b c) 112)).alloc (aI #[aC aD 0,aK ⟨#[]⟩] 76))=((w.alloc (aI (bF k d v a b c) 112)).alloc (aI cW 76))from rfl];generalize(w.alloc (aI (bF k d v a b c) 112)).alloc (aI cW 76)=W at*;have t:W.cell? ⟨w.heap.size,1,aB⟩=aA (aC aD (d:Int)):=by rw[m.out.cell];rfl
 have s:W.cell? ⟨w.heap.size,3,aB⟩=aA (aK ⟨a.toArray⟩):=by rw[m.out.cell];rfl
 by_cases h:d=1
 .have H:=i.out h;have q:((d:Int)==1)=aE:=by{rw[zCm];omega};have l:=hid H;go_wp2_with fail;refine(CF ⟨a.toArray⟩ W (by show a.length<=1000;omega)).mono ?_;rintro e w2 ⟨rfl,f⟩;have z:=hid (z0.out.below f z0.out.lt);have r:=bD j.out f j.out.size;go_wp2_with (refine zGr rfl 76 _ _ rfl (w.heap.size+1) _ rfl rfl _ _ z.out (by kernel_rfl) rfl (by simp[Value.oneCell']) ?_);refine zGy (results_cell_row results56 _ _ (w.heap.size+1) _ _ _ _ rfl (z.out.dB _) ((Qz.eH 76).trans underlying76) rfl (by kernel_rfl)) rfl ⟨?_,bU r.out (by omega) _⟩;rw[l.out];rfl
 .have H:=g.out h;have q:((d:Int)==1)=aF:=by{rw[zBy];omega};have l:=hid H;go_wp2_with (refine zGr rfl 76 _ _ rfl (w.heap.size+1) _ rfl rfl _ _ z0.out (by kernel_rfl) rfl (by kernel_rfl) ?_);refine zGy (results_cell_row results56 _ _ (w.heap.size+1) _ _ _ _ rfl (z0.out.dB _) ((Qz.eH 76).trans underlying76) rfl (by kernel_rfl)) rfl ⟨?_,bU j.out (by omega) _⟩;rw[l.out];rfl
def DO (root idx s)(w)(hs:s.size<=140737488351232)(A:root.size<=140737488351232)(E:fJ w):
  Calls zq 34 #[aK root,aK idx,aK s] w λe x=>zb w x/\
   e=aL (.tuple #[.agg (gV (verdict root.data.toList idx.data.toList s.data.toList).1 (verdict root.data.toList idx.data.toList s.data.toList).2.1),aC aD ((verdict root.data.toList idx.data.toList s.data.toList).2.2:Nat)]):=by
 have d:root.data.toList.length=root.size:=by simp
 have q:idx.data.toList.length=idx.size:=by simp
 have F:=hid E;have z0:Hid (bW (w.alloc (aI cW 76)) w.heap.size 76 cW):=bW.new _ _ _;have l:Hid (zb w (w.alloc (aI cW 76))):=(zGn _ _).alloc (zAa _) _;go_enter (Qz.fn func34),ntmps34;go_wp2_with fail;by_cases g:root.size<1\/32<root.size\/idx.size≠32
 .have H:Hid (verdict root.data.toList idx.data.toList s.data.toList=(0,[],1)):=by{show _=_;rw[verdict,zAl (by rw[d,q];exact g)]};refine(Jv root idx _ A g).mono ?_;rintro e w2 ⟨rfl,h⟩;obtain rfl:=h.symm;clear h;go_wp2_with (refine zGr rfl 76 _ _ rfl w.heap.size cW rfl rfl _ _ z0.out (by kernel_rfl) rfl (by kernel_rfl) ?_);refine zGy (fD results34 _ _ w.heap.size _ _ _ _ rfl (z0.out.dB _) ((Qz.eH 76).trans underlying76) rfl (by kernel_rfl) _ rfl) rfl ⟨bU l.out (zAa _) _,?_⟩;rw[H.out];rfl
 refine(Ba root idx _ (by omega) (by omega) (by omega)).mono ?_;rintro e w2 ⟨rfl,h⟩;obtain rfl:=h.symm;clear h;go_wp2_with fail;refine(Jb root idx s (w.alloc (aI cW 76)) hs (by omega) (by omega) (by omega) (F.out.below l.out (zAa _))).mono ?_;rintro e w1 ⟨hb,b⟩;have B:Hid (zb w w1):=l.out.trans (hb.mono (by rw[size_alloc];omega));have r:=hid (z0.out.below hb z0.out.lt);have z:=r.out.lt;have y:Hid (bW (w1.alloc (aI cZ 112)) w1.heap.size 112 cZ):=bW.new _ _ _;rw[size_alloc]at b;clear hb l z0;obtain⟨i,rfl⟩|⟨p,v,i,o,a,rfl,c⟩:=b
 .have H:=hid (SQ i);have D:=Bg root.data.toList idx.data.toList s.data.toList;generalize bT root.data.toList idx.data.toList s.data.toList=n at*;have C:((n:Int)!=0)=aE:=by rw[bne_iff_ne];omega
  have Z:Hid (bW ((w1.alloc (aI cZ 112)).setRow w1.heap.size cZ) w.heap.size 76 cW):=(r.out.alloc _).uS _ (by omega);have j:Hid (zb w ((w1.alloc (aI cZ 112)).setRow w1.heap.size cZ)):=bU (B.out.alloc B.out.size _) B.out.size _;clear i;go_wp2_with (first
   |refine zGr rfl 112 _ _ rfl w1.heap.size cZ rfl rfl _ _ y.out (by kernel_rfl) rfl (by kernel_rfl) ?_
   |refine zGr rfl 76 _ _ rfl w.heap.size cW rfl rfl _ _ Z.out (by kernel_rfl) rfl (by kernel_rfl) ?_)
  refine zGy (fD results34 _ _ w.heap.size _ _ _ _ rfl (Z.out.dB _) ((Qz.eH 76).trans underlying76) rfl (by kernel_rfl) _ rfl) rfl ⟨bU j.out (zAa _) _,?_⟩;rw[H.out];rfl
 .have H:Hid (verdict root.data.toList idx.data.toList s.data.toList=(p.said.1,p.said.2,0)):=FU i o a;have G:=hid c;have m:p.value.length<=100:=(tQ (by rw[d];omega) o).value;rw[d];obtain⟨k,t⟩:∃k,k=root.size:=⟨_,rfl⟩;rw[<-t];clear t;have K:Hid (bW ((w1.alloc (aI cZ 112)).setRow w1.heap.size (bF k p.kind v p.value p.other p.dI)) w1.heap.size 112 (bF k p.kind v p.value p.other p.dI)):=y.out.dB _;have Z:Hid (bW ((w1.alloc (aI cZ 112)).setRow w1.heap.size (bF k p.kind v p.value p.other p.dI)) w.heap.size 76 cW):=(r.out.alloc _).uS _ (by omega);have j:Hid (zb w ((w1.alloc (aI cZ 112)).setRow w1.heap.size (bF k p.kind v p.value p.other p.dI))):=bU (B.out.alloc B.out.size _) B.out.size _;clear i o a c;go_wp2_with (first
   |refine zGr rfl 112 _ _ rfl w1.heap.size (bF _ _ _ _ _ _) rfl rfl _ _ y.out (by kernel_rfl) rfl (QE G.out) ?_
   |refine zGv rfl 112 _ rfl w1.heap.size rfl _ _ _ _ K.out ((Qz.eH 112).trans underlying112) rfl (by kernel_rfl) ?_)
  refine(Iz k p v ((w1.alloc (aI cZ 112)).setRow w1.heap.size (bF k p.kind v p.value p.other p.dI)) m).mono ?_;rintro e w2 ⟨rfl,f⟩;have I:=Di j.out f j.out.size;have u:Hid (bW w2 w.heap.size 76 cW):=Z.out.below f Z.out.lt;clear f j Z K;go_wp2_with (refine zGr rfl 76 _ _ rfl w.heap.size (gV _ _) rfl rfl _ _ u.out (by kernel_rfl) rfl (by simp[gV,Value.oneCell']) ?_);refine zGy (fD results34 _ _ w.heap.size _ _ _ _ rfl (u.out.dB _) ((Qz.eH 76).trans underlying76) rfl (by kernel_rfl) _ rfl) rfl ⟨bU I.out (zAa _) _,?_⟩;rw[H.out];rfl
def dY (c:Int)(n:Int):Int:=(if c<0 then-(c+1)else c)%n
def UM (c)(n)(h:0<n):0<=dY c n/\dY c n<n:=⟨Int.emod_nonneg _ (by omega),Int.emod_lt_of_pos _ h⟩
def gN (c)(n:Nat)(h:0<n):∃m:Nat,dY c (n)=(m)/\m<n:=by obtain⟨b,a⟩:=UM c n (by omega);exact⟨(dY c n).toNat,by omega,by omega⟩
def oQ (c n)(w)(i: -9223372036854775808<=c)(g:c<=9223372036854775807)(f:1<=n)(d:n<=256):
  Calls zq 15 #[aC aD c,aC aD n] w λe b=>e=aL (aC aD (dY c n))/\b=w:=by
 by_cases a:c<0
 .have h:Hid (dY c n= -(c+1).tmod n):=by{show _=_;rw[dY,zAl a,<-Int.neg_tmod,aHi (by omega)]};go_enter (Qz.fn func15),ntmps15;go_wp2;go_ret;exact⟨by rw[h.out];rfl,rfl⟩
 .have h:Hid (dY c n=c%n):=by{show _=_;rw[dY,zAj a]};go_enter (Qz.fn func15),ntmps15;go_wp2;go_ret;exact⟨by rw[h.out];rfl,rfl⟩
def iN (l:zB):zA:=(l.map λb=>Value.int aP (b.toNat:Int)).toArray
def BB (l)(i)(h:i<l.length):(iN l)[i]? =aA (aC aP ((l.getD i 0).toNat:Int)):=by simp[iN,h]
def AZ (l)(i)(b:UInt8):(iN l).setIfInBounds i (aC aP (b.toNat:Int))=iN (l.set i b):=by apply zCu.1;rw[zDx];simp[iN,List.map_set]
def AV (n:Nat):zA:=iN (List.replicate n 0)
def IU (n:Nat)(e:n<=1000)(W):(Instr.makeSlice 50 (aC aD (n)) (aC aD (n))).run zq W= .ok (aJ (aA ⟨W.heap.size,0,aB⟩) n n) (W.alloc (aI (AV n) 5)):=by
 obtain⟨i,d,c,b,a⟩:=CH;have:=run_make W 50 5 i (aC aP 0) ((Qz.eH 50).trans underlying50) d c aD aD (n:Int) (n:Int) (by omega) (Int.le_refl _) (by rw[a];omega) (by omega);have h:(madeCells (Value.int aP 0).cells n)=AV n:=by apply zCu.1;rw[show(Value.int aP 0).cells= #[Value.int aP 0]from rfl,toList_madeCells_one];simp[AV,iN]
 rw[this,b,zEv,show((n:Int)).toNat=n from by omega,h]
def Eg {W:zW}{g:Nat}{l:zB}(h:bW W g 5 (iN l))(c:Nat):(convert 50 9 (aJ (aA ⟨g,0,aB⟩) l.length c)).run zq W= .ok (aK ⟨l.toArray⟩) W:=
 mE (P:=zq) W 50 9 5 g 0 c l ((Qz.eH 50).trans underlying50) ((Qz.eH 5).trans underlying5) ((Qz.eH 9).trans underlying9) (λj a=>by rw[zAz,h.cell j];exact BB l j a)
def idxOf (n:Int):zB:=((List.replicate 32 0).set 0 (aHd ((dY n 64).toNat/2*8))).set 31 (aHd ((dY n 64).toNat%2))
def lG (n):(idxOf n).length=32:=by simp[idxOf]
def pV (n)(w)(q: -9223372036854775808<=n)(p:n<=9223372036854775807):
  Calls zq 22 #[aC aD n] w λe d=>e=aL (aK ⟨(idxOf n).toArray⟩)/\zb w d:=by
 have a:∀W,(Instr.makeSlice 50 (aC aD 32) (aC aD 32)).run zq W= .ok (aJ (aA ⟨W.heap.size,0,aB⟩) 32 32) (W.alloc (aI (AV 32) 5)):=IU 32 (by omega);have r:Hid (zb w (w.alloc (aI (AV 32) 5))):=(zGn _ _).alloc (zAa _) _;have k:Hid (bW (w.alloc (aI (AV 32) 5)) w.heap.size 5 (iN (List.replicate 32 0))):=bW.new _ _ _;go_enter (Qz.fn func22),ntmps22;go_wp2_with fail;generalize w.alloc (aI (AV 32) 5)=w0 at*;refine(oQ n 64 w0 q p (by omega) (by omega)).mono ?_;rintro e w2 ⟨rfl,h⟩;obtain rfl:w0=w2:=h.symm;clear h a;obtain⟨m,b,c⟩:=gN n 64 (by omega);have H:Hid (dY n 64=(m:Int)):=b;rw[show dY n 64=(m:Int)from b];clear b;have l:((m:Int)/2*8)=((aHd (m/2*8)).toNat:Int):=by rw[zCv];omega
 have j:((m:Int)%2)=((aHd (m%2)).toNat:Int):=by rw[zCv];omega
 have o:Hid (idxOf n=((List.replicate 32 0).set 0 (aHd (m/2*8))).set 31 (aHd (m%2))):=by rw[idxOf,H.out];rfl
 have i:=(aHd (m/2*8)).toNat_lt;have g:=(aHd (m%2)).toNat_lt;generalize aHd (m/2*8)=x at*;generalize aHd (m%2)=y at*;have t:w0.cell? ⟨w.heap.size,0,aB⟩=aA (aC aP 0):=by rw[k.out.cell];rfl
 have f0:=k.out.frozen 0;have k1:Hid (bW (w0.setCell ⟨w.heap.size,0,aB⟩ (aC aP (x.toNat:Int))) w.heap.size 5 (iN ((List.replicate 32 0).set 0 x))):=by have:=k.out.cO 0 (aC aP (x.toNat:Int));rw[AZ]at this;exact this
 have s:(w0.setCell ⟨w.heap.size,0,aB⟩ (aC aP (x.toNat:Int))).cell? ⟨w.heap.size,31,aB⟩=aA (aC aP 0):=by rw[k1.out.cell,BB _ _ (by simp)];rfl
 have f1:=k1.out.frozen 31;have k2:Hid (bW ((w0.setCell ⟨w.heap.size,0,aB⟩ (aC aP (x.toNat:Int))).setCell ⟨w.heap.size,31,aB⟩ (aC aP (y.toNat:Int))) w.heap.size 5 (iN (idxOf n))):=by have:=k1.out.cO 31 (aC aP (y.toNat:Int));rw[AZ,<-o.out]at this;exact this
 have f:(convert 50 9 (aJ (aA ⟨w.heap.size,0,aB⟩) 32 32)).run zq ((w0.setCell ⟨w.heap.size,0,aB⟩ (aC aP (x.toNat:Int))).setCell ⟨w.heap.size,31,aB⟩ (aC aP (y.toNat:Int)))= .ok (aK ⟨(idxOf n).toArray⟩) ((w0.setCell ⟨w.heap.size,0,aB⟩ (aC aP (x.toNat:Int))).setCell ⟨w.heap.size,31,aB⟩ (aC aP (y.toNat:Int))):=by have:=Eg k2.out 32;rw[lG]at this;exact this
 have i1:(0:Int)<=(m:Int)/2*8:=by omega
 have i2:(m:Int)/2*8<256:=by omega
 go_wp2;go_ret;exact⟨rfl,(r.out.setCell (by simp) _).setCell (by simp) _⟩
def valOf (n:Int):zB:=List.replicate ((dY n 30).toNat%5) (aHd (97+(dY n 30).toNat))
def xF (n):(valOf n).length<=4:=by rw[valOf,zDj];omega
def CU (n)(w)(z: -9223372036854775808<=n)(y:n<=9223372036854775807):
  Calls zq 37 #[aC aD n] w λe g=>e=aL (aK ⟨(valOf n).toArray⟩)/\zb w g:=by
 go_enter (Qz.fn func37),ntmps37;go_wp2_with fail;refine(oQ n 30 w z y (by omega) (by omega)).mono ?_;rintro e w2 ⟨rfl,h⟩;obtain rfl:w=w2:=h.symm;obtain⟨m,d,c⟩:=gN n 30 (by omega);have A:Hid (dY n 30=(m:Int)):=d;rw[show dY n 30=(m:Int)from d];have H:Hid (valOf n=List.replicate (m%5) (aHd (97+m))):=by show _=_;rw[valOf,A.out];rfl
 have f:(97:Int)+(m:Int)=((aHd (97+m)).toNat:Int):=by rw[zCv];omega
 have B:=hid f;clear f;obtain⟨r,a⟩:∃r:Nat,r=m%5:=⟨_,rfl⟩;have p:(m:Int)%5=(r:Int):=by omega
 have s:r<5:=by omega
 rw[<-a]at H;clear a;generalize aHd (97+m)=b at*;have t:=b.toNat_lt;go_wp2;go_loopg [4,5] r (λq x i wr=>∃j:Nat,j+q=r/\i=aC aD (j:Int)/\x=aK ⟨(List.replicate j b).toArray⟩/\zb w wr);case atStart=>exact⟨0,by omega,rfl,rfl,zGn _ _⟩
 case round=>
  obtain⟨j,D,rfl,rfl,c1⟩:=hrel
  have C:=hid c1
  clear c1
  by_cases bX:j<r
  .have k:(⟨(List.replicate j b).toArray⟩:ByteArray).size=j:=by show(List.replicate j b).length=j;simp
   have o:(convert 50 9 (aJ (aA ⟨wr.heap.size,0,aB⟩) 1 1)).run zq (wr.alloc (aI #[aC aP (b.toNat:Int)] 5))= .ok (aK ⟨#[b]⟩) (wr.alloc (aI #[aC aP (b.toNat:Int)] 5)):=Eg (l:=[b]) (bW.new _ _ _) 1;have v:Hid ((⟨(List.replicate j b).toArray⟩:ByteArray)++⟨#[b]⟩=⟨(List.replicate (j+1) b).toArray⟩):=by apply zDv;apply zCu.1;simp[zEo,List.replicate_succ']
   have u:=B.out;generalize(⟨(List.replicate j b).toArray⟩:ByteArray)=X at*;go_wp2;go_roundg (r-(j+1));case measure=>omega
   case rel=>
    go_light
    exact⟨j+1,by omega,by go_num,by rw[<-v.out],C.out.alloc C.out.size _⟩
  .obtain rfl:j=r:=by{omega};go_wp2;go_ret;exact⟨by rw[H.out];rfl,C.out⟩
structure bZ where
 idx:zB
 val:zB
 gone:Bool
def bZ.cells (u:bZ):zV:=[aK ⟨u.idx.toArray⟩,aK ⟨u.val.toArray⟩,.bool u.gone]
def cK (l:List bZ):zV:=l.flatMap bZ.cells
def vQ (u)(l):cK (u::l)=u.cells++cK l:=rfl
def vP (l)(u):cK (l++[u])=cK l++u.cells:=by simp[cK]
def nD (l):(cK l).length=l.length*3:=by
 induction l with
 |nil=>rfl
 |cons u l i=>rw[vQ,zAg,i,zAi];show 3+_=_;omega
def rK (l):∀(i)(u),l[i]? =aA u->∀j,j<3->(cK l)[i*3+j]? =u.cells[j]? :=by
 induction l with
 |nil=>intro i u h;cases h
 |cons a l b=>
  intro i u h j c;rw[vQ];cases i with
  |zero=>simp only[zDe,aGC]at h;subst h;rw[zCn (by show _<3;omega)];simp
  |succ i=>rw[zBx (by show 3<=_;omega),show(i+1)*3+j-a.cells.length=i*3+j by show(i+1)*3+j-3=_;omega];exact b i u (by simpa using h) j c
def EV (u:bZ):∀x∈u.cells,x.oneCell'=aE:=by intro x h;simp only[bZ.cells,zAf,zAr,zCb]at h;obtain rfl|rfl|rfl:=h<;>rfl
def cM (w:zW)(base:Nat)(v:zY)(l:List bZ):Prop:=w.ownsRow base 53 3 v l.length (cK l)
def cM.nil (w)(base):cM w base (aJ aB 0 0) []:=World.ownsRow_nil _ _ _ _
def cM.alloc {w base v l}(h:cM w base v l)(o):cM (w.alloc o) base v l:=World.ownsRow.alloc h o
def cM.lt {w base v l}(h:cM w base v l):∀k,v.ownBlock=aA k->base<=k/\k<w.heap.size:=World.ownsRow.lt h
def cM.kept {w w' base v l}(h:cM w base v l)(b:∀g,v.ownBlock=aA g->w'.heap[g]? =w.heap[g]?):cM w' base v l:=by
 obtain⟨d,a⟩:=h;refine⟨d,?_⟩;obtain a|⟨g,cap,cur,rfl,hb,c,r⟩:=a
 .exact aG a
 .exact aH ⟨g,cap,cur,rfl,hb,by rw[b g rfl];exact c,r⟩
def cM.below {w w':zW}{B base:Nat}{v:zY}{l:List bZ}(h:cM w base v l)(b:Below B w w')(c:w.heap.size<=B):cM w' base v l:=
 h.kept λg a=>b.block g (zAc (h.lt g a).2 c)
def FV:∃i,zq.info? 53=aA i/\i.zero=aA (.agg #[aK ⟨#[]⟩,aK ⟨#[]⟩,.bool aF])/\i.size=3/\i.bytes=40:=by
 have h:(zq.info? 53).map (λi=>(i.zero,i.size,i.bytes))=aA (aA (.agg #[aK ⟨#[]⟩,aK ⟨#[]⟩,.bool aF]),3,40):=by kernel_rfl
 cases a:zq.info? 53 with
 |none=>rw[a]at h;cases h
 |some i=>rw[a]at h;simp only[zBh,aGC,aHc]at h;exact⟨i,rfl,h.1,h.2.1,h.2.2⟩
def kK {W ops rest o a Q}(f:o.guard=aB)(s x)
  (r:o.op= .call {callee:= .builtin .append,args:= #[s,x],argTypes:= #[48,48]})
  (base) (v) (l) (hs:a.eval s=v) (b:cM W base v l) (u) (c) (q:a.eval x=aJ (aA ⟨W.heap.size,0,aB⟩) 1 c)
  (z:l.length<=1000000) (m:base<=W.heap.size)
  (h:∀g cap w',cM w' base (aJ (aA ⟨g,0,aB⟩) (l.length+1) cap) (l++[u])->W.grownBy w' v.ownBlock->wpList zq ops Q rest (a.put o.dst (aJ (aA ⟨g,0,aB⟩) (l.length+1) cap)) w'):wpList zq ops Q (o::rest) a (W.alloc (aI #[aK ⟨u.idx.toArray⟩,aK ⟨u.val.toArray⟩,.bool u.gone] 53)):=by
 obtain⟨i,hi,n,e,k⟩:=FV;refine wpList_append_lies _ f s x 48 r base 53 i _ 3 40 ((Qz.eH 48).trans underlying48) hi n e k rfl (by omega) v l.length (cK l) hs (World.ownsRow.alloc b _) ⟨W.heap.size,0,aB⟩ 1 c u.cells q rfl (λj y p=> ?_) (EV u) (by omega) (by simp only[maxLen];omega) (by omega) (by rw[size_alloc];omega) _ rfl (λg cap w' w t _ _=>h g cap w' ?_ (iV t))
 .have d:(⟨W.heap.size,0,aB⟩:Addr).add j=⟨W.heap.size,j,aB⟩:=by{unfold Addr.add;split<;>simp_all};rw[d];show(W.alloc (aI u.cells.toArray 53)).cell? _=_;rw[(bW.new W 53 u.cells.toArray).cell j];simpa using p
 .unfold cM;rw[vP,zAg];exact w
def eX {w0 w w':zW}{B base:Nat}{v:zY}{l:List bZ}(d:Below B w0 w)(h:cM w base v l)(c:w.grownBy w' v.ownBlock)(e:B<=base)(a:B<=w.heap.size):Below B w0 w':=
 d.grown c a λk b=>zAv e (h.lt k b).1
def eA (r:Int×Int):bZ:=if r.2%7=0 then⟨idxOf r.1,[],aE⟩else⟨idxOf r.1,valOf r.2,aF⟩
structure wI (w:zW)(v:zY)(l:zII):Prop where
 fits:∀r∈l,-9223372036854775808<=r.1/\r.1<=9223372036854775807/\-9223372036854775808<=r.2/\r.2<=9223372036854775807
 EM:(l=[]/\∃a c,v=aJ a 0 c)\/∃g o c,v=aJ (aA ⟨g,o,aB⟩) l.length c/\g<w.heap.size/\∀i r,l[i]? =aA r->w.cell? ⟨g,o+i*2,aB⟩=aA (aC aD r.1)/\w.cell? ⟨g,o+i*2+1,aB⟩=aA (aC aD r.2)
def wI.below {w w' B v l}(h:wI w v l)(a:Below B w w')(e:w.heap.size<=B):wI w' v l:=by
 refine⟨h.fits,?_⟩;obtain d|⟨g,o,c,d,b,j⟩:=h.EM
 .exact aG d
 .refine aH ⟨g,o,c,d,zAc b a.size,λi r f=> ?_⟩;rw[a.cell (zAc b e),a.cell (zAc b e)];exact j i r f
def eP:∀a:zB,Lib.compareBytes a a=0
 |[]=>rfl
 |x::a=>by rw[aHf,zAj (aHC x),zAj (aHC x)];exact eP a
def lJ:∀{a b:zB},aHf a b=0->a=b
 |[],[],_=>rfl
 |[],_::_,h=>by simp[aHf]at h
 |_::_,[],h=>by simp[aHf]at h
 |x::a,y::b,h=>by
  rw[aHf]at h;by_cases d:x<y;{rw[zAl d]at h;cases h}
  .rw[zAj d]at h;by_cases c:y<x
   .rw[zAl c]at h;cases h
   .rw[zAj c]at h;have e:=zGi (zFc.1 c) (zFc.1 d);rw[e,lJ h]
def jG:∀a b:zB,aHf a b= -1\/aHf a b=0\/aHf a b=1
 |[],[]=>aH (aG rfl)
 |[],_::_=>aG rfl
 |_::_,[]=>aH (aH rfl)
 |x::a,y::b=>by
  rw[aHf];by_cases c:x<y;{rw[zAl c];exact aG rfl}
  .rw[zAj c];by_cases h:y<x
   .rw[zAl h];exact aH (aH rfl)
   .rw[zAj h];exact jG a b
def iF:∀a b:zB,aHf b a= -aHf a b
 |[],[]=>rfl
 |[],_::_=>rfl
 |_::_,[]=>rfl
 |x::a,y::b=>by
  rw[aHf,aHf];by_cases h:x<y;{rw[zAl h,zAj (zFc.2 (UInt8.le_of_lt h)),zAl h];rfl}
  .by_cases c:y<x
   .simp only[zAl c,zAj h]
   .simp only[zAj c,zAj h];exact iF a b
def oE:∀{a b c:zB},aHf a b= -1->aHf b c= -1->aHf a c= -1
 |[],[],_,h,_=>by simp[aHf]at h
 |_::_,[],_,h,_=>by simp[aHf]at h
 |[],_::_,[],_,h=>by simp[aHf]at h
 |[],_::_,_::_,_,_=>rfl
 |_::_,_::_,[],_,h=>by simp[aHf]at h
 |x::a,y::b,z::c,k,i=>by
  rw[aHf]at k i⊢;by_cases g:x<y
  .by_cases d:y<z
   .rw[zAl (UInt8.lt_trans g d)]
   .rw[zAj d]at i;by_cases f:z<y
    .rw[zAl f]at i;simp at i
    .have e:=zGi (zFc.1 f) (zFc.1 d);rw[<-e,zAl g]
  .rw[zAj g]at k;by_cases j:y<x
   .rw[zAl j]at k;simp at k
   .rw[zAj j]at k;have e:=zGi (zFc.1 j) (zFc.1 g);subst e;by_cases d:x<z
    .rw[zAl d]
    .rw[zAj d]at i⊢;by_cases f:z<x
     .rw[zAl f]at i;simp at i
     .rw[zAj f]at i⊢;exact oE k i
def iB (l:List qW):Prop:=l.Pairwise λa b=>aHf a.1 b.1= -1
def yG (l:List qW)(u:bZ):List qW:=
 l.filter (λe=>decide (aHf e.1 u.idx= -1))++((if u.gone then []else [(u.idx,u.val)])++l.filter (λe=>decide (aHf e.1 u.idx=1)))
def dC (l:List qW)(us:List bZ):List qW:=us.foldl yG l
def wU {l u}(h:iB l):iB (yG l u):=by
 unfold yG iB;rw[List.pairwise_append,List.pairwise_append];refine⟨h.filter _,⟨?_,h.filter _,?_⟩,?_⟩
 .split<;>simp
 .intro a d b c;split at d
  .cases d
  .rw[zAn]at d;subst d;have:=of_decide_eq_true (zAx.1 c).2;rw[iF b.1 u.idx,this]
 .intro a d b c;have e:=of_decide_eq_true (zAx.1 d).2;obtain c|c:=zAh.1 c
  .split at c
   .cases c
   .rw[zAn]at c;subst c;exact e
  .have f:=of_decide_eq_true (zAx.1 c).2;exact oE e (by rw[iF b.1 u.idx,f])
def yH {us}:∀{l},iB l->iB (dC l us):=by
 induction us with
 |nil=>intro l h;exact h
 |cons u us i=>intro l h;exact i (wU h)
def ix (k:Nat):zB:=idxOf (k:Int)
def JE (n):idxOf n=ix (dY n 64).toNat:=by
 unfold ix idxOf;obtain⟨m,h,hl⟩:=gN n 64 (by omega);have e:dY n 64=(m:Int):=h;rw[e,zFh];have a:dY (m:Int) 64=(m:Int):=by unfold dY;rw[zAj (by omega)];omega
 rw[a,zFh]
def MZ (n):(dY n 64).toNat<64:=by obtain⟨m,h,hl⟩:=gN n 64 (by omega);have e:dY n 64=(m:Int):=h;rw[e,zFh];exact hl
def rD (k):(ix k).length=32:=lG _
def BU (j k)(a:j<64)(h:k<64):aHf (ix j) (ix k)=if j<k then-1 else if k<j then 1 else 0:=by
 have H:∀j k:Fin 64,aHf (ix j.val) (ix k.val)=if j.val<k.val then-1 else if k.val<j.val then 1 else 0:=by decide+kernel
 exact H ⟨j,a⟩ ⟨k,h⟩
abbrev St:=Nat->Option (zB)
def St.put (s:St)(m:Nat)(v:Option (zB)):St:=λk=>if k=m then v else s k
def dD (s:St)(k:Nat):Option qW:=(s k).map λv=>(ix k,v)
def bQ (s:St):List qW:=(List.range 64).filterMap (dD s)
def range_split (m)(b:m<64):List.range 64=List.range m++(m::(List.range (63-m)).map (·+(m+1))):=by
 apply List.ext_getElem (by simp;omega);intro i d c;simp only[List.getElem_range];by_cases h:i<m
 .rw[List.getElem_append_left (by simpa using h)];simp
 .rw[List.getElem_append_right (by simpa using zFe.1 h)];simp only[List.length_range];by_cases a:i=m
  .subst a;simp
  .obtain⟨j,rfl⟩:∃j,i=m+1+j:=⟨i-(m+1),by omega⟩;simp[show m+1+j-m=j+1 by omega];omega
def oW {s s':St}{l:List Nat}(h:∀k∈l,s k=s' k):l.filterMap (dD s)=l.filterMap (dD s'):=
 by
 induction l with
 |nil=>rfl
 |cons a l i=>have e:dD s a=dD s' a:=by{unfold dD;rw[h a (zBj ..)]};rw[zDz,zDz,e,i λk b=>h k (zBl _ b)]
def filter_all {s}{l:List Nat}{p}(h:∀k∈l,∀v,p (ix k,v)=aE):(l.filterMap (dD s)).filter p=l.filterMap (dD s):=by
 rw[zFo];intro e d;obtain⟨k,c,a⟩:=zFt.1 d;unfold dD at a;cases b:s k with
 |none=>rw[b]at a;cases a
 |some v=>rw[b]at a;simp only[zBh,aGC]at a;subst a;exact h k c v
def filter_none {s}{l:List Nat}{p}(h:∀k∈l,∀v,p (ix k,v)=aF):(l.filterMap (dD s)).filter p=[]:=by
 rw[zFy];intro e d;obtain⟨k,c,a⟩:=zFt.1 d;unfold dD at a;cases b:s k with
 |none=>rw[b]at a;cases a
 |some v=>rw[b]at a;simp only[zBh,aGC]at a;subst a;rw[h k c v];decide
def Ov (s)(m)(d:m<64)(v)(g):yG (bQ s) ⟨ix m,v,g⟩=bQ (s.put m (if g then aB else aA v)):=by
 unfold bQ yG;have a:∀k∈List.range m,k<m:=λk h=>zBs.1 h;have b:∀k∈(List.range (63-m)).map (·+(m+1)),m<k/\k<64:=λk h=>by obtain⟨j,u,rfl⟩:=zCh.1 h;have:=zBs.1 u;omega
 rw[range_split m d];simp only[zDs,zDz,zDl];generalize List.range m=A at*;generalize(List.range (63-m)).map (·+(m+1))=C at*;have q:(A.filterMap (dD s)).filter (λe=>decide (aHf e.1 (ix m)= -1))=A.filterMap (dD s):=filter_all λk h v=>by have:=a k h;rw[show((ix k,v):qW).1=ix k from rfl,BU k m (by omega) d,zAl this];decide
 have p:(A.filterMap (dD s)).filter (λe=>decide (aHf e.1 (ix m)=1))=[]:=filter_none λk h v=>by have:=a k h;rw[show((ix k,v):qW).1=ix k from rfl,BU k m (by omega) d,zAl this];decide
 have i:(C.filterMap (dD s)).filter (λe=>decide (aHf e.1 (ix m)= -1))=[]:=filter_none λk h v=>by have:=b k h;rw[show((ix k,v):qW).1=ix k from rfl,BU k m (by omega) d,zAj (by omega),zAl (by omega)];decide
 have f:(C.filterMap (dD s)).filter (λe=>decide (aHf e.1 (ix m)=1))=C.filterMap (dD s):=filter_all λk h v=>by have:=b k h;rw[show((ix k,v):qW).1=ix k from rfl,BU k m (by omega) d,zAj (by omega),zAl (by omega)];decide
 have o:A.filterMap (dD (s.put m (if g then aB else aA v)))=A.filterMap (dD s):=oW λk h=>by have:=a k h;unfold St.put;rw[zAj (by omega)]
 have n:C.filterMap (dD (s.put m (if g then aB else aA v)))=C.filterMap (dD s):=oW λk h=>by have:=b k h;unfold St.put;rw[zAj (by omega)]
 have l:dD (s.put m (if g then aB else aA v)) m=if g then aB else aA (ix m,v):=by unfold dD St.put;rw[zAl rfl];cases g<;>rfl
 rw[o,n,l,q,p];cases c:dD s m with
 |none=>rw[i,f];cases g<;>simp
 |some e=>
  have t:aHf e.1 (ix m)=0:=by
   unfold dD at c;cases r:s m with
   |none=>rw[r]at c;cases c
   |some x=>rw[r]at c;simp only[zBh,aGC]at c;rw[<-c];exact eP _
  rw[zAt (by rw[t];decide),zAt (by rw[t];decide),i,f];cases g<;>simp
def St.with (s:St)(l:zII):St:=(l.take 20).foldl (λs r=>s.put (dY r.1 64).toNat (if r.2%7=0 then aB else aA (valOf r.2))) s
def Gs (s)(l):dC (bQ s) ((l.take 20).map eA)=bQ (s.with l):=by
 unfold dC St.with;generalize l.take 20=r;induction r generalizing s with
 |nil=>rfl
 |cons x r i=>rw[zEa,zFd,zFd,<-i];congr 1;unfold eA;by_cases h:x.2%7=0;{rw[zAl h,zAl h,JE,Ov _ _ (MZ _)];rfl};{rw[zAj h,zAj h,JE,Ov _ _ (MZ _)];rfl}
def wO {s e}(h:e∈bQ s):∃k,k<64/\e.1=ix k/\s k=aA e.2:=by
 obtain⟨k,c,a⟩:=zFt.1 h;unfold dD at a;cases b:s k with
 |none=>rw[b]at a;cases a
 |some v=>rw[b]at a;simp only[zBh,aGC]at a;subst a;exact⟨k,zBs.1 c,rfl,b⟩
def Qg {j k}(c:j<64)(b:k<64)(h:ix j=ix k):j=k:=by
 have a:=BU j k c b;rw[h,eP]at a;split at a
 .cases a
 .split at a
  .cases a
  .omega
def BD {s}(g:∀k v,s k=aA v->v.length<=100):mA (bQ s):=by
 refine⟨λe a=> ?_,λe a=> ?_,λe a n b h=> ?_⟩
 .obtain⟨k,_,d,_⟩:=wO a;rw[d];exact rD k
 .obtain⟨k,_,_,c⟩:=wO a;exact g k _ c
 .obtain⟨j,l,d,c⟩:=wO a;obtain⟨k,i,m,f⟩:=wO b;have:j=k:=Qg l i (by rw[<-d,<-m,h]);subst this;rw[c]at f;exact Prod.ext h (zAm f)
def Zv {s}(d:∀k v,s k=aA v->v.length<=100)(m)(b:m<64):eZ (bQ s) (ix m)=s m:=by
 cases a:s m with
 |some v=>exact NW (BD d) (zFt.2 ⟨m,zBs.2 b,by unfold dD;rw[a];rfl⟩)
 |none=>refine fP λe g h=> ?_;obtain⟨k,f,i,c⟩:=wO g;have:k=m:=Qg f b (by rw[<-i,h]);subst this;rw[a]at c;cases c
def Mr {s:St}(a:∀k v,s k=aA v->v.length<=100)(l):∀k v,s.with l k=aA v->v.length<=100:=by
 unfold St.with;generalize l.take 20=r;induction r generalizing s with
 |nil=>exact a
 |cons x r i=>
  rw[zFd];refine i λk v h=> ?_;unfold St.put at h;split at h
  .split at h
   .cases h
   .have:=xF x.2;simp only[aGC]at h;subst h;omega
  .exact a k v h
def TF (s):iB (bQ s):=by
 unfold bQ iB;have h:(List.range 64).Pairwise (·<·):=List.pairwise_lt_range;rw[List.pairwise_filterMap];refine h.imp_of_mem λ{j k} i g f=> ?_;intro a d b c;have m:a.1=ix j:=by
  unfold dD at d;cases e:s j with
  |none=>rw[e]at d;cases d
  |some v=>rw[e]at d;simp only[zBh,aGC]at d;rw[<-d]
 have l:b.1=ix k:=by
  unfold dD at c;cases e:s k with
  |none=>rw[e]at c;cases c
  |some v=>rw[e]at c;simp only[zBh,aGC]at c;rw[<-c]
 rw[m,l,BU j k (zBs.1 i) (zBs.1 g),zAl f]
def KY {α β:Type}(l:List α)(f:α->β)(t)(h:t<l.length):(l.take (t+1)).map f=(l.take t).map f++[f l[t]]:=by rw[zCc h,zDm];rfl
def wI.at {w w' v vc l}(h:wI w (aJ v l.length vc) l)(d:zb w w')(t)(b:t<l.length):
  ∃g o,v=aA ⟨g,o,aB⟩/\w'.cell? ⟨g,o+t*2,aB⟩=aA (aC aD l[t].1)/\w'.cell? ⟨g,o+t*2+1,aB⟩=aA (aC aD l[t].2):=by
 obtain⟨rfl,_⟩|⟨g,o,c,a,e,f⟩:=h.EM
 .simp at b
 .injection a with a _ _;have:=f t l[t] (zAe b);refine⟨g,o,a,?_,?_⟩
  .rw[d.cell e];exact this.1
  .rw[d.cell e];exact this.2
def Lp (v)(l)(w)(hl:wI w v l)(X:l.length<=4611686018427387904):
  Calls zq 20 #[v] w λe G=>∃U,e=aL U/\cM G w.heap.size U ((l.take 20).map eA)/\zb w G:=by
 obtain⟨T,S,hv⟩:∃T S,v=aJ T l.length S:=by obtain⟨rfl,a,c,rfl⟩|⟨g,o,c,rfl,_⟩:=hl.EM;{exact⟨a,c,rfl⟩};{exact⟨_,c,rfl⟩}
 subst hv;have Q:=hid hl;go_enter (Qz.fn func20),ntmps20;go_wp2;go_loopg [3,4] 20 (λq out i wr=>∃t:Nat,t+q=20/\t<=l.length/\i=aC aD (t:Int)/\zb w wr/\cM wr w.heap.size out ((l.take t).map eA));case atStart=>exact⟨0,rfl,zBq _,rfl,zGn _ _,cM.nil _ _⟩
 case round=>
  obtain⟨t,ht,fj,rfl,b1,b2⟩:=hrel
  have B:=hid b1
  have K:=hid b2
  by_cases L:t<l.length/\t<20
  .obtain⟨bX,ly⟩:=L;have fl:(t:Int)<(l.length:Int):=by{omega};have Z:(t:Int)<20:=by omega
   obtain⟨g,o,rfl,c1,_⟩:=Q.out.at B.out t bX;have d:=Q.out.fits l[t] (zCt _);have E:Hid (∀W,zb w W->W.cell? ⟨g,o+t*2+1,aB⟩=aA (aC aD l[t].2)):=λW hW=>by obtain⟨g',o',e,_,h2⟩:=Q.out.at hW t bX;injection e with e;injection e with O N;subst O;subst N;exact h2
   have Hs:=hid (KY l eA t bX);generalize l[t]=r at*;obtain⟨r1,r2⟩:=r;dsimp only at*;go_wp2_with fail;refine(pV r1 wr d.1 d.2.1).mono ?_;rintro e w2 ⟨rfl,x⟩;have k:=hid (B.out.trans (x.mono B.out.size));have R:=hid (K.out.below x (zAa _));clear x c1 B K;go_upto_region 6 with(fail)
   have A:Hid (bW (w2.alloc (aI #[aK ⟨(idxOf r1).toArray⟩,aK ⟨#[]⟩,.bool aF] 53)) w2.heap.size 53 #[aK ⟨(idxOf r1).toArray⟩,aK ⟨#[]⟩,.bool aF]):=bW.new _ _ _;have f:Hid (zb w (w2.alloc (aI #[aK ⟨(idxOf r1).toArray⟩,aK ⟨#[]⟩,.bool aF] 53))):=k.out.alloc k.out.size _;have J:Hid (cM (w2.alloc (aI #[aK ⟨(idxOf r1).toArray⟩,aK ⟨#[]⟩,.bool aF] 53)) w.heap.size u3 ((l.take t).map eA)):=R.out.alloc _;have Y:=k.out.size;have HN:Hid (∀g,u3.ownBlock=aA g->g<w2.heap.size):=λg C=>(R.out.lt g C).2;generalize w2.alloc (aI #[aK ⟨(idxOf r1).toArray⟩,aK ⟨#[]⟩,.bool aF] 53)=w3 at*;clear k R;have c3:=E.out w3 f.out;by_cases I:r2%7=0
   .have M:=aHj (aHk I);have N:w3.cell? ⟨w2.heap.size,2,aB⟩=aA (.bool aF):=by{rw[A.out.cell];rfl};have f2:=A.out.frozen 2;have P:eA (r1,r2)=⟨idxOf r1,[],aE⟩:=zAl I;go_upto_region 9 with(fail)
    have z:Hid (bW (w3.setCell ⟨w2.heap.size,2,aB⟩ (.bool aE)) w2.heap.size 53 #[aK ⟨(idxOf r1).toArray⟩,aK ⟨#[]⟩,.bool aE]):=A.out.cO 2 _;have H:Hid (zb w (w3.setCell ⟨w2.heap.size,2,aB⟩ (.bool aE))):=f.out.setCell Y _;have C4:Hid (cM (w3.setCell ⟨w2.heap.size,2,aB⟩ (.bool aE)) w.heap.size u3 ((l.take t).map eA)):=J.out.kept λg C=>zGq _ _ _ _ (by have:=HN.out g C;simp only;omega);generalize w3.setCell ⟨w2.heap.size,2,aB⟩ (.bool aE)=w4 at*;clear A f J N f2 c3;have u:=H.out.size;have j:((l.take t).map eA).length=t:=by{rw[zDa,zBg];omega};have p:((l.take t).map eA).length<=1000000:=by{omega};have y:=hid j;clear j;go_wp2_with (first|(refine zGv rfl 53 _ rfl w2.heap.size rfl 53 _ (0,0) _ z.out ((Qz.eH 53).trans underlying53) rfl (by kernel_rfl) ?_)|(at_builtin;refine kK rfl _ _ rfl w.heap.size _ _ rfl C4.out ⟨idxOf r1,[],aE⟩ 1 rfl p u ?_;intro g' D G b s));go_roundg (19-t);case measure=>omega
    case rel=>
     go_light
     refine⟨t+1,by omega,by omega,by go_num,eX H.out C4.out s (zAa _) H.out.size,?_⟩
     rw[Hs.out,show eA (r1,r2)=⟨idxOf r1,[],aE⟩from P]
     rw[y.out]at b
     exact b
   .have M:¬r2.tmod 7=0:=λh=>I (aHl (aHm h));have P:eA (r1,r2)=⟨idxOf r1,valOf r2,aF⟩:=zAj I;go_wp2_with fail;refine(CU r2 w3 d.2.2.1 d.2.2.2).mono ?_;rintro e w5 ⟨rfl,m⟩;have n:Hid (bW w5 w2.heap.size 53 #[aK ⟨(idxOf r1).toArray⟩,aK ⟨#[]⟩,.bool aF]):=A.out.below m A.out.lt;have F:Hid (zb w w5):=f.out.trans (m.mono f.out.size);have C5:Hid (cM w5 w.heap.size u3 ((l.take t).map eA)):=J.out.below m (zAa _);have O:w5.cell? ⟨w2.heap.size,1,aB⟩=aA (aK ⟨#[]⟩):=by{rw[n.out.cell];rfl};have f1:w5.frozen? ⟨w2.heap.size,1,aB⟩=aF:=n.out.frozen 1;clear m A f J c3;go_upto_region 9 with(fail)
    have z:Hid (bW (w5.setCell ⟨w2.heap.size,1,aB⟩ (aK ⟨(valOf r2).toArray⟩)) w2.heap.size 53 #[aK ⟨(idxOf r1).toArray⟩,aK ⟨(valOf r2).toArray⟩,.bool aF]):=n.out.cO 1 _;have H:Hid (zb w (w5.setCell ⟨w2.heap.size,1,aB⟩ (aK ⟨(valOf r2).toArray⟩))):=F.out.setCell Y _;have C4:Hid (cM (w5.setCell ⟨w2.heap.size,1,aB⟩ (aK ⟨(valOf r2).toArray⟩)) w.heap.size u3 ((l.take t).map eA)):=C5.out.kept λg C=>zGq _ _ _ _ (by have:=HN.out g C;simp only;omega);generalize w5.setCell ⟨w2.heap.size,1,aB⟩ (aK ⟨(valOf r2).toArray⟩)=w4 at*;clear n F C5 O f1;have u:=H.out.size;have j:((l.take t).map eA).length=t:=by{rw[zDa,zBg];omega};have p:((l.take t).map eA).length<=1000000:=by{omega};have y:=hid j;clear j;go_wp2_with (first|(refine zGv rfl 53 _ rfl w2.heap.size rfl 53 _ (0,0) _ z.out ((Qz.eH 53).trans underlying53) rfl (by kernel_rfl) ?_)|(at_builtin;refine kK rfl _ _ rfl w.heap.size _ _ rfl C4.out ⟨idxOf r1,valOf r2,aF⟩ 1 rfl p u ?_;intro g' D G b s));go_roundg (19-t);case measure=>omega
    case rel=>
     go_light
     refine⟨t+1,by omega,by omega,by go_num,eX H.out C4.out s (zAa _) H.out.size,?_⟩
     rw[Hs.out,show eA (r1,r2)=⟨idxOf r1,valOf r2,aF⟩from P]
     rw[y.out]at b
     exact b
  .have V:(l.take t).map eA=(l.take 20).map eA:=by
    by_cases h:t<l.length;{obtain rfl:t=20:=by{omega};rfl};{rw[zBn (by omega),zBn (by omega)]}
   have Hq:=hid V;clear V;by_cases h:t<l.length;{have h1:(t:Int)<(l.length:Int):=by{omega};have h2:¬(t:Int)<20:=by{omega};go_wp2;go_ret;exact⟨u3,rfl,by rw[<-List.map_take,<-Hq.out];exact K.out,B.out⟩};{have h1:¬(t:Int)<(l.length:Int):=by{omega};go_wp2;go_ret;exact⟨u3,rfl,by rw[<-List.map_take,<-Hq.out];exact K.out,B.out⟩}
def nE (is:Nat->Bool)(v:Nat->zB):zA:=(((List.range 64).map λk=>Value.bool (is k))++((List.range 64).map λk=>Value.string ⟨(v k).toArray⟩)).toArray
def jC (is)(v):(nE is v).size=128:=by simp[nE]
def mH (is)(v)(k)(h:k<64):(nE is v)[k]? =aA (.bool (is k)):=by simp only[nE,zDk];rw[zCn (by simpa using h)];simp[h]
def mG (is)(v)(k)(h:k<64):(nE is v)[64+k]? =aA (aK ⟨(v k).toArray⟩):=by simp only[nE,zDk];rw[zBx (by simp)];simp[h]
def UG {is i a v}(c:∀k,k<64->is k=i k)(b:∀k,k<64->a k=v k):nE is a=nE i v:=by unfold nE;rw[zEj (λk h=>by rw[c k (zBs.1 h)]),zEj (f:=λk=>Value.string ⟨(a k).toArray⟩) (λk h=>by rw[b k (zBs.1 h)])]
def lM {α:Type}(f:Nat->α)(m:Nat)(v:α):Nat->α:=λk=>if k=m then v else f k
def IC (is)(v)(m)(h:m<64)(b):(nE is v).setIfInBounds m (.bool b)=nE (lM is m b) v:=by
 apply zBu;intro i;rw[zBm,jC];by_cases hi:i<64
 .rw[mH (lM is m b) v i hi];by_cases e:m=i
  .subst e;rw[zAl rfl,zAl (by omega)];unfold lM;rw[zAl rfl]
  .rw[zAj e,mH _ _ _ hi];unfold lM;rw[zAj (zDy e)]
 .rw[zAj (by omega)];by_cases a:i<128
  .obtain⟨j,rfl⟩:∃j,i=64+j:=⟨i-64,by omega⟩;rw[mG _ _ _ (by omega),mG _ _ _ (by omega)]
  .rw[zBf (by rw[jC];omega),zBf (by rw[jC];omega)]
def wS (is)(a)(m)(h:m<64)(v):(nE is a).setIfInBounds (64+m) (aK ⟨v.toArray⟩)=nE is (lM a m v):=by
 apply zBu;intro i;rw[zBm,jC];by_cases hi:i<64
 .rw[zAj (by omega),mH _ _ _ hi,mH _ _ _ hi]
 .by_cases b:i<128
  .obtain⟨j,rfl⟩:∃j,i=64+j:=⟨i-64,by omega⟩;rw[mG is (lM a m v) _ (by omega)];by_cases e:m=j
   .subst e;rw[zAl rfl,zAl (by omega)];unfold lM;rw[zAl rfl]
   .rw[zAj (by omega),mG _ _ _ (by omega)];unfold lM;rw[zAj (zDy e)]
  .rw[zAj (by omega),zBf (by rw[jC];omega),zBf (by rw[jC];omega)]
def dM (s:St):zA:=nE (λk=>(s k).isSome) (λk=>(s k).getD [])
def Hu (s:St)(m:Nat)(v:zB):nE (lM (λk=>(s k).isSome) m aE) (lM (lM (λk=>(s k).getD []) m []) m v)=dM (s.put m (aA v)):=
 UG (λk _=>by simp only[lM,St.put];split<;>rfl) (λk _=>by simp only[lM,St.put];split<;>rfl)
def ZH (s:St)(m:Nat):nE (lM (λk=>(s k).isSome) m aF) (lM (λk=>(s k).getD []) m [])=dM (s.put m aB):=
 UG (λk _=>by simp only[lM,St.put];split<;>rfl) (λk _=>by simp only[lM,St.put];split<;>rfl)
def UF (is)(v):∀u∈(nE is v).toList,u.oneCell'=aE:=by intro u h;simp only[nE,zAh,zCh]at h;obtain⟨k,_,rfl⟩|⟨k,_,rfl⟩:=h<;>rfl
def St.one (s:St)(r:Int×Int):St:=s.put (dY r.1 64).toNat (if r.2%7=0 then aB else aA (valOf r.2))
def MG (s)(l:zII):s.with l=(l.take 20).foldl St.one s:=rfl
def fold_succ (s)(l:zII)(t)(h:t<l.length):(l.take (t+1)).foldl St.one s=((l.take t).foldl St.one s).one l[t]:=by rw[zCc h,List.foldl_append];rfl
def Ms (s)(v)(l)(w)(hl:wI w v l)(hlen:l.length<=4611686018427387904):
  Calls zq 18 #[.agg (dM s),v] w λe w'=>e=aL (.agg (dM (s.with l)))/\zb w w':=by
 obtain⟨va,vc,hv⟩:∃va vc,v=aJ va l.length vc:=by obtain⟨rfl,a,c,rfl⟩|⟨g,o,c,rfl,_⟩:=hl.EM;{exact⟨a,c,rfl⟩};{exact⟨_,c,rfl⟩}
 subst hv;have HL:=hid hl;have p:Hid (dM s=dM ((l.take 0).foldl St.one s)):=rfl;have HW:Hid (s.with l=(l.take 20).foldl St.one s):=rfl;rw[HW.out];have HG:Hid (∀t,t<l.length->(l.take (t+1)).foldl St.one s=((l.take t).foldl St.one s).one (l.getD t (0,0))):=λt h=>by rw[fold_succ s l t h,zBe,zAe h];rfl
 have HE:Hid (∀t,¬(t<l.length/\t<20)->t<=l.length->t<=20->(l.take t).foldl St.one s=(l.take 20).foldl St.one s):=λt h h1 h2=>by by_cases h3:t<l.length;{obtain rfl:t=20:=by{omega};rfl};{rw[zBn (by omega),zBn (by omega)]}
 have HF:Hid (∀t,(l.take t).foldl St.one s=(l.take t).foldl St.one s):=λ_=>rfl;generalize Y:(λt=>(l.take t).foldl St.one s)=Fd at*;have X:∀t,(l.take t).foldl St.one s=Fd t:=λt=>by rw[<-Y]
 simp only[X]at*;generalize dM s=R at*;go_enter (Qz.fn func18),ntmps18;go_upto_region 2 with(fail)
 go_loopg [5] 20 (λq i wr=>∃t:Nat,t+q=20/\t<=l.length/\i=aC aD (t:Int)/\zb w wr/\bW wr w.heap.size 43 (dM (Fd t))/\bW wr (w.heap.size+1) 43 zeroCells43);case atStart=>
  refine⟨0,rfl,zBq _,rfl,((zGn _ _).alloc (zAa _) _).alloc (by rw[size_alloc];omega) _,?_,?_⟩
  .rw[<-p.out];exact(bW.new _ _ _).alloc _
  .have:=bW.new (w.alloc (aI R 43)) 43 zeroCells43;rw[size_alloc]at this;exact this
 case round=>
  obtain⟨t,ht,U,rfl,b1,b2,b3⟩:=hrel
  have D:=hid b1
  have B:=hid b2
  have y:=hid b3
  by_cases I:t<l.length/\t<20
  .obtain⟨bX,ly⟩:=I;have fl:(t:Int)<(l.length:Int):=by{omega};have aEg:(t:Int)<20:=by omega
   obtain⟨g,o,rfl,c1,c2⟩:=HL.out.at D.out t bX;have f:=HL.out.fits l[t] (zCt _);have L:Hid (∀W,zb w W->W.cell? ⟨g,o+t*2+1,aB⟩=aA (aC aD l[t].2)):=λW hW=>by obtain⟨g',o',e,_,h2⟩:=HL.out.at hW t bX;injection e with e;injection e with e1 e2;subst e1;subst e2;exact h2
   have Hs:Hid (Fd (t+1)=(Fd t).one l[t]):=by have:=HG.out t bX;rw[zBe,zAe bX]at this;exact this
   generalize l[t]=r at*;obtain⟨r1,r2⟩:=r;dsimp only at*;obtain⟨m,hm,b⟩:=gN r1 64 (by omega);have z:dY r1 64=(m:Int):=hm;have x:Hid ((Fd t).one (r1,r2)=(Fd t).put m (if r2%7=0 then aB else aA (valOf r2))):=by show(Fd t).put (dY r1 64).toNat _=_;rw[z,zFh]
   generalize Fd t=S at*;have H:=λW=>oQ r1 64 W f.1 f.2.1 (by omega) (by omega);rw[z]at H;clear hm z;go_wp2_with fail;refine(H wr).mono ?_;rintro e w5 ⟨rfl,G⟩;obtain rfl:wr=w5:=G.symm;clear G H;have k0:wr.cell? ⟨w.heap.size,m,aB⟩=aA (.bool (S m).isSome):=by{rw[B.out.cell];exact mH _ _ m b};have k1:=B.out.frozen m;have hmi:(m:Int)<64:=by{omega};have qe:(0:Int)<=(m:Int):=by{omega};by_cases O:r2%7=0
   .have h7':=aHj (aHk O);have d:Hid (S.one (r1,r2)=S.put m aB):=by{have:=x.out;rw[zAl O]at this;exact this};go_upto_region 6 with(fail)
    have N:Hid (zb w (wr.setCell ⟨w.heap.size,m,aB⟩ (.bool aF))):=D.out.setCell (zAa _) _;have K:Hid (bW (wr.setCell ⟨w.heap.size,m,aB⟩ (.bool aF)) w.heap.size 43 (nE (lM (λk=>(S k).isSome) m aF) (λk=>(S k).getD []))):=by have:=B.out.cO m (.bool aF);rw[dM,IC _ _ m b]at this;exact this
    have J:Hid (bW (wr.setCell ⟨w.heap.size,m,aB⟩ (.bool aF)) (w.heap.size+1) 43 zeroCells43):=y.out.bN _ _ (by simp);generalize wr.setCell ⟨w.heap.size,m,aB⟩ (.bool aF)=j at*;clear D B y k0 k1 c1 c2;have k2:j.cell? ⟨w.heap.size,64+m,aB⟩=aA (aK ⟨((S m).getD []).toArray⟩):=by{rw[K.out.cell];exact mG _ _ m b};have Q:j.frozen? ⟨w.heap.size,64+m,aB⟩=aF:=K.out.frozen _;go_upto_region 7 with(fail)
    have E:Hid (zb w (j.setCell ⟨w.heap.size,64+m,aB⟩ (aK ⟨#[]⟩))):=N.out.setCell (zAa _) _;have C:Hid (bW (j.setCell ⟨w.heap.size,64+m,aB⟩ (aK ⟨#[]⟩)) w.heap.size 43 (nE (lM (λk=>(S k).isSome) m aF) (lM (λk=>(S k).getD []) m []))):=by have:=K.out.cO (64+m) (aK ⟨([]:zB).toArray⟩);rw[wS _ _ m b]at this;exact this
    have Z:Hid (bW (j.setCell ⟨w.heap.size,64+m,aB⟩ (aK ⟨#[]⟩)) (w.heap.size+1) 43 zeroCells43):=J.out.bN _ _ (by simp);generalize j.setCell ⟨w.heap.size,64+m,aB⟩ (aK ⟨#[]⟩)=F at*;clear N K J k2 Q;have k4:F.cell? ⟨w.heap.size,m,aB⟩=aA (.bool aF):=by rw[C.out.cell,mH _ _ m b];unfold lM;rw[zAl rfl]
    go_wp2_with fail;go_roundg (19-t);case measure=>omega
    case rel=>
     go_light
     refine⟨t+1,by omega,by omega,by go_num,E.out,?_,Z.out⟩
     rw[Hs.out,d.out,<-ZH]
     exact C.out
   .have h7':(r2.tmod 7 !=0)=aE:=by{rw[bne_iff_ne];exactλh=>O (aHl (aHm h))};have d:Hid (S.one (r1,r2)=S.put m (aA (valOf r2))):=by{have:=x.out;rw[zAj O]at this;exact this};go_upto_region 6 with(fail)
    have N:Hid (zb w (wr.setCell ⟨w.heap.size,m,aB⟩ (.bool aE))):=D.out.setCell (zAa _) _;have K:Hid (bW (wr.setCell ⟨w.heap.size,m,aB⟩ (.bool aE)) w.heap.size 43 (nE (lM (λk=>(S k).isSome) m aE) (λk=>(S k).getD []))):=by have:=B.out.cO m (.bool aE);rw[dM,IC _ _ m b]at this;exact this
    have J:Hid (bW (wr.setCell ⟨w.heap.size,m,aB⟩ (.bool aE)) (w.heap.size+1) 43 zeroCells43):=y.out.bN _ _ (by simp);generalize wr.setCell ⟨w.heap.size,m,aB⟩ (.bool aE)=j at*;clear D B y k0 k1 c1 c2;have k2:j.cell? ⟨w.heap.size,64+m,aB⟩=aA (aK ⟨((S m).getD []).toArray⟩):=by{rw[K.out.cell];exact mG _ _ m b};have Q:j.frozen? ⟨w.heap.size,64+m,aB⟩=aF:=K.out.frozen _;go_upto_region 7 with(fail)
    have E:Hid (zb w (j.setCell ⟨w.heap.size,64+m,aB⟩ (aK ⟨#[]⟩))):=N.out.setCell (zAa _) _;have C:Hid (bW (j.setCell ⟨w.heap.size,64+m,aB⟩ (aK ⟨#[]⟩)) w.heap.size 43 (nE (lM (λk=>(S k).isSome) m aE) (lM (λk=>(S k).getD []) m []))):=by have:=K.out.cO (64+m) (aK ⟨([]:zB).toArray⟩);rw[wS _ _ m b]at this;exact this
    have Z:Hid (bW (j.setCell ⟨w.heap.size,64+m,aB⟩ (aK ⟨#[]⟩)) (w.heap.size+1) 43 zeroCells43):=J.out.bN _ _ (by simp);generalize j.setCell ⟨w.heap.size,64+m,aB⟩ (aK ⟨#[]⟩)=F at*;clear N K J k2 Q;have k4:F.cell? ⟨w.heap.size,m,aB⟩=aA (.bool aE):=by rw[C.out.cell,mH _ _ m b];unfold lM;rw[zAl rfl]
    have k5:=L.out F E.out;go_wp2_with fail;refine(CU r2 F f.2.2.1 f.2.2.2).mono ?_;rintro e wc ⟨rfl,n⟩;have Bc:Hid (zb w wc):=E.out.trans (n.mono E.out.size);have Kc:Hid (bW wc w.heap.size 43 (nE (lM (λk=>(S k).isSome) m aE) (lM (λk=>(S k).getD []) m []))):=C.out.below n C.out.lt;have Zc:Hid (bW wc (w.heap.size+1) 43 zeroCells43):=Z.out.below n Z.out.lt;clear n E C Z k4 k5;have k6:wc.cell? ⟨w.heap.size,64+m,aB⟩=aA (aK ⟨([]:zB).toArray⟩):=by rw[Kc.out.cell,mG _ _ m b];unfold lM;rw[zAl rfl]
    have k7:wc.frozen? ⟨w.heap.size,64+m,aB⟩=aF:=Kc.out.frozen _;go_wp2_with fail;go_roundg (19-t);case measure=>omega
    case rel=>
     go_light
     refine⟨t+1,by omega,by omega,by go_num,Bc.out.setCell (zAa _) _,?_,Zc.out.bN _ _ (by simp)⟩
     have:=Kc.out.cO (64+m) (aK ⟨(valOf r2).toArray⟩)
     rw[wS _ _ m b,Hu]at this
     rw[Hs.out,d.out]
     exact this
  .have hq:=HE.out t I U (by omega);rw[hq]at B;have hi:Hid ((zq.info? 43).map (·.size)=aA (dM (Fd 20)).size):=by
    show _=_;rw[dM,jC];kernel_rfl
   have T:Hid (zeroCells43.size=(dM (Fd 20)).size):=by show _=_;rw[dM,jC];kernel_rfl
   have V:Hid ((dM (Fd 20)).all (·.oneCell')=aE):=by show _=_;rw[zFx];exactλu hu=>UF _ _ u (by simpa [dM]using hu)
   clear hq HE HG HW p;obtain⟨P,A⟩:∃P,dM (Fd 20)=P:=⟨_,rfl⟩;have M:=hid A;rw[A]at hi T V B;clear A;by_cases h:t<l.length
   .have h1:(t:Int)<(l.length:Int):=by{omega};have h2:¬(t:Int)<20:=by omega
    go_wp2_with (first
     |refine zGv rfl 43 _ rfl w.heap.size rfl 43 _ (0,0) _ B.out ((Qz.eH 43).trans underlying43) rfl hi.out ?_
     |refine zGr rfl 43 _ _ rfl (w.heap.size+1) _ rfl rfl _ _ y.out hi.out T.out V.out ?_)
    refine zGy (v:= .agg P) ?_ rfl ⟨by rw[M.out],bU D.out (by omega) _⟩;exact results_cell_row results18 _ _ (w.heap.size+1) _ _ _ _ rfl (y.out.dB _) ((Qz.eH 43).trans underlying43) rfl hi.out
   .have h1:¬(t:Int)<(l.length:Int):=by omega
    go_wp2_with (first
     |refine zGv rfl 43 _ rfl w.heap.size rfl 43 _ (0,0) _ B.out ((Qz.eH 43).trans underlying43) rfl hi.out ?_
     |refine zGr rfl 43 _ _ rfl (w.heap.size+1) _ rfl rfl _ _ y.out hi.out T.out V.out ?_)
    refine zGy (v:= .agg P) ?_ rfl ⟨by rw[M.out],bU D.out (by omega) _⟩;exact results_cell_row results18 _ _ (w.heap.size+1) _ _ _ _ rfl (y.out.dB _) ((Qz.eH 43).trans underlying43) rfl hi.out
def fV:Nat->List qW->List qW->Nat->Nat
 |0,_,_,_=>0
 |f+1,l,w,d=>if l.length<2\/l=w then 0 else 1+(fV f (cN l d 0) (cN w d 0) (d+1)+fV f (cN l d 1) (cN w d 1) (d+1))
def VM (l w:List qW):Nat:=(l.filter λe=> !w.contains e).length+fV 256 l w 0
def JG (l)(d):(cN l d 0).length+(cN l d 1).length=l.length:=by
 unfold cN;induction l with
 |nil=>rfl
 |cons e l i=>obtain h|h:=jH e.1 d;{rw[zBd (by rw[h];rfl),zAt (by rw[h];decide),zAi,zAi];omega};{rw[zAt (by rw[h];decide),zBd (by rw[h];rfl),zAi,zAi];omega}
def tU:∀(f:Nat)(l w:List qW)(d:Nat),fV f l w d<=f*(l.length-1)
 |0,_,_,_=>zBq _
 |f+1,l,w,d=>by rw[fV];split;{exact zBq _};{rename_i h;have i:=tU f (cN l d 0) (cN w d 0) (d+1);have g:=tU f (cN l d 1) (cN w d 1) (d+1);have hl:=JG l d;have c:2<=l.length:=by{omega};generalize(cN l d 0).length=a at*;generalize(cN l d 1).length=b at*;generalize l.length=n at*;subst hl;have e:(f+1)*(a+b-1)=f*(a+b-1)+(a+b-1):=by{rw[aHn]};have j:f*(a-1)+f*(b-1)<=f*(a+b-1):=by{rw[<-aHo];exact aHp _ (by omega)};rw[e];omega}
def Ay (f)(l)(d):fV f l l d=0:=by
 cases f with
 |zero=>rfl
 |succ f=>rw[fV,zAl (aH rfl)]
def Ax (f)(l w)(d):fV (f+1) l w d<=1+(fV f (cN l d 0) (cN w d 0) (d+1)+fV f (cN l d 1) (cN w d 1) (d+1)):=by
 rw[fV];split
 .exact zBq _
 .exact zAa _
def jK (l:List qW):Nat->Nat->List qW
 |0,_=>l
 |n+1,p=>cN (jK l n (p/2)) n (p%2)
def sumTo (f:Nat->Nat):Nat->Nat
 |0=>0
 |n+1=>sumTo f n+f n
def sumTo_le {f g:Nat->Nat}:∀n,(∀i,i<n->f i<=g i)->sumTo f n<=sumTo g n
 |0,_=>zAa _
 |n+1,h=>aHq (sumTo_le n λi hi=>h i (by omega)) (h n (by omega))
def MM (f:Nat->Nat):∀n,sumTo f (2*n)=sumTo (λp=>f (2*p)+f (2*p+1)) n
 |0=>rfl
 |n+1=>by rw[show 2*(n+1)=2*n+1+1 by omega,sumTo,sumTo,MM f n,sumTo];omega
def VF (l w)(f):∀n,fV (n+f) l w 0<=(2^n-1)+sumTo (λp=>fV f (jK l n p) (jK w n p) n) (2^n):=by
 intro n;induction n generalizing f with
 |zero=>simp[sumTo,jK]
 |succ n b=>
  have h:=b (f+1);rw[show n+1+f=n+(f+1) by omega];have d:sumTo (λp=>fV (f+1) (jK l n p) (jK w n p) n) (2^n)<=sumTo (λp=>1+(fV f (jK l (n+1) (2*p)) (jK w (n+1) (2*p)) (n+1)+fV f (jK l (n+1) (2*p+1)) (jK w (n+1) (2*p+1)) (n+1))) (2^n):=sumTo_le _ λp _=>by have:=Ax f (jK l n p) (jK w n p) n;rw[jK,jK,jK,jK,show 2*p/2=p by omega,show(2*p+1)/2=p by omega,show 2*p%2=0 by omega,show(2*p+1)%2=1 by omega];exact this
  have c:∀(g:Nat->Nat) m,sumTo (λp=>1+g p) m=m+sumTo g m:=by
   intro g m;induction m with
   |zero=>rfl
   |succ m i=>rw[sumTo,sumTo,i];omega
  rw[c]at d;have a:=MM (λp=>fV f (jK l (n+1) p) (jK w (n+1) p) (n+1)) (2^n);rw[show 2*2^n=2^(n+1) by rw[aHr];omega]at a;have j:2^(n+1)=2*2^n:=by{rw[aHr];omega};have e:=Nat.two_pow_pos n;rw[a];omega
def cX (s:St)(p:Nat):List qW:=[2*p,2*p+1].filterMap (dD s)
def Ey (k)(h:k<64)(i)(hi:i<5):bP (ix k) i=k/2/2^(4-i)%2:=by
 have H:∀k:Fin 64,∀i:Fin 5,bP (ix k.val) i.val=k.val/2/2^(4-i.val)%2:=by decide+kernel
 exact H ⟨k,h⟩ ⟨i,hi⟩
def my (p q)(b:p<32)(a:q<32)(h:∀i,i<5->p/2^(4-i)%2=q/2^(4-i)%2):p=q:=by
 have H:∀p q:Fin 32,(∀i:Fin 5,p.val/2^(4-i.val)%2=q.val/2^(4-i.val)%2)->p=q:=by decide+kernel
 exact congrArg Fin.val (H ⟨p,b⟩ ⟨q,a⟩ λi=>h i.val i.isLt)
def QT (n p:Nat)(x:zB):Bool:=decide (∀i,i<n->bP x i=p/2^(n-1-i)%2)
def rZ (n p)(x):QT n p x=aE↔∀i,i<n->bP x i=p/2^(n-1-i)%2:=by unfold QT;exact decide_eq_true_iff
def UP (l):∀n p,jK l n p=l.filter λe=>QT n p e.1:=by
 intro n;induction n with
 |zero=>intro p;rw[jK,zFo.2];intro e _;rw[rZ];intro i hi;omega
 |succ n b=>
  intro p;rw[jK,cN,b,zEn];apply List.filter_congr;intro e _;rw[aHe,zBc,rZ,rZ,zCm];constructor
  .rintro⟨c,a⟩ i hi;by_cases h:i=n
   .subst h;rw[show i+1-1-i=0 by omega,aHs,aHt];exact c
   .rw[a i (by omega),show n+1-1-i=(n-1-i)+1 by omega,aHr,aHu,aHv]
  .intro a;refine⟨?_,λi hi=> ?_⟩
   .have:=a n (by omega);rw[show n+1-1-n=0 by omega,aHs,aHt]at this;exact this
   .rw[a i (by omega),show n+1-1-i=(n-1-i)+1 by omega,aHr,aHu,aHv]
def NC (s)(p)(e:p<32):jK (bQ s) 5 p=cX s p:=by
 rw[UP];have c:∀k,k<64->QT 5 p (ix k)=decide (k/2=p):=λk b=>by rw[aHe,rZ,zBo];constructor;{intro h;exact my _ _ (by omega) e λi hi=>by rw[<-Ey k b i hi];exact h i hi};{intro h i hi;rw[Ey k b i hi,h]}
 unfold bQ cX;rw[range_split (2*p) (by omega)];have d:(List.range (63-2*p)).map (·+(2*p+1))=(2*p+1)::(List.range (62-2*p)).map (·+(2*p+2)):=by rw[show 63-2*p=(62-2*p)+1 by omega,List.range_succ_eq_map,zEa,zEm];congr 1;{omega};{apply zEj;intro a _;show a+1+(2*p+1)=a+(2*p+2);omega}
 rw[d,show List.range (2*p)++2*p::(2*p+1)::(List.range (62-2*p)).map (·+(2*p+2))=List.range (2*p)++([2*p,2*p+1]++(List.range (62-2*p)).map (·+(2*p+2)))from rfl];rw[zDs,zDs,zDl,zDl];rw[filter_none (λk b v=>by have:=zBs.1 b;refine(c k (by omega)).trans ?_;rw[zEg];omega)]
 rw[filter_all (λk b v=>by
   have:k=2*p\/k=2*p+1:=by simpa using b
   refine(c k (by omega)).trans ?_;rw[zBo];omega)]
 rw[filter_none (λk b v=>by obtain⟨j,f,rfl⟩:=zCh.1 b;have:=zBs.1 f;refine(c (j+(2*p+2)) (by omega)).trans ?_;rw[zEg];omega)]
 simp
def Pg (s)(p):(cX s p).length<=2:=by have:=zGj (dD s) [2*p,2*p+1];exact this
def cnt (b:Nat->Bool)(n:Nat):Nat:=sumTo (λp=>if b p then 1 else 0) n
def Cw {a b c:Nat->Bool}:∀n,(∀p,p<n->c p=aE->a p=aE\/b p=aE)->cnt c n<=cnt a n+cnt b n
 |0,_=>zAa _
 |n+1,h=>by
  have i:=Cw (a:=a) (b:=b) (c:=c) n λp g=>h p (by omega);have d:=h n (by omega);unfold cnt at i⊢;rw[sumTo,sumTo,sumTo];cases e:c n with
  |false=>simp only[zBa,zDg];omega
  |true=>obtain f|hb:=d e;{rw[f];simp only[zCy];omega};{rw[hb];simp only[zCy];omega}
def RH {b:Nat->Bool}(p0:Nat):∀n,(∀p,p≠p0->b p=aF)->cnt b n<=if p0<n then 1 else 0
 |0,_=>zBq _
 |n+1,h=>by
  have i:=RH p0 n h;unfold cnt at i⊢;rw[sumTo];by_cases e:n=p0;{subst e;rw[zAj (show¬n<n by omega)]at i;rw[zAl (show n<n+1 by omega)];split<;>omega}
  .rw[h n e];simp only[zBa,zDg];split at i
   .rename_i a;rw[zAl (show p0<n+1 by omega)];omega
   .omega
def XL {b}(n)(h:∀p,p<n->b p=aF):cnt b n=0:=by
 induction n with
 |zero=>rfl
 |succ n i=>unfold cnt at*;rw[sumTo,i λp a=>h p (by omega),h n (by omega)];rfl
def PK (c:Nat)(b:Nat->Bool):∀n,sumTo (λp=>if b p then c else 0) n=c*cnt b n
 |0=>rfl
 |n+1=>by unfold cnt;rw[sumTo,sumTo,PK c b n,aHo];unfold cnt;split<;>simp
def fO (s s':St)(p:Nat):Bool:=decide (cX s' p≠cX s p)
def lY (s:St)(p:Nat):Bool:=decide ((cX s p).length=2)
def kB (s s':St)(k:Nat):Bool:=decide (s' k≠s k)
def VE (s s'):fV 256 (bQ s') (bQ s) 0<=31+251*cnt (λp=>fO s s' p&&lY s' p) 32:=by
 have h:=VF (bQ s') (bQ s) 251 5;rw[<-PK];refine zAv h (Nat.add_le_add_left (sumTo_le _ λp b=> ?_) _);rw[NC s' p b,NC s p b];have a:=tU 251 (cX s' p) (cX s p) 5;have e:=Pg s' p;by_cases c:cX s' p=cX s p
 .rw[c,Ay];exact zBq _
 .by_cases d:(cX s' p).length=2
  .rw[zAl (by simp[fO,lY,c,d])];rw[d]at a;exact a
  .have:(cX s' p).length-1=0:=by{omega};rw[this]at a;omega
def NU (s s'):((bQ s').filter λe=> !(bQ s).contains e).length<=cnt (kB s s') 64:=by
 have c:∀k,k<64->∀v,s' k=aA v->(!(bQ s).contains (ix k,v))=aE->kB s s' k=aE:=λk d v b a=>by unfold kB;rw[zBo];intro h;rw[b]at h;have:(bQ s).contains (ix k,v)=aE:=List.elem_iff.2 (zFt.2 ⟨k,zBs.2 d,by unfold dD;rw[<-h];rfl⟩);rw[this]at a;cases a
 have H:∀n,n<=64->(((List.range n).filterMap (dD s')).filter λe=> !(bQ s).contains e).length<=cnt (kB s s') n:=by
  intro n;induction n with
  |zero=>intro _;exact zAa _
  |succ n i=>
   intro f;have i:=i (by omega);unfold cnt at i⊢;rw[List.range_succ,zDs,zDl,zAg,sumTo];refine aHq i ?_;cases b:s' n with
   |none=>simp[dD,b]
   |some v=>have e:[n].filterMap (dD s')=[(ix n,v)]:=by{simp[dD,b]};rw[e];by_cases a:(!(bQ s).contains (ix n,v))=aE;{rw[zBd (p:=λe=> !(bQ s).contains e) a,c n (by omega) v b a];exact zAa _};{rw[zAt (p:=λe=> !(bQ s).contains e) a];exact zBq _}
 exact H 64 (zAa _)
def UR (s)(m p)(v)(h:p≠m/2):cX (s.put m v) p=cX s p:=by
 exact oW λk a=>by have:k=2*p\/k=2*p+1:=by{simpa using a};unfold St.put;rw[zAj (by omega)]
def JK (r:zII):∀s:St,cnt (fO s (r.foldl St.one s)) 32<=r.length/\cnt (kB s (r.foldl St.one s)) 64<=r.length:=by
 induction r with
 |nil=>intro s;exact⟨aHw (XL _ λp _=>by simp[fO]),aHw (XL _ λp _=>by simp[kB])⟩
 |cons x r i=>
  intro s;obtain⟨k,j⟩:=i (s.one x);rw[zFd,zAi];constructor
  .have g:=Cw (a:=fO (s.one x) (r.foldl St.one (s.one x))) (b:=fO s (s.one x)) (c:=fO s (r.foldl St.one (s.one x))) 32 λp _ h=>by
    unfold fO at*;rw[zBo]at*;rw[zBo];by_cases e:cX (s.one x) p=cX s p;{exact aG (by rw[e];exact h)};{exact aH e}
   have f:=RH (b:=fO s (s.one x)) ((dY x.1 64).toNat/2) 32 λp d=>by unfold fO;rw[zEg,Decidable.not_not];exact UR s _ p _ d
   split at f<;>omega
  .have g:=Cw (a:=kB (s.one x) (r.foldl St.one (s.one x))) (b:=kB s (s.one x)) (c:=kB s (r.foldl St.one (s.one x))) 64 λp _ h=>by
    unfold kB at*;rw[zBo]at*;rw[zBo];by_cases e:(s.one x) p=s p;{exact aG (by rw[e];exact h)};{exact aH e}
   have f:=RH (b:=kB s (s.one x)) (dY x.1 64).toNat 64 λp d=>by unfold kB St.one St.put;rw[zEg,Decidable.not_not,zAj d]
   split at f<;>omega
def Zo (s:St):Nat:=sumTo (λp=>(cX s p).length) 32
def Ef {f g:Nat->Nat}(p0:Nat):∀n,(∀p,p≠p0->f p=g p)->f p0<=g p0+1->sumTo f n<=sumTo g n+if p0<n then 1 else 0
 |0,_,_=>zBq _
 |n+1,h,a=>by
  have i:=Ef p0 n h a;rw[sumTo,sumTo];by_cases e:n=p0;{subst e;rw[zAj (show¬n<n by omega)]at i;rw[zAl (show n<n+1 by omega)];omega}
  .rw[h n e];split at i
   .rename_i b;rw[zAl (show p0<n+1 by omega)];omega
   .omega
def QH (s)(m)(v)(p):(cX (s.put m v) p).length<=(cX s p).length+1:=by
 have hl:∀t:St,(cX t p).length=(if(t (2*p)).isSome then 1 else 0)+(if(t (2*p+1)).isSome then 1 else 0):=λt=>by
  unfold cX;rw[zDz,zDz,List.filterMap_nil];cases a:t (2*p)with
  |none=>
   cases h:t (2*p+1)with
   |none=>simp[dD,a,h]
   |some x=>simp[dD,a,h]
  |some y=>
   cases h:t (2*p+1)with
   |none=>simp[dD,a,h]
   |some x=>simp[dD,a,h]
 rw[hl,hl];unfold St.put;by_cases a:2*p=m
 .rw[zAl a,zAj (show¬2*p+1=m by omega)];split<;>split<;>split<;>omega
 .rw[zAj a];by_cases h:2*p+1=m
  .rw[zAl h];split<;>split<;>split<;>omega
  .rw[zAj h];omega
def Ni (r:zII):∀s:St,Zo (r.foldl St.one s)<=Zo s+r.length:=by
 induction r with
 |nil=>intro s;exact zAa _
 |cons x r i=>
  intro s;have c:=i (s.one x);have a:=Ef (f:=λp=>(cX (s.one x) p).length) ((dY x.1 64).toNat/2) 32 (λp h=>by show(cX (s.put _ _) p).length=_;rw[UR s _ p _ h]) (QH s _ _ _)
  rw[zFd,zAi];have b:Zo (s.one x)<=Zo s+1:=by unfold Zo;split at a<;>omega
  omega
def Sm (s):2*cnt (lY s) 32<=Zo s:=by
 rw[<-PK];refine sumTo_le _ λp _=> ?_;unfold lY;by_cases h:(cX s p).length=2
 .rw[zAl (by rw[h];rfl),h];exact zAa _
 .rw[zAj (by rw[zBo];exact h)];exact zBq _
def cnt_mono {a b}(n)(h:∀p,p<n->a p=aE->b p=aE):cnt a n<=cnt b n:=by
 refine sumTo_le _ λp c=> ?_;cases d:a p with
 |false=>simp
 |true=>rw[h p c d];exact zAa _
def Ju (s)(l):VM (bQ (s.with l)) (bQ s)<=5071:=by
 obtain⟨b,a⟩:=JK (l.take 20) s;have f:=VE s (s.with l);have e:=NU s (s.with l);have d:cnt (λp=>fO s (s.with l) p&&lY (s.with l) p) 32<=cnt (fO s (s.with l)) 32:=cnt_mono 32 λp _ h=>(zBc _ _▸h).1;have c:(l.take 20).length<=20:=by rw[zBg];omega
 rw[<-MG]at b a;unfold VM;omega
def Az (l):VM (bQ (St.with (λ_=>aB) l)) []<=2561:=by
 obtain⟨f,e⟩:=JK (l.take 20) (λ_=>aB);have d:=VE (λ_=>aB) (St.with (λ_=>aB) l);have c:=NU (λ_=>aB) (St.with (λ_=>aB) l);have k:cnt (λp=>fO (λ_=>aB) (St.with (λ_=>aB) l) p&&lY (St.with (λ_=>aB) l) p) 32<=cnt (lY (St.with (λ_=>aB) l)) 32:=cnt_mono 32 λp _ h=>(zBc _ _▸h).2;have j:(l.take 20).length<=20:=by rw[zBg];omega
 have i:=Sm (St.with (λ_=>aB) l);have b:=Ni (l.take 20) (λ_=>aB);have g:Zo (λ_=>aB)=0:=by decide+kernel
 rw[<-MG]at f e b;have a:bQ (λ_=>aB)=[]:=by decide+kernel
 rw[a]at d c;unfold VM;omega
def gL (rs:Nat->zII):Nat->St
 |0=>λ_=>aB
 |j+1=>(gL rs j).with (rs j)
open Go Go.RowKit Sha Go.Ga Go.Ren
abbrev ptr:Option Nat->zY
 |none=> .pointer aB
 |some b=>aN (aA ⟨b,0,aB⟩)
def mZ (z o:Option Nat)(i v g:zB)(hs:Int):zA:= #[ptr z,ptr o,aK ⟨i.toArray⟩,aK ⟨v.toArray⟩,aK ⟨g.toArray⟩,aC aD hs]
structure aX (w:zW)(b:Nat)(z o:Option Nat)(i v g:zB)(hs:Int):Prop where
 at':∃fr,w.heap[b]? =aA (aI (mZ z o i v g hs) 272 fr)
section
variable {w:zW}{b:Nat}{z o:Option Nat}{i v g:zB}{hs:Int}
def aX.lt (h:aX w b z o i v g hs):b<w.heap.size:=by obtain⟨fr,h⟩:=h.at';exact(zAb.1 h).1
def aX.c0 (h:aX w b z o i v g hs):w.cell? ⟨b,0,aB⟩=aA (ptr z):=by obtain⟨fr,h⟩:=h.at';exact(aZ h 0).trans rfl
def aX.c1 (h:aX w b z o i v g hs):w.cell? ⟨b,1,aB⟩=aA (ptr o):=by obtain⟨fr,h⟩:=h.at';exact(aZ h 1).trans rfl
def aX.c2 (h:aX w b z o i v g hs):w.cell? ⟨b,2,aB⟩=aA (aK ⟨i.toArray⟩):=by obtain⟨fr,h⟩:=h.at';exact(aZ h 2).trans rfl
def aX.c3 (h:aX w b z o i v g hs):w.cell? ⟨b,3,aB⟩=aA (aK ⟨v.toArray⟩):=by obtain⟨fr,h⟩:=h.at';exact(aZ h 3).trans rfl
def aX.c4 (h:aX w b z o i v g hs):w.cell? ⟨b,4,aB⟩=aA (aK ⟨g.toArray⟩):=by obtain⟨fr,h⟩:=h.at';exact(aZ h 4).trans rfl
def aX.c5 (h:aX w b z o i v g hs):w.cell? ⟨b,5,aB⟩=aA (aC aD hs):=by obtain⟨fr,h⟩:=h.at';exact(aZ h 5).trans rfl
def eE (w:zW)(b:Nat):Prop:=∃c,w.heap[b]? =aA (aI c 272 (0,0))
def eE.f (h:eE w b)(j):w.frozen? ⟨b,j,aB⟩=aF:=by obtain⟨c,h⟩:=h;exact dA h j
def iU (h:aX w b z o i v g hs):Calls zq 227 #[ptr (aA b)] w λe a=>e=aL (.bool (z.isNone&&o.isNone))/\a=w:=by
 have k:=h.c0;have k1:=h.c1;cases z with
 |none=>
  cases o with
  |none=>go_enter (Qz.fn func227),ntmps227;go_wp2;go_ret;exact⟨rfl,rfl⟩
  |some o=>go_enter (Qz.fn func227),ntmps227;go_wp2;go_ret;exact⟨rfl,rfl⟩
 |some z=>go_enter (Qz.fn func227),ntmps227;go_wp2;go_ret;exact⟨rfl,rfl⟩
def OD (w):Calls zq 225 #[ptr aB] w λe a=>e=aL (.bool aE)/\a=w:=by go_enter (Qz.fn func225),ntmps225;go_wp2;go_ret;exact⟨rfl,rfl⟩
def AH (h:aX w b z o i v g hs):Calls zq 225 #[ptr (aA b)] w λe a=>e=aL (.bool (z.isNone&&o.isNone))/\a=w:=by have H:=hid h;go_enter (Qz.fn func225),ntmps225;go_wp2_with fail;refine(iU H.out).mono ?_;rintro e a ⟨rfl,rfl⟩;go_wp2;go_ret;exact⟨rfl,rfl⟩
def yY (w):Calls zq 246 #[ptr aB] w λe a=>e=aL (.bool aF)/\a=w:=by go_enter (Qz.fn func246),ntmps246;go_wp2;go_ret;exact⟨rfl,rfl⟩
def mV (h:aX w b z o i v g hs):Calls zq 246 #[ptr (aA b)] w λe a=>e=aL (.bool g.isEmpty)/\a=w:=by have k:=h.c4;go_enter (Qz.fn func246),ntmps246;go_wp2;go_ret;exact⟨rfl,rfl⟩
def Kj (w):Calls zq 222 #[ptr aB] w λe a=>e=aL (ptr aB)/\a=w:=by go_enter (Qz.fn func222),ntmps222;go_wp2;go_ret;exact⟨rfl,rfl⟩
def Ki (h:aX w b z o i v g hs)(c:eE w b):Calls zq 222 #[ptr (aA b)] w λe a=>e=aL (ptr (aA b))/\∃m,a=w.setCell ⟨b,5,aB⟩ (aC aD m):=by have k:=h.c5;have f5:=c.f 5;go_enter (Qz.fn func222),ntmps222;go_wp2;go_ret;exact⟨rfl,_,rfl⟩
end
def fL (w:zW)(v:zO)(us:List bZ):Prop:=0<us.length->∃g o,v=aA ⟨g,o,aB⟩/\g<w.heap.size/\∀j u,(cK us)[j]? =aA u->w.cell? ⟨g,o+j,aB⟩=aA u
def fL.below {w w' B v us}(h:fL w v us)(a:Below B w w')(i:w.heap.size<=B):fL w' v us:=λf=>by obtain⟨g,o,e,c,d⟩:=h f;exact⟨g,o,e,zAc c a.size,λj u b=>by rw[<-d j u b];exact a.cell (p:=⟨g,o+j,aB⟩) (by simp only;omega)⟩
def fL.idx {w v us}(h:fL w v us)(i)(u)(b:us[i]? =aA u):∃g o,v=aA ⟨g,o,aB⟩/\g<w.heap.size/\w.cell? ⟨g,o+i*3,aB⟩=aA (aK ⟨u.idx.toArray⟩)/\w.cell? ⟨g,o+i*3+1,aB⟩=aA (aK ⟨u.val.toArray⟩)/\w.cell? ⟨g,o+i*3+2,aB⟩=aA (.bool u.gone):=by
 have hi:=(zAp.1 b).1;obtain⟨g,o,e,d,a⟩:=h (by omega);have k:=λj (c:j<3)=>rK us i u b j c;refine⟨g,o,e,d,?_,?_,?_⟩
 .exact a (i*3) _ ((k 0 (by decide)).trans rfl)
 .rw[zCi];exact a (i*3+1) _ ((k 1 (by decide)).trans rfl)
 .rw[zCi];exact a (i*3+2) _ ((k 2 (by decide)).trans rfl)
structure Cut (us:List bZ)(d m:Nat):Prop where
 le:m<=us.length
 zero:∀i u,i<m->us[i]? =aA u->bP u.idx d=0
 one:∀i u,m<=i->us[i]? =aA u->bP u.idx d=1
def OG:∀{a b:zB},a.length=b.length->aHf a b= -1->∃j,j<a.length/\(∀i,i<j->a.getD i 0=b.getD i 0)/\(a.getD j 0).toNat<(b.getD j 0).toNat
 |[],[],_,h=>by simp[aHf]at h
 |[],_::_,h,_=>by simp at h
 |_::_,[],h,_=>by simp at h
 |x::a,y::b,hl,h=>by
  rw[aHf]at h;by_cases d:x<y;{exact⟨0,by simp,λi hi=>by omega,by simpa using UInt8.lt_iff_toNat_lt.1 d⟩}
  .rw[zAj d]at h;by_cases c:y<x
   .rw[zAl c]at h;simp at h
   .rw[zAj c]at h;have e:=zGi (zFc.1 c) (zFc.1 d);obtain⟨j,k,f,g⟩:=OG (by simpa using hl) h;refine⟨j+1,by simp;omega,λi hi=> ?_,by simpa using g⟩;cases i with
    |zero=>simpa using e
    |succ i=>simpa using f i (by omega)
def Lg (x y r)(j:x<256)(g:y<256)(a:r<8)(h:∀i,i<r->x/2^(7-i)%2=y/2^(7-i)%2)(l:x/2^(7-r)%2=1)(m:y/2^(7-r)%2=0):y<x:=by
 have k:=h;have f:=k 0;have k1:=k 1;have k2:=k 2;have e:=k 3;have d:=k 4;have c:=k 5;have b:=k 6;match r,a with
 |0,_=>simp at*;omega
 |1,_=>simp at*;omega
 |2,_=>simp at*;omega
 |3,_=>simp at*;omega
 |4,_=>simp at*;omega
 |5,_=>simp at*;omega
 |6,_=>simp at*;omega
 |7,_=>simp at*;omega
def Lf (x y)(g:x<256)(f:y<256)(h:∀i,i<8->x/2^(7-i)%2=y/2^(7-i)%2):x=y:=by have e:=h 0;have k1:=h 1;have k2:=h 2;have d:=h 3;have c:=h 4;have b:=h 5;have a:=h 6;have k:=h 7;simp at*;omega
def Ll {a b}(o:a.length=32)(n:b.length=32)(h:aHf a b= -1){d}(c:∀i,i<d->bP a i=bP b i)(g:bP a d=1):bP b d=1:=by
 obtain f|f:=jH b d
 .exfalso;obtain⟨j,m,l,p⟩:=OG (by omega) h;obtain bX|rfl|k:=Nat.lt_trichotomy (d/8) j
  .have:=l (d/8) bX;unfold bP at f g;rw[this]at g;omega
  .have e:∀i,i<d%8->(a.getD (d/8) 0).toNat/2^(7-i)%2=(b.getD (d/8) 0).toNat/2^(7-i)%2:=λi hi=>by
    have:=c (8*(d/8)+i) (by omega);unfold bP at this;rw[show(8*(d/8)+i)/8=d/8 by omega,show(8*(d/8)+i)%8=i by omega]at this;exact this
   have:=Lg _ _ (d%8) (aHD _) (aHD _) (by omega) e g f;omega
  .have e:∀i,i<8->(a.getD j 0).toNat/2^(7-i)%2=(b.getD j 0).toNat/2^(7-i)%2:=λi hi=>by
    have:=c (8*j+i) (by omega);unfold bP at this;rw[show(8*j+i)/8=j by omega,show(8*j+i)%8=i by omega]at this;exact this
   have:=Lf _ _ (aHD _) (aHD _) e;omega
 .exact f
def bG (us:List bZ):List qW:=us.map λu=>(u.idx,u.val)
def gZ (us):(bG us).length=us.length:=zDa ..
structure Sub (us:List bZ)(d:Nat):Prop where
 order:us.Pairwise λa b=>aHf a.idx b.idx= -1
 idx:∀u∈us,u.idx.length=32
 bits:∀a∈us,∀b∈us,∀i,i<d->bP a.idx i=bP b.idx i
def bK (d b:Nat)(us:List bZ):List bZ:=us.filter λu=>bP u.idx d==b
def fB (us)(d b):bG (bK d b us)=cN (bG us) d b:=by unfold bG bK cN;rw[List.filter_map];rfl
def Sd (d:Nat):∀us:List bZ,(us.Pairwise λa b=>bP a.idx d=1->bP b.idx d=1)->∃m,Cut us d m/\us.take m=bK d 0 us/\us.drop m=bK d 1 us
 |[],_=>⟨0,⟨zAa _,λi u hi=>by omega,λi u _ h=>by simp at h⟩,rfl,rfl⟩
 |u::us,h=>by
  obtain⟨k,j⟩:=zCx.1 h;obtain f|f:=jH u.idx d
  .obtain⟨m,g,n,l⟩:=Sd d us j;refine⟨m+1,⟨by have:=g.le;simp;omega,λi v hi c=> ?_,λi v hi c=> ?_⟩,?_,?_⟩
   .cases i with
    |zero=>simp at c;rw[<-c];exact f
    |succ i=>exact g.zero i v (by omega) (by simpa using c)
   .cases i with
    |zero=>omega
    |succ i=>exact g.one i v (by omega) (by simpa using c)
   .rw[zFn,n,bK,bK,zBd (by rw[f];rfl)]
   .rw[zFp,l,bK,bK,zAt (by rw[f];decide)]
  .have e:∀v∈u::us,bP v.idx d=1:=λv c=>by
    obtain rfl|c:=zAf.1 c;{exact f};{exact k v c f}
   refine⟨0,⟨zBq _,λi v hi=>by omega,λi v _ c=>e v (zCr c)⟩,?_,?_⟩;{rw[zEy,bK,zFy.2];intro v c;rw[e v c];decide};{rw[zEz,bK,zFo.2];intro v c;rw[e v c];rfl}
def Sub.half {us d}(h:Sub us d)(b):Sub (bK d b us) (d+1):=by
 refine⟨h.order.filter _,λu l=>h.idx u (zAx.1 l).1,λx k y j i hi=> ?_⟩;obtain⟨g,f⟩:=zAx.1 k;obtain⟨c,a⟩:=zAx.1 j;by_cases e:i=d
 .subst e;exact(zCm.1 f).trans (zCm.1 a).symm
 .exact h.bits x g y c i (by omega)
def Sub.cut {us:List bZ}{d:Nat}(h:Sub us d):∃m,Cut us d m/\us.take m=bK d 0 us/\us.drop m=bK d 1 us:=
 Sd d us (h.order.imp_of_mem λ{a b} e hb c f=>Ll (h.idx a e) (h.idx b hb) c (h.bits a e b hb) f)
def Sub.deep {us d}(h:Sub us d)(f:2<=us.length):d<256:=by
 match us,f with
 |a::b::us,_=>obtain c|c:=zDi d 256;{exact c};{exfalso;have e:=RP (h.idx a (by simp)) (h.idx b (by simp)) λi hi=>h.bits a (by simp) b (by simp) i (by omega);have:=(zCx.1 h.order).1 b (by simp);rw[e,eP]at this;cases this}
def Sub.zero {us}(h:us.Pairwise λa b=>aHf a.idx b.idx= -1)(hi:∀u∈us,u.idx.length=32):Sub us 0:=⟨h,hi,λ_ _ _ _ i hi=>by omega⟩
def nB (us)(d):(bK d 0 us).length+(bK d 1 us).length=us.length:=by have:=JG (bG us) d;rw[<-fB,<-fB,gZ,gZ,gZ]at this;exact this
def Hd (k d):kX k [] d=dg k [0]:=by unfold kX;cases 256-d<;>rfl
def BC (k d)(e):kX k [e] d=dg k (rB k e):=by unfold kX;cases 256-d<;>rfl
def ZB (k d)(l)(h:2<=l.length)(c:d<256):kX k l d=dg k (2::(kX k (cN l d 0) (d+1)++kX k (cN l d 1) (d+1))):=by
 unfold kX;rw[show 256-d=(256-(d+1))+1 by omega];match l,h with
 |a::b::l,_=>rfl
def xH (k d)(l)(h:k<=32):(kX k l d).length=k:=dW k _ h
def addr_add (g o j):(⟨g,o,aB⟩:Addr).add j=⟨g,o+j,aB⟩:=by unfold Addr.add;split<;>simp_all
def fL.part {w v us}(h:fL w v us)(m):fL w v (us.take m):=λd=>by
 obtain⟨g,o,e,b,c⟩:=h (by rw[zBg]at d;omega);refine⟨g,o,e,b,λj u a=>c j u ?_⟩;have f:cK us=cK (us.take m)++cK (us.drop m):=by rw[cK,cK,cK,<-List.flatMap_append,zEc]
 rw[f,zCn (zAp.1 a).1];exact a
def fL.rest {w v vb us}(h:fL w v us)(m)(d:m<us.length->vb=v.map λx=>x.add (m*3)):fL w vb (us.drop m):=λf=>by
 rw[zCk]at f;obtain⟨g,o,e,b,c⟩:=h (by omega);subst e;refine⟨g,o+m*3,(d (by omega)).trans (by rw[zBh,addr_add]),b,λj u a=> ?_⟩;rw[zCi];refine c (m*3+j) u ?_;have i:cK us=cK (us.take m)++cK (us.drop m):=by rw[cK,cK,cK,<-List.flatMap_append,zEc]
 rw[i,zBx (by rw[nD,zBg];omega),nD,zBg,show m*3+j-min m us.length*3=j by omega];exact a
abbrev gP (k:Nat)(us:List bZ)(d:Nat):zB:=kX k (bG us) d
inductive eU (k:Nat)(w:zW):Option Nat->List bZ->zP
 |nil (d:Nat):eU k w aB [] d
 |leaf {b:Nat} {u:bZ} {d:Nat} {hs:Int} (h:aX w b aB aB u.idx u.val (gP k [u] d) hs):eU k w (aA b) [u] d
 |node {b:Nat} {us:List bZ} {d:Nat} {z o:Option Nat} {hs:Int} (h2:2<=us.length) (hd:d<256) (h:aX w b z o [] [] (gP k us d) hs) (hz:eU k w z (bK d 0 us) (d+1)) (ho:eU k w o (bK d 1 us) (d+1)):eU k w (aA b) us d
inductive cY (k:Nat)(w:zW):Option Nat->List bZ->Nat->Nat->Nat->List (Nat×ByteArray)->Prop
 |done {p:Option Nat} {us:List bZ} {d lo hi:Nat} (h:eU k w p us d) (hl:lo<=hi):cY k w p us d lo hi []
 |leaf {b:Nat} {u:bZ} {d lo hi:Nat} {hs:Int} (h1:lo<=b) (h2:b<hi) (h:aX w b aB aB u.idx u.val [] hs):cY k w (aA b) [u] d lo hi [(b,⟨(gP k [u] d).toArray⟩)]
 |node {b:Nat} {us:List bZ} {d lo m hi:Nat} {z o:Option Nat} {hs:Int} {rz ro:List (Nat×ByteArray)} (h2:2<=us.length) (hd:d<256) (h:aX w b z o [] [] [] hs) (hz:cY k w z (bK d 0 us) (d+1) lo m rz) (ho:cY k w o (bK d 1 us) (d+1) m b ro) (hb:b<hi):cY k w (aA b) us d lo hi (rz++ro++[(b,⟨(gP k us d).toArray⟩)])
section
variable {k:Nat}{w w':zW}{p:Option Nat}{us:List bZ}{d lo hi:Nat}{rows:List (Nat×ByteArray)}
def gQ {b z o c f i v g i' v' l hs a}(h:aX w b z o i v g hs)(m:aX w b c f i' v' l a):z=c/\o=f/\i=i'/\v=v'/\g=l/\hs=a:=by
 obtain⟨fr,e⟩:=h.at';obtain⟨n,B⟩:=m.at';rw[B]at e;injection e with e;injection e with e _ _;have e:=congrArg Array.toList e;simp only[mZ,List.cons.injEq,and_true]at e;obtain⟨A,u,t,s,r,q⟩:=e;have j:∀{x y:Option Nat},ptr x=ptr y->y=x:=λ{x y} h=>by cases x<;>cases y<;>simp_all [ptr]
 refine⟨j A,j u,?_,?_,?_,?_⟩
 .simpa using t.symm
 .simpa using s.symm
 .simpa using r.symm
 .simpa using q.symm
def AL (h:k<=32):(gP k us d).length=k:=xH k d _ h
def sE (a:1<=k)(h:k<=32):gP k us d≠[]:=λe=>by have:=AL (us:=us) (d:=d) h;rw[e]at this;simp at this;omega
def JY (k d a)(u):gP k [u] d=gP k [u] a:=by unfold gP bG;rw[List.map_singleton,BC,BC]
def eU.gO (h:eU k w p us d):p=aB↔us=[]:=by
 cases h with
 |nil=>simp
 |leaf=>simp
 |node a=>constructor;{intro e;cases e};{rintro rfl;simp at a}
def cY.gO (h:cY k w p us d lo hi rows):p=aB↔us=[]:=by
 cases h with
 |done h=>exact h.gO
 |leaf=>simp
 |node a=>constructor;{intro e;cases e};{rintro rfl;simp at a}
def cY.Jx (h:cY k w p us d lo hi rows):lo<=hi:=by
 induction h with
 |done _ h=>exact h
 |leaf c b _=>omega
 |node _ _ _ _ _ hb a i=>omega
def cY.wide {l a}(h:cY k w p us d lo hi rows)(c:l<=lo)(f:hi<=a):cY k w p us d l a rows:=by
 induction h generalizing l a with
 |done h hl=>exact .done h (by omega)
 |leaf k1 k2 h=>exact .leaf (by omega) (by omega) h
 |node g2 e g j go m i b=>exact .node g2 e g (i c (zAa _)) go (by omega)
def eU.keep (m:1<=k)(j:k<=32)(l:∀b z o i v g hs,g≠[]->aX w b z o i v g hs->∃a,aX w' b z o i v g a)(h:eU k w p us d):eU k w' p us d:=by
 induction h with
 |nil d=>exact .nil d
 |leaf h=>obtain⟨a,f⟩:=l _ _ _ _ _ _ _ (sE m j) h;exact .leaf f
 |node q n h _ _ e c=>obtain⟨a,f⟩:=l _ _ _ _ _ _ _ (sE m j) h;exact .node q n f e c
def cY.keep (q:1<=k)(l:k<=32)(f:∀b z o i v g hs,aX w b z o i v g hs->∃a,aX w' b z o i v g a)(h:cY k w p us d lo hi rows):cY k w' p us d lo hi rows:=by
 induction h with
 |done h hl=>exact .done (h.keep q l λb z o i v g hs _=>f b z o i v g hs) hl
 |leaf k1 k2 h=>obtain⟨a,j⟩:=f _ _ _ _ _ _ _ h;exact .leaf k1 k2 j
 |node n m h _ _ hb e c=>obtain⟨a,j⟩:=f _ _ _ _ _ _ _ h;exact .node n m j e c hb
def cY.each (h:cY k w p us d lo hi rows):(∀x∈rows,lo<=x.1/\x.1<hi/\∃z o i v r,aX w x.1 z o i v [] r)/\(rows.map (·.1)).Nodup:=by
 induction h with
 |done=>exact⟨λx b=>by simp at b,by simp⟩
 |leaf t m h=>refine⟨λx b=> ?_,by simp⟩;rw[zAn]at b;subst b;exact⟨t,m,_,_,_,_,_,h⟩
 |node m B h n s hb g f=>
  have A:=n.Jx;have u:=s.Jx;refine⟨λx b=> ?_,?_⟩
  .obtain b|b:=zAh.1 b
   .obtain b|b:=zAh.1 b
    .have:=g.1 x b;exact⟨this.1,by omega,this.2.2⟩
    .have:=f.1 x b;exact⟨by omega,by omega,this.2.2⟩
   .rw[zAn]at b;subst b;exact⟨by omega,hb,_,_,_,_,_,h⟩
  .rw[zDm,zDm,List.nodup_append,List.nodup_append];refine⟨⟨g.2,f.2,λa j c l e=> ?_⟩,by simp,λa j c l e=> ?_⟩
   .obtain⟨x,b,rfl⟩:=zCh.1 j;obtain⟨y,q,rfl⟩:=zCh.1 l;have:=g.1 x b;have:=f.1 y q;omega
   .simp only[zEa,List.map_nil,zAn]at l;subst l;obtain j|j:=zAh.1 j
    .obtain⟨x,b,rfl⟩:=zCh.1 j;have:=g.1 x b;omega
    .obtain⟨x,b,rfl⟩:=zCh.1 j;have:=f.1 x b;omega
def cY.part (P:1<=k)(M:k<=32){S:zP}{all:List (Nat×ByteArray)}(O:∀b,S b->∃z o i v hs,aX w b z o i v [] hs)(l:∀b z o i v hs,S b->aX w b z o i v [] hs->∀c,z=aA c\/o=aA c->(∃z o i v hs,aX w c z o i v [] hs)->S c)
  (t:∀b s,S b->(b,s)∈all->∀z o i v hs,aX w b z o i v [] hs->∃e,aX w' b z o i v s.data.toList e) (j:∀b,¬S b->∀z o i v g hs,aX w b z o i v g hs->∃e,aX w' b z o i v g e)
  (h:cY k w p us d lo hi rows) (A:∀x∈rows,x∈all):(∃cU,cY k w' p us d lo hi cU/\(∀x∈cU,x∈rows/\¬S x.1)/\cU.length<=rows.length)/\((∀b,p=aA b->(∃z o i v hs,aX w b z o i v [] hs)->S b)->eU k w' p us d):=by
 have hold:∀b z o i v g hs,g≠[]->aX w b z o i v g hs->∃e,aX w' b z o i v g e:=λb z o i v g hs N h=>j b (λr=>by obtain⟨R,V,i',T,e,n⟩:=O b r;exact N (gQ h n).2.2.2.2.1) z o i v g hs h
 induction h with
 |done h hl=>have q:=h.keep P M hold;exact⟨⟨[],.done q hl,λx a=>by simp at a,zBq _⟩,λ_=>q⟩
 | @leaf b u d lo hi hs k1 k2 h=>by_cases r:S b;{obtain⟨e,n⟩:=t b ⟨(gP k [u] d).toArray⟩ r (A _ (by simp)) _ _ _ _ _ h;have q:eU k w' (aA b) [u] d:= .leaf (by simpa using n);exact⟨⟨[],.done q (by omega),λx a=>by simp at a,zBq _⟩,λ_=>q⟩};{obtain⟨e,n⟩:=j b r _ _ _ _ _ _ h;refine⟨⟨_,.leaf k1 k2 n,λx a=>⟨a,?_⟩,zAa _⟩,λa=>absurd (a b rfl ⟨_,_,_,_,_,h⟩) r⟩;rw[zAn]at a;subst a;exact r}
 | @node b us d lo m hi z o hs U ro H q h K L r C B=>
  have G:=C λx a=>A x (zAh.2 (aG (zAh.2 (aG a))));have F:=B λx a=>A x (zAh.2 (aG (zAh.2 (aH a))));by_cases f:S b;{obtain⟨e,n⟩:=t b ⟨(gP k us d).toArray⟩ f (A _ (by simp)) _ _ _ _ _ h;have d1:=G.2 λc E D=>l b _ _ _ _ _ f h c (aG E) D;have Q:=F.2 λc E D=>l b _ _ _ _ _ f h c (aH E) D;have y:eU k w' (aA b) us d:= .node H q (by simpa using n) d1 Q;have Z:=K.Jx;have Y:=L.Jx;exact⟨⟨[],.done y (by omega),λx a=>by simp at a,zBq _⟩,λ_=>y⟩}
  .obtain⟨e,n⟩:=j b f _ _ _ _ _ _ h;obtain⟨⟨r1,f1,J,X⟩,_⟩:=G;obtain⟨⟨r2,f2,I,W⟩,_⟩:=F;refine⟨⟨_,.node H q n f1 f2 r,λx a=> ?_,by simp only[zAg,zAi,zBb];omega⟩,λa=>absurd (a b rfl ⟨_,_,_,_,_,h⟩) f⟩;obtain a|a:=zAh.1 a
   .obtain a|a:=zAh.1 a
    .exact⟨zAh.2 (aG (zAh.2 (aG (J x a).1))),(J x a).2⟩
    .exact⟨zAh.2 (aG (zAh.2 (aH (I x a).1))),(I x a).2⟩
   .rw[zAn]at a;subst a;exact⟨by simp,f⟩
end
structure pC (w:zW)(t k:Nat):Prop where
 lt:t<w.heap.size
 wid:w.cell? ⟨t,0,aB⟩=aA (aC aD k)
 emp:w.cell? ⟨t,2,aB⟩=aA (aK ⟨(dg k [0]).toArray⟩)
def pC.below {w w':zW}{B t k:Nat}(h:pC w t k)(a:Below B w w')(b:w.heap.size<=B):pC w' t k:=
 ⟨zAc h.lt a.size,by rw[a.cell (p:=⟨t,0,aB⟩) (zAc h.lt b)];exact h.wid,by rw[a.cell (p:=⟨t,2,aB⟩) (zAc h.lt b)];exact h.emp⟩
def quiet_of {P:zZ}{f:zN}{args:zA}{v:zY}{w:zW}(h:∀W,zb w W->Calls P f args W λe w'=>e=aL v/\zb W w'):
  Hid (∀(b:Nat)(os:zJ),Calls P f args (Go.Sort.grow (redrawn w b) os) λe a=>e=aL v/\∃p:Regrown,a=Go.Sort.grow (redrawn w p.d) p.os):=λb os=>zHi (h _ (zGu w b os))
def eB {w p v}(h:w.cell? p=aA v)(b:p.block<w.heap.size):∀(a)(os),(Go.Sort.grow (redrawn w a) os).cell? p=aA v:=λa os=>by rw[(zGu w a os).cell (p:=p) b];exact h
def IB (p:Nat×ByteArray):zV:=[aN (aA ⟨p.1,0,aB⟩),aK p.2]
def oM (l:List (Nat×ByteArray)):zV:=l.flatMap IB
def LI (l)(p:Nat×ByteArray):oM (l++[p])=oM l++IB p:=by simp[oM]
def Oo (p:Nat×ByteArray):∀x∈IB p,x.oneCell'=aE:=by intro x h;simp only[IB,zAf,zAr,zCb]at h;obtain rfl|rfl:=h<;>rfl
def QB (l):∀(i)(p:Nat×ByteArray),l[i]? =aA p->∀j,j<2->(oM l)[i*2+j]? =(IB p)[j]? :=by
 induction l with
 |nil=>intro i u h;cases h
 |cons a l b=>
  intro i u h j c;show(IB a++oM l)[i*2+j]? =_;cases i with
  |zero=>simp only[zDe,aGC]at h;subst h;rw[zCn (by show _<2;omega)];simp
  |succ i=>rw[zBx (by show 2<=_;omega),show(i+1)*2+j-(IB a).length=i*2+j by show(i+1)*2+j-2=_;omega];exact b i u (by simpa using h) j c
def sJ (w:zW)(base:Nat)(v:zY)(l:List (Nat×ByteArray)):Prop:=w.ownsRow base 292 2 v l.length (oM l)
def sJ.nil (w)(base):sJ w base (aJ aB 0 0) []:=World.ownsRow_nil _ _ _ _
def sJ.lt {w base v l}(h:sJ w base v l):∀k,v.ownBlock=aA k->base<=k/\k<w.heap.size:=World.ownsRow.lt h
def sJ.kept {w w' base v l}(h:sJ w base v l)(b:∀g,v.ownBlock=aA g->w'.heap[g]? =w.heap[g]?):sJ w' base v l:=by
 obtain⟨e,a⟩:=h;refine⟨e,?_⟩;obtain a|⟨g,cap,cur,rfl,hb,c,r⟩:=a
 .exact aG a
 .exact aH ⟨g,cap,cur,rfl,hb,by rw[b g rfl];exact c,r⟩
def sJ.below {w w':zW}{B base:Nat}{v:zY}{l:List (Nat×ByteArray)}(h:sJ w base v l)(b:Below B w w')(c:w.heap.size<=B):sJ w' base v l:=
 h.kept λg a=>b.block g (zAc (h.lt g a).2 c)
def Om:∃i,zq.info? 292=aA i/\i.zero=aA (.agg #[.pointer aB,aK ⟨#[]⟩])/\i.size=2/\i.bytes=24:=by
 have h:(zq.info? 292).map (λi=>(i.zero,i.size,i.bytes))=aA (aA (.agg #[.pointer aB,aK ⟨#[]⟩]),2,24):=by kernel_rfl
 cases a:zq.info? 292 with
 |none=>rw[a]at h;cases h
 |some i=>rw[a]at h;simp only[zBh,aGC,aHc]at h;exact⟨i,rfl,h.1,h.2.1,h.2.2⟩
def KI {W ops rest o a Q}(m:o.guard=aB)(s x)
  (B:o.op= .call {callee:= .builtin .append,args:= #[s,x],argTypes:= #[283,283]})
  (base) (v) (l) (hs:a.eval s=v) (b:sJ W base v l) (u:Nat×ByteArray) (c) (A:a.eval x=aJ (aA ⟨W.heap.size,0,aB⟩) 1 c)
  (E:l.length<=1000000) (q:base<=W.heap.size)
  (h:∀g cap w',sJ w' base (aJ (aA ⟨g,0,aB⟩) (l.length+1) cap) (l++[u])->W.grownBy w' v.ownBlock->wpList zq ops Q rest (a.put o.dst (aJ (aA ⟨g,0,aB⟩) (l.length+1) cap)) w'):wpList zq ops Q (o::rest) a (W.alloc (aI #[aN (aA ⟨u.1,0,aB⟩),aK u.2] 292)):=by
 obtain⟨i,hi,r,f,n⟩:=Om;refine wpList_append_lies _ m s x 283 B base 292 i _ 2 24 ((Qz.eH 283).trans underlying283) hi r f n rfl (by omega) v l.length (oM l) hs (World.ownsRow.alloc b _) ⟨W.heap.size,0,aB⟩ 1 c (IB u) A rfl (λj y z=> ?_) (Oo u) (by omega) (by simp only[maxLen];omega) (by omega) (by rw[size_alloc];omega) _ rfl (λg cap w' D C _ _=>h g cap w' ?_ (iV C))
 .have e:(⟨W.heap.size,0,aB⟩:Addr).add j=⟨W.heap.size,j,aB⟩:=by{unfold Addr.add;split<;>simp_all};rw[e];show(W.alloc (aI (IB u).toArray 292)).cell? _=_;rw[(bW.new W 292 (IB u).toArray).cell j];simpa using z
 .unfold sJ;rw[LI,zAg];exact D
def AQ {w0 w w':zW}{B base:Nat}{v:zY}{l:List (Nat×ByteArray)}(e:Below B w0 w)(h:sJ w base v l)(c:w.grownBy w' v.ownBlock)(f:B<=base)(a:B<=w.heap.size):Below B w0 w':=
 e.grown c a λk b=>zAv f (h.lt k b).1
def sJ.rows {w base v l}(h:sJ w base v l):∃q c,v=aJ q l.length c/\l.length<=c/\fX l q l.length w/\∀a,q=aA a->base<=a.block:=by
 obtain⟨y,f⟩:=h;obtain⟨rfl,f⟩|⟨g,cap,cur,rfl,hb,o,r,_,s,n⟩:=f
 .have:l=[]:=zFu.1 f;subst this;exact⟨aB,0,rfl,zAa _,⟨rfl,λx=>absurd rfl x⟩,λa e=>by cases e⟩
 .refine⟨aA ⟨g,0,aB⟩,cap,rfl,r,⟨rfl,λ_=>⟨g,0,rfl,λj p m=> ?_⟩⟩,λa e=>by cases e;exact hb⟩;have b:∀i,i<2->w.cell? ⟨g,0+(j*2+i),aB⟩=(IB p)[i]? :=λi hi=>by
   have u:=(zAp.1 m).1;rw[zAz,aZ o,<-QB l j p m i hi,<-n,List.getElem?_take_of_lt (by omega),zBr]
  exact⟨b 0 (by omega),by have:=b 1 (by omega);rwa [<-zCi]at this⟩
section
variable {k t:Nat}{w w':zW}{p:Option Nat}{us:List bZ}{d lo hi:Nat}{rows:List (Nat×ByteArray)}
def Bq (h:pC w t k):Calls zq 226 #[aN (aA ⟨t,0,aB⟩),ptr aB] w λe w'=>e=aL (aK ⟨(dg k [0]).toArray⟩)/\w'=w:=by have p2:=h.emp;go_enter (Qz.fn func226),ntmps226;go_wp2;go_ret;exact⟨rfl,rfl⟩
def JB {b z o i v g hs}(h:aX w b z o i v g hs):Calls zq 226 #[aN (aA ⟨t,0,aB⟩),ptr (aA b)] w λe w'=>e=aL (aK ⟨g.toArray⟩)/\w'=w:=by have c4:=h.c4;go_enter (Qz.fn func226),ntmps226;go_wp2;go_ret;exact⟨rfl,rfl⟩
def wV (a:pC w t k)(h:eU k w p us d):Calls zq 226 #[aN (aA ⟨t,0,aB⟩),ptr p] w λe w'=>e=aL (aK ⟨(gP k us d).toArray⟩)/\w'=w:=by
 cases h with
 |nil=>have:gP k [] d=dg k [0]:=Hd k d;rw[this];exact Bq a
 |leaf h=>exact JB h
 |node _ _ h=>exact JB h
structure Wk (k t:Nat)(W0 W:zW):Prop where
 k1:1<=k
 k2:k<=32
 top:pC W0 t k
 iP:fJ W0
 below:zb W0 W
def Wk.cell {c W}(h:Wk k t c W){b z o i v g hs}(a:aX c b z o i v g hs):aX W b z o i v g hs:=⟨by rw[h.below.block b a.lt];exact a.at'⟩
def Wk.CW {a W}(h:Wk k t a W):pC W t k:=h.top.below h.below (zAa _)
def Wk.zn {a W}(h:Wk k t a W):fJ W:=h.iP.below h.below (zAa _)
def KJ (k t:Nat)(a:zW)(p:Option Nat)(us:List bZ)(d:Nat)(rows:List (Nat×ByteArray)):Prop:=
 ∀W v L,Wk k t a W->sJ W a.heap.size v L->L.length+rows.length<=1000000->Calls zq 243 #[aN (aA ⟨t,0,aB⟩),ptr p,v] W λe w'=>∃b,e=aL (.tuple #[aK ⟨(gP k us d).toArray⟩,b])/\sJ w' a.heap.size b (L++rows)/\zb a w'
def YZ {m}(h:eU k m p us d):KJ k t m p us d []:=by
 intro W v L a s A;have x:=hid a;have l:=h.keep a.k1 a.k2 λb z o i v g n _ r=>⟨n,a.cell r⟩;have u:Hid (∀c,c=W->Calls zq 226 #[aN (aA ⟨t,0,aB⟩),ptr p] c λe w'=>e=aL (aK ⟨(gP k us d).toArray⟩)/\w'=c):=λc e=>by subst e;exact wV a.CW l
 have y:Hid (Calls zq 246 #[ptr p] W λe w'=>e=aL (.bool aF)/\w'=W):=by
  have f:=sE (us:=us) (d:=d) a.k1 a.k2;have j:(gP k us d).isEmpty=aF:=by{cases q:gP k us d with|nil=>exact absurd q f|cons _ _=>rfl};cases l with
  |nil=>exact yY W
  |leaf h=>exact(mV h).mono λe w' h=>⟨by rw[h.1,j],h.2⟩
  |node _ _ h=>exact(mV h).mono λe w' h=>⟨by rw[h.1,j],h.2⟩
 have H:=hid s;generalize gP k us d=Z at*;generalize ptr p=pp at*;go_enter (Qz.fn func243),ntmps243;go_wp2_with fail;refine y.out.mono ?_;rintro e w' ⟨rfl,rfl⟩;go_wp2_with fail;refine(u.out _ rfl).mono ?_;rintro e w' ⟨rfl,rfl⟩;go_wp2;go_ret2;exact⟨v,rfl,by rw[zAy];exact H.out,x.out.below⟩
end
section
variable {k t:Nat}{W0:zW}{us:List bZ}{d:Nat}
def YY {b u hs}(hi:u.idx.length=32)(hv:u.val.length<=100)(I:aX W0 b aB aB u.idx u.val [] hs):KJ k t W0 (aA b) [u] d [(b,⟨(gP k [u] d).toArray⟩)]:=by
 intro W v L i J K;have m:=i.k1;have f:=i.k2;have z:L.length<=1000000:=by simp at K;omega
 have j:=i.cell I;have U:=hid (mV j);have S:=hid (iU j);have Q:=hid J;have E:=hid i.below;have C:=hid i.zn;have x:=hid i.CW;have q0:=eB x.out.wid x.out.lt;have q1:=eB j.c2 j.lt;have X:=eB j.c3 j.lt;rw[show gP k [u] d=dg k (1::(u.idx++dg k (4::u.val)))from BC k d _];have H:Hid (∀a,fJ a->Calls zq 128 #[aC aD k,aK ⟨u.val.toArray⟩] a λe c=>e=aL (aK ⟨(dg k (4::u.val)).toArray⟩)/\zb a c):=λa p=>CJ k ⟨u.val.toArray⟩ a m f (by show u.val.length<=_;omega) p;have bq:(dg k (4::u.val)).length=k:=dW k _ f;generalize dg k (4::u.val)=Y at*;have s:Hid (∀a,Calls zq 127 #[aK ⟨u.idx.toArray⟩,aK ⟨Y.toArray⟩] a λe c=>e=aL (aK ⟨(1::(u.idx++Y)).toArray⟩)/\zb a c):=λa=>
  (sM ⟨u.idx.toArray⟩ ⟨Y.toArray⟩ a (by show u.idx.length<=_;omega) (by show Y.length<=_;omega)).mono λe c h=>⟨h.1,by rw[h.2];exact zGn _ _⟩
 have hll:(1::(u.idx++Y)).length<=1000:=by simp;omega
 generalize 1::(u.idx++Y)=Z at*;have r:Hid (∀a,fJ a->Calls zq 53 #[aC aD k,aK ⟨Z.toArray⟩] a λe c=>e=aL (aK ⟨(dg k Z).toArray⟩)/\zb a c):=λa p=>sK k ⟨Z.toArray⟩ a m f (by show Z.length<=_;omega) p;generalize dg k Z=R at*;have B:=quiet_of λa p=>H.out a (C.out.below p (zAa _));have D:=quiet_of (w:=W) λa _=>s.out a;clear j I i J K H s;go_enter (Qz.fn func243),ntmps243;go_wp2_with fail;refine U.out.mono ?_;rintro e c ⟨rfl,rfl⟩;go_wp2_with fail;refine S.out.mono ?_;rintro e c ⟨rfl,rfl⟩;go_wp2_with fail;refine zHb (by kernel_rfl) (by kernel_rfl) ?_;repeat (any_goals(first|go_big_quiet_step ((first|exact B.out _ _|exact D.out _ _))|quiet_step ((first|exact B.out _ _|exact D.out _ _))))
 refine zHj ?_;intro N y;obtain⟨q,G⟩:=y;have o:zb c N:=by rw[G];exact zGu c q.d q.os
 have F:=hid (E.out.trans (o.mono E.out.size));have P:=hid (Q.out.below o (zAa _));have T:=hid (C.out.below o (zAa _));have P1:=(x.out.below o (zAa _)).wid;clear G o B D q0 q1 X Q C x E U S;go_wp2_with fail;refine(r.out N T.out).mono ?_;rintro e w2 ⟨rfl,g⟩;have V:=hid (F.out.trans (g.mono F.out.size));have O:=hid (P.out.below g (zAa _));have n:=V.out.size;clear g F P T P1 r;go_wp2_with (first|(at_builtin;refine KI rfl _ _ rfl W0.heap.size _ _ rfl O.out (b,⟨R.toArray⟩) 1 rfl z n ?_;intro g' M c l A));go_ret2;exact⟨_,rfl,l,AQ V.out O.out A (zAa _) n⟩
def Lc (a:2<=us.length)(h:d<256):gP k us d=dg k (2::(gP k (bK d 0 us) (d+1)++gP k (bK d 1 us) (d+1))):=by unfold gP;rw[fB,fB];exact ZB k d _ (by rw[gZ];exact a) h
def YX {b z o hs r ro}(h2:2<=us.length)(hd:d<256)(A:aX W0 b z o [] [] [] hs)(I:z≠aB\/o≠aB)(p:KJ k t W0 z (bK d 0 us) (d+1) r)(q:KJ k t W0 o (bK d 1 us) (d+1) ro):
  KJ k t W0 (aA b) us d (r++ro++[(b,⟨(gP k us d).toArray⟩)]):=by
 intro W v L g K M;have i:=g.k1;have a:=g.k2;have hL':L.length+(r.length+ro.length+1)<=1000000:=by simpa [zCi]using M
 have m:=g.cell A;have HF:=hid (mV m);have Y:Hid (Calls zq 227 #[ptr (aA b)] W λe w=>e=aL (.bool aF)/\w=W):=(iU m).mono λe w h=>⟨by
  rw[h.1];obtain h|h:=I
  .cases z with
   |none=>exact absurd rfl h
   |some _=>rfl
  .cases o with
   |none=>exact absurd rfl h
   |some _=>cases z<;>rfl,h.2⟩
 have V:=hid K;have l:Hid (∀D,zb W0 D->Wk k t W0 D):=λD h=>⟨i,a,g.top,g.iP,h⟩;have HB:=hid g.below;have HC:=hid A;have c0:=m.c0;have hx:(gP k (bK d 0 us) (d+1)).length=k:=AL a;have hy:(gP k (bK d 1 us) (d+1)).length=k:=AL a;rw[Lc h2 hd];unfold KJ at p q;generalize gP k (bK d 0 us) (d+1)=x at*;generalize gP k (bK d 1 us) (d+1)=y at*;have S:=hid p;have U:=hid q;have X:Hid (∀w2,Calls zq 118 #[aK ⟨x.toArray⟩,aK ⟨y.toArray⟩] w2 λe w=>e=aL (aK ⟨(2::(x++y)).toArray⟩)/\w=w2):=λw2=>(sL ⟨x.toArray⟩ ⟨y.toArray⟩ w2 (by show x.length<=_;omega) (by show y.length<=_;omega)).mono λe w h=>⟨by simpa using h.1,h.2⟩;have hll:(2::(x++y)).length<=1000:=by simp;omega
 generalize 2::(x++y)=Z at*;have H:Hid (∀w2,fJ w2->Calls zq 53 #[aC aD k,aK ⟨Z.toArray⟩] w2 λe w=>e=aL (aK ⟨(dg k Z).toArray⟩)/\zb w2 w):=λw2 B=>sK k ⟨Z.toArray⟩ w2 i a (by show Z.length<=_;omega) B;generalize dg k Z=R at*;have J:L++(r++ro++[(b,(⟨R.toArray⟩:ByteArray))])=(L++r++ro)++[(b,⟨R.toArray⟩)]:=by simp
 rw[J];clear J;clear m A g K M p q I;go_enter (Qz.fn func243),ntmps243;go_wp2_with fail;refine HF.out.mono ?_;rintro e w ⟨rfl,rfl⟩;go_wp2_with fail;refine Y.out.mono ?_;rintro e w ⟨rfl,rfl⟩;go_wp2_with fail;refine(S.out w v L (l.out _ HB.out) V.out (by omega)).mono ?_;rintro e w1 ⟨v1,rfl,G,C⟩;have Q:=hid G;have B1:=hid C;have c1:=((l.out _ C).cell HC.out).c1;clear G C S V HB HF Y c0;go_wp2_with fail;refine(U.out w1 v1 (L++r) (l.out _ B1.out) Q.out (by rw[zAg];omega)).mono ?_;rintro e w2 ⟨v2,rfl,F,n⟩;have P:=hid F;have E:=hid n;have T:=hid ((l.out _ n).zn);have p2:=(l.out _ n).CW.wid;clear F n U Q B1 c1;go_wp2_with fail;refine(X.out w2).mono ?_;rintro e w ⟨rfl,rfl⟩;go_wp2_with fail;refine(H.out w T.out).mono ?_;rintro e w3 ⟨rfl,f⟩;have B3:=hid (E.out.trans (f.mono E.out.size));have O:=hid (P.out.below f (zAa _));have j:=B3.out.size;have s:(L++r++ro).length<=1000000:=by rw[zAg,zAg];omega
 clear f E P T p2 H X;go_wp2_with (first|(at_builtin;refine KI rfl _ _ rfl W0.heap.size _ _ rfl O.out (b,⟨R.toArray⟩) 1 rfl s j ?_;intro g' N w c u));go_ret2;have e:(L++r++ro).length=L.length+(r.length+ro.length):=by rw[zAg,zAg];omega
 rw[e]at c;exact⟨_,rfl,c,AQ B3.out O.out u (zAa _) j⟩
def Gy {p lo hi rows}(h:cY k W0 p us d lo hi rows)(e:∀u∈us,u.idx.length=32/\u.val.length<=100):KJ k t W0 p us d rows:=by
 induction h with
 |done h=>exact YZ h
 |leaf _ _ h=>exact YY (e _ (by simp)).1 (e _ (by simp)).2 h
 | @node b us d lo m hi z o x w ro r q h j l hb f i=>
  have n:z≠aB\/o≠aB:=by have hl:=nB us d;by_cases c:z=aB;{right;intro g;have v:=j.gO.1 c;have s:=l.gO.1 g;rw[v,s]at hl;simp at hl;omega};{exact aG c}
  exact YX r q h n (f λu a=>e u (zAx.1 a).1) (i λu a=>e u (zAx.1 a).1)
def SL {p lo hi rows}(f:1<=k)(b:k<=32)(n:pC W0 t k)(m:fJ W0)(h:cY k W0 p us d lo hi rows)(j:∀u∈us,u.idx.length=32/\u.val.length<=100)(hl:rows.length<=1000000):
  Calls zq 236 #[aN (aA ⟨t,0,aB⟩),ptr p] W0 λe w=>∃q l cp,e=aL (aJ q l cp)/\l<=cp/\fX rows q l w/\(∀a,q=aA a->W0.heap.size<=a.block)/\zb W0 w:=by
 have H:=hid (Gy h j W0 (aJ aB 0 0) [] ⟨f,b,n,m,zGn _ _⟩ (sJ.nil _ _) (by simpa using hl));generalize ptr p=pp at*;generalize gP k us d=Z at*;go_enter (Qz.fn func236),ntmps236;go_wp2_with fail;refine H.out.mono ?_;rintro e w1 ⟨v1,rfl,o,s⟩;have O:=hid o;have B:=hid s;go_wp2;go_ret;obtain⟨q,c,rfl,i,g,r⟩:=O.out.rows;rw[zCe]at i g;exact⟨q,_,c,rfl,i,g,r,B.out⟩
end
def QF (l:List (Option Nat)):zV:=l.map ptr
def Vs (p):(ptr p).oneCell'=aE:=by cases p<;>rfl
def iZ (w:zW)(base:Nat)(v:zY)(l:List (Option Nat)):Prop:=w.ownsRow base 264 1 v l.length (QF l)
def iZ.nil (w)(base):iZ w base (aJ aB 0 0) []:=World.ownsRow_nil _ _ _ _
def iZ.lt {w base v l}(h:iZ w base v l):∀k,v.ownBlock=aA k->base<=k/\k<w.heap.size:=World.ownsRow.lt h
def iZ.kept {w w' base v l}(h:iZ w base v l)(b:∀g,v.ownBlock=aA g->w'.heap[g]? =w.heap[g]?):iZ w' base v l:=by
 obtain⟨d,a⟩:=h;refine⟨d,?_⟩;obtain a|⟨g,cap,cur,rfl,hb,c,r⟩:=a
 .exact aG a
 .exact aH ⟨g,cap,cur,rfl,hb,by rw[b g rfl];exact c,r⟩
def iZ.below {w w':zW}{B base:Nat}{v:zY}{l:List (Option Nat)}(h:iZ w base v l)(b:Below B w w')(c:w.heap.size<=B):iZ w' base v l:=
 h.kept λg a=>b.block g (zAc (h.lt g a).2 c)
def UL:∃i,zq.info? 264=aA i/\i.zero=aA (.pointer aB)/\i.size=1/\i.bytes=8:=by
 have h:(zq.info? 264).map (λi=>(i.zero,i.size,i.bytes))=aA (aA (.pointer aB),1,8):=by kernel_rfl
 cases a:zq.info? 264 with
 |none=>rw[a]at h;cases h
 |some i=>rw[a]at h;simp only[zBh,aGC,aHc]at h;exact⟨i,rfl,h.1,h.2.1,h.2.2⟩
def Dp {W ops rest o a Q}(m:o.guard=aB)(s x)
  (t:o.op= .call {callee:= .builtin .append,args:= #[s,x],argTypes:= #[166,166]})
  (base) (v) (l) (hs:a.eval s=v) (b:iZ W base v l) (u) (c) (f:a.eval x=aJ (aA ⟨W.heap.size,0,aB⟩) 1 c)
  (B:l.length<=1000000) (p:base<=W.heap.size)
  (h:∀g cap w',iZ w' base (aJ (aA ⟨g,0,aB⟩) (l.length+1) cap) (l++[u])->W.grownBy w' v.ownBlock->(v.ownBlock=aA g\/W.heap.size<=g)->wpList zq ops Q rest (a.put o.dst (aJ (aA ⟨g,0,aB⟩) (l.length+1) cap)) w'):wpList zq ops Q (o::rest) a (W.alloc (aI #[ptr u] 264)):=by
 obtain⟨i,hi,q,k,n⟩:=UL;refine wpList_append_lies _ m s x 166 t base 264 i _ 1 8 ((Qz.eH 166).trans underlying166) hi q k n rfl (by omega) v l.length (QF l) hs (World.ownsRow.alloc b _) ⟨W.heap.size,0,aB⟩ 1 c [ptr u] f rfl (λj y r=> ?_) (λx f=>by rw[zAn]at f;subst f;exact Vs u) (by omega) (by simp only[maxLen];omega) (by omega) (by rw[size_alloc];omega) _ rfl (λg cap w' A z w _=>h g cap w' ?_ (iV z) (w.imp id λe=>by rw[e,size_alloc];omega))
 .have d:(⟨W.heap.size,0,aB⟩:Addr).add j=⟨W.heap.size,j,aB⟩:=by{unfold Addr.add;split<;>simp_all};rw[d];rw[(bW.new W 264 #[ptr u]).cell j];simpa using r
 .unfold iZ QF;rw[zDm,zAg];exact A
def qT (w:zW)(q:zO)(l:List (Option Nat)):Prop:=0<l.length->∃g o,q=aA ⟨g,o,aB⟩/\g<w.heap.size/\∀j p,l[j]? =aA p->w.cell? ⟨g,o+j,aB⟩=aA (ptr p)
def qT.kept {w w' q l}(h:qT w q l)(hs:w.heap.size<=w'.heap.size)(c:∀a,q=aA a->w'.heap[a.block]? =w.heap[a.block]?):qT w' q l:=λi=>by obtain⟨g,o,e,d,f⟩:=h i;refine⟨g,o,e,zAc d hs,λj p b=> ?_⟩;rw[<-f j p b];simp only[World.cell?];rw[c _ e]
def iZ.QF {w base v l}(h:iZ w base v l):∃q c,v=aJ q l.length c/\l.length<=c/\qT w q l/\∀a,q=aA a->base<=a.block/\a.block<w.heap.size/\∃b,w.heap[a.block]? =aA (aI b 264 (0,0)):=by
 obtain⟨s,f⟩:=h;obtain⟨rfl,f⟩|⟨g,cap,b,rfl,hb,d,n,_,o,m⟩:=f
 .have:l=[]:=zFu.1 f;subst this;exact⟨aB,0,rfl,zAa _,λx=>by simp at x,λa e=>by cases e⟩
 .have k:=(zAb.1 d).1;refine⟨aA ⟨g,0,aB⟩,cap,rfl,n,λ_=>⟨g,0,rfl,k,λj p i=> ?_⟩,λa e=>by cases e;exact⟨hb,k,b,d⟩⟩;have r:=(zAp.1 i).1;rw[zAz,aZ d,<-zBr];have:(b.toList.take (l.length*1))[j]? =aA (ptr p):=by
   rw[m];unfold Go.Proofs.Zq.QF;rw[zDr,i];rfl
  rwa [List.getElem?_take_of_lt (by omega)]at this
def vO (w:zW)(fr:Option Nat->Bool)(p:Option Nat):Prop:=(p=aB/\fr p=aF)\/∃b z o i v g h,p=aA b/\aX w b z o i v g h/\fr p=g.isEmpty
def Bu {w fr p}(h:vO w fr p):Calls zq 246 #[ptr p] w λe a=>e=aL (.bool (fr p))/\a=w:=by
 obtain⟨rfl,h⟩|⟨b,z,o,i,v,g,d,rfl,c,h⟩:=h
 .rw[h];exact yY w
 .rw[h];exact mV c
structure SC (w w':zW)(v v':zY):Prop where
 XS:w.grownBy w' v.ownBlock
 own:∀g,v'.ownBlock=aA g->v.ownBlock=aA g\/w.heap.size<=g
def SC.refl (w)(v):SC w w v v:=⟨⟨rfl,rfl,rfl,zAa _,λ_ _ _=>rfl⟩,λ_ h=>aG h⟩
def SC.trans {w w1 w2 v v1 v2}(h:SC w w1 v v1)(k:SC w1 w2 v1 v2):SC w w2 v v2:=by
 refine⟨⟨k.XS.os.trans h.XS.os,k.XS.tape.trans h.XS.tape,k.XS.output.trans h.XS.output,zAv h.XS.size k.XS.size,λb c a=> ?_⟩,λg d=> ?_⟩
 .refine(k.XS.block b (zAc c h.XS.size) λe=> ?_).trans (h.XS.block b c a);obtain x|x:=h.own b e.symm
  .exact a x.symm
  .omega
 .obtain x|x:=k.own g d
  .exact h.own g x
  .right;have:=h.XS.size;omega
def OA {w base v l ts q c fr}(Y:iZ w base v l)(X:qT w q ts)(hF:∀p∈ts,vO w fr p)(T:∀a g,q=aA a->v.ownBlock=aA g->a.block≠g)(W:base<=w.heap.size)(r:∀p∈ts,∀b,p=aA b->∀g,v.ownBlock=aA g->b≠g)(hl:l.length+ts.length<=1000):
  Calls zq 241 #[v,aJ q ts.length c] w λe D=>∃y,e=aL y/\iZ D base y (l++ts.filter fr)/\SC w D v y:=by
 have HO:=hid Y;have HT:=hid X;have HF:=hid hF;have HQ:=hid T;have HC:=hid r;go_enter (Qz.fn func241),ntmps241;go_wp2_with fail;go_loopg [0,9] ts.length (λn x i wr=>∃t:Nat,t+n=ts.length/\i=aC aD (t:Int)/\SC w wr v x/\iZ wr base x (l++(ts.take t).filter fr));case atStart=>exact⟨0,by omega,rfl,SC.refl _ _,by simpa using HO.out⟩
 case round=>
  obtain⟨t,ht,rfl,c1,c2⟩:=hrel
  have C:=hid c1
  have K:=hid c2
  by_cases f:t<ts.length
  .obtain⟨g,R,rfl,I,O⟩:=HT.out (by omega);have L:=O t ts[t] (zAe f);have d:=zCt f;have K0:wr.cell? ⟨g,R+t,aB⟩=aA (ptr ts[t]):=by
    rw[<-L];simp only[World.cell?];rw[C.out.XS.block g I λe=>HQ.out _ _ rfl e.symm rfl]
   have m:vO wr fr ts[t]:=by obtain h|⟨b,z,o,i,y,P,S,e,B,h⟩:=HF.out _ d;{exact aG h};{exact aH ⟨b,z,o,i,y,P,S,e,⟨by rw[C.out.XS.block b B.lt λe'=>HC.out _ d b e b e'.symm rfl];exact B.at'⟩,h⟩}
   have j:fr ts[t]=aE->∃b,ts[t]=aA b:=λh=>by obtain⟨_,Z⟩|⟨b,_,_,_,_,_,_,e,_⟩:=m;{rw[Z]at h;cases h};{exact⟨b,e⟩}
   have s:=hid (Bu m);have u:Hid (l++(ts.take (t+1)).filter fr=(l++(ts.take t).filter fr)++(if fr ts[t]then [ts[t]]else [])):=by show _=_;rw[List.take_succ,zAe f,zDl,zCf];by_cases N:fr ts[t]=aE;{simp[N]};{simp[N]}
   have F:(l++(ts.take t).filter fr).length<=1000000:=by have h1:=zGa fr (ts.take t);rw[zAg];rw[zBg]at h1;omega
   have J:=zAv W C.out.XS.size;have V:¬((t:Int)<0):=by{omega};have U:(t:Int)<(ts.length:Int):=by{omega};generalize ts[t]=pt at*;generalize l++(ts.take t).filter fr=M at*;clear m O L d;go_wp2_with fail;refine s.out.mono ?_;rintro e D ⟨rfl,rfl⟩;cases k:fr pt with
   |true=>
    obtain⟨b,rfl⟩:=j k;have H:Hid (l++(ts.take (t+1)).filter fr=M++[aA b]):=by have:=u.out;rw[k]at this;exact this
    clear u s;go_wp2_with (first|(at_builtin;refine Dp rfl _ _ rfl base _ _ rfl K.out (aA b) 1 rfl F J ?_;intro P Q w2 A G E));go_roundg (ts.length-(t+1));case measure=>omega
    case rel=>
     go_light
     refine⟨t+1,by omega,by go_num,C.out.trans ⟨G,λg I=> ?_⟩,by rw[H.out];exact A⟩
     cases I
     exact E
   |false=>
    have H:Hid (l++(ts.take (t+1)).filter fr=M):=by show _=_;have:=u.out;rw[k]at this;simpa using this
    clear u s;go_wp2;go_roundg (ts.length-(t+1));case measure=>omega
    case rel=>
     go_light
     exact⟨t+1,by omega,by go_num,C.out,by rw[H.out];exact K.out⟩
  .have:t=ts.length:=by{omega};subst this;have u:Hid (l++(ts.take ts.length).filter fr=l++ts.filter fr):=by{show _=_;rw[zFl]};go_wp2;go_ret;exact⟨u0,rfl,by rw[<-u.out];exact K.out,C.out⟩
def kids (zf of:Nat->Option Nat)(fr:Option Nat->Bool)(b:Nat):List (Option Nat):=[zf b,of b].filter fr
def Qe (zf of)(fr:Option Nat->Bool)(b):(kids zf of fr b).length<=2:=zGa _ _
def JL (zf of:Nat->Option Nat)(fr:Option Nat->Bool):∀a:List Nat,(a.flatMap (kids zf of fr)).length<=2*a.length
 |[]=>by simp
 |b::a=>by have c:=JL zf of fr a;have h:=Qe zf of fr b;simp only[List.flatMap_cons,zAg,zAi];omega
def Jz {w}{bs:List Nat}{zf of fr q c}(hT:qT w q (bs.map aA))(hC:∀b∈bs,(∃i v g hs,aX w b (zf b) (of b) i v g hs)/\vO w fr (zf b)/\vO w fr (of b))(hl:bs.length<=100):
  Calls zq 242 #[aJ q bs.length c] w λe F=>∃s,e=aL s/\iZ F w.heap.size s (bs.flatMap (kids zf of fr))/\zb w F:=by
 have HT:=hid hT;have HC:=hid hC;go_enter (Qz.fn func242),ntmps242;go_wp2_with fail;go_loopg [3,8] bs.length (λn x i wr=>∃t:Nat,t+n=bs.length/\i=aC aD (t:Int)/\zb w wr/\iZ wr w.heap.size x ((bs.take t).flatMap (kids zf of fr)));case atStart=>exact⟨0,by omega,rfl,zGn _ _,iZ.nil _ _⟩
 case round=>
  obtain⟨t,ht,rfl,c1,c2⟩:=hrel
  have K:=hid c1
  have Z:=hid c2
  by_cases B:t<bs.length
  .obtain⟨g,T,rfl,hg,V⟩:=HT.out (by rw[zDa];omega);have y:=zCt B;have U:=V t (aA bs[t]) (by rw[zDr,zAe B];rfl);have K0:wr.cell? ⟨g,T+t,aB⟩=aA (ptr (aA bs[t])):=by
    rw[K.out.cell (p:=⟨g,T+t,aB⟩) hg];exact U
   obtain⟨⟨i,v,gg,hs,f⟩,E,D⟩:=HC.out _ y;have d:aX wr bs[t] (zf bs[t]) (of bs[t]) i v gg hs:=⟨by rw[K.out.block _ f.lt];exact f.at'⟩;have c0:=d.c0;have c1:=d.c1;have N:Hid ((bs.take (t+1)).flatMap (kids zf of fr)=(bs.take t).flatMap (kids zf of fr)++[zf bs[t],of bs[t]].filter fr):=by show _=_;rw[List.take_succ,zAe B,List.flatMap_append];simp[kids]
   have O:((bs.take t).flatMap (kids zf of fr)).length<=200:=by have:=JL zf of fr (bs.take t);rw[zBg]at this;omega
   have A:∀p,vO w fr p->∀W,zb w W->vO W fr p:=λp h W L=>by obtain h|⟨b,z,o,i,s,Y,hs,e,u,h⟩:=h;{exact aG h};{exact aH ⟨b,z,o,i,s,Y,hs,e,⟨by rw[L.block b u.lt];exact u.at'⟩,h⟩}
   have m:∀p,vO w fr p->∀b,p=aA b->b<w.heap.size:=λp h b e=>by obtain⟨rfl,_⟩|⟨b',z,o,i,s,Y,hs,e',u,h⟩:=h;{cases e};{rw[e']at e;cases e;exact u.lt}
   have R:Hid (∀W,zb wr W->Calls zq 241 #[u3,aJ (aA ⟨W.heap.size,0,aB⟩) 2 2] (W.alloc (aI #[ptr (zf bs[t]),ptr (of bs[t])] 264)) λe F=>∃s,e=aL s/\iZ F w.heap.size s ((bs.take (t+1)).flatMap (kids zf of fr))/\zb w F):=λW L=>by
    have M:=Z.out.below L (zAa _);have J:zb w W:=K.out.trans (L.mono K.out.size);have r:zb w (W.alloc (aI #[ptr (zf bs[t]),ptr (of bs[t])] 264)):=J.alloc J.size _;have Q:iZ (W.alloc (aI #[ptr (zf bs[t]),ptr (of bs[t])] 264)) w.heap.size u3 ((bs.take t).flatMap (kids zf of fr)):=World.ownsRow.alloc M _;have H:=bW.new W 264 #[ptr (zf bs[t]),ptr (of bs[t])];rw[N.out];refine(OA (ts:=[zf bs[t],of bs[t]]) (q:=aA ⟨W.heap.size,0,aB⟩) (c:=2) (fr:=fr) Q ?_ ?_ ?_ ?_ ?_ ?_).mono ?_
    .refineλ_=>⟨W.heap.size,0,rfl,by rw[size_alloc];omega,λj p l=> ?_⟩;rw[zAz,H.cell j];match j,l with
     |0,l=>cases l;rfl
     |1,l=>cases l;rfl
    .intro p l;simp only[zAf,zAr,zCb]at l;obtain rfl|rfl:=l
     .exact A _ E _ r
     .exact A _ D _ r
    .intro a g P C e;cases P;have:=(M.lt g C).2;dsimp only at e;omega
    .have:=r.size;omega
    .intro p l b X g C;have:=(M.lt g C).1;have:b<w.heap.size:=by
      simp only[zAf,zAr,zCb]at l;obtain rfl|rfl:=l;{exact m _ E b X};{exact m _ D b X}
     omega
    .simp only[zAi,zBb];omega
    .rintro e F ⟨s,rfl,h1,h2⟩;exact⟨s,rfl,h1,r.grown h2.XS r.size λk hk=>(M.lt k hk).1⟩
   have fp:¬((t:Int)<0):=by{omega};have Yc:(t:Int)<(bs.length:Int):=by omega
   generalize bs[t]=S at*;generalize zf S=pz at*;generalize of S=po at*;clear V U y f d E D A m N O;cases pz<;>cases po;all_goals
    go_upto_region 5 with(fail)
    go_region_with (first
     |(go_at_call 241;refine(R.out wr.drew ⟨rfl,rfl,rfl,zAa _,λ_ _=>rfl⟩).mono ?_;rintro e w9 ⟨v9,rfl,G,I⟩;dsimp only))
    all_goals
     have O9:=hid G
     have B9:=hid I
     clear G I
     go_wp2_with fail
     go_roundg (bs.length-(t+1))
     case measure=>omega
     case rel=>
      go_light
      exact⟨t+1,by omega,by go_num,B9.out,O9.out⟩
  .have:t=bs.length:=by{omega};subst this;have N:Hid ((bs.take bs.length).flatMap (kids zf of fr)=bs.flatMap (kids zf of fr)):=by{show _=_;rw[zFl]};go_wp2;go_ret;exact⟨u3,rfl,by rw[<-N.out];exact Z.out,K.out⟩
def iZ.rj {w base b v l}(h:iZ w b v l)(d:base<=b):iZ w base v l:=by obtain⟨i,f⟩:=h;refine⟨i,f.imp id ?_⟩;rintro⟨g,cap,c,e,a,r⟩;exact⟨g,cap,c,e,zAv d a,r⟩
structure gf (w:zW)(zf of:Nat->Option Nat)(fr:Option Nat->Bool)(PD:Nat->zP):Prop where
 cell:∀n b,PD n b->(∃i v hs,aX w b (zf b) (of b) i v [] hs)/\vO w fr (zf b)/\vO w fr (of b)
 zy:∀n b,PD n b->∀c∈kids zf of fr b,∃c',c=aA c'/\PD (n+1) c'
 deep:∀n b,PD n b->n<=256
def vO.below {w W fr p}(h:vO w fr p)(d:zb w W):vO W fr p:=by
 obtain h|⟨b,z,o,i,v,g,c,e,a,h⟩:=h
 .exact aG h
 .exact aH ⟨b,z,o,i,v,g,c,e,⟨by rw[d.block b a.lt];exact a.at'⟩,h⟩
def gf.below {w W:zW}{zf of:Nat->Option Nat}{fr:Option Nat->Bool}{P:Nat->zP}(h:gf w zf of fr P)(a:zb w W):gf W zf of fr P:=
 ⟨λn b e=>by obtain⟨⟨i,v,d,c⟩,g,f⟩:=h.cell n b e;exact⟨⟨i,v,d,⟨by rw[a.block b c.lt];exact c.at'⟩⟩,g.below a,f.below a⟩,h.zy,h.deep⟩
def Qf {zf of fr}{P:Nat->zP}{n}:∀(g:List Nat),(∀b∈g,∀c∈kids zf of fr b,∃c',c=aA c'/\P (n+1) c')->∃cs:List Nat,g.flatMap (kids zf of fr)=cs.map aA/\∀c∈cs,P (n+1) c:=by
 intro g h;have k:∀l:List (Option Nat),(∀c∈l,∃c',c=aA c'/\P (n+1) c')->∃cs:List Nat,l=cs.map aA/\∀c∈cs,P (n+1) c:=λl=>by
  induction l with
  |nil=>exactλ_=>⟨[],rfl,λc d=>by simp at d⟩
  |cons a l i=>intro h;obtain⟨p,e,m⟩:=h a (by simp);obtain⟨cs,o,f⟩:=i λc d=>h c (zBl _ d);refine⟨p::cs,by rw[e,o];rfl,λc d=> ?_⟩;obtain rfl|d:=zAf.1 d;{exact m};{exact f c d}
 refine k _ λc d=> ?_;obtain⟨b,j,d⟩:=List.mem_flatMap.1 d;exact h b j c d
def An {w zf of fr P top}(hL:gf w zf of fr P)(hF:vO w fr top)(hP:fr top=aE->∃b,top=aA b/\P 0 b):
  Calls zq 234 #[ptr top] w λe f=>∃(d:zY)(h:List Nat),e=aL d/\iZ f w.heap.size d (h.map aA)/\(∀b∈h,∃n,P n b)/\h.length<=32/\zb w f:=by
 have HL:=hid hL;have R:Hid (∀W,zb w W->Calls zq 241 #[aJ aB 0 0,aJ (aA ⟨W.heap.size,0,aB⟩) 1 1] (W.alloc (aI #[ptr top] 264)) λe f=>∃(d:zY)(h:List Nat),e=aL d/\iZ f w.heap.size d (h.map aA)/\(∀b∈h,P 0 b)/\h.length<=1/\zb w f):=λW hW=>by
  have o:zb w (W.alloc (aI #[ptr top] 264)):=hW.alloc hW.size _;have F:=bW.new W 264 #[ptr top];refine(OA (base:=w.heap.size) (ts:=[top]) (c:=1) (fr:=fr) (iZ.nil _ _) ?_ ?_ ?_ ?_ ?_ ?_).mono ?_
  .refineλ_=>⟨W.heap.size,0,rfl,by rw[size_alloc];omega,λj p t=> ?_⟩;rw[zAz,F.cell j];match j,t with
   |0,t=>cases t;rfl
  .intro p t;rw[zAn]at t;subst t;exact hF.below o
  .intro a g _ X;cases X
  .exact o.size
  .intro p _ b _ g X;cases X
  .simp
  .rintro e f ⟨d,rfl,O,h2⟩;have G:zb w f:=o.grown h2.XS o.size λk hk=>by{cases hk};cases s:fr top with
   |true=>obtain⟨b,rfl,l⟩:=hP s;refine⟨d,[b],rfl,?_,λc u=> ?_,by simp,G⟩;{simpa [s]using O};{rw[zAn]at u;subst u;exact l}
   |false=>refine⟨d,[],rfl,?_,λc u=>by simp at u,by simp,G⟩;simpa [s]using O
 clear hL hF hP;have S:∀z:zY,(z= .pointer aB\/∃b,z=aN (aA ⟨b,0,aB⟩))->(∀W,zb w W->Calls zq 241 #[aJ aB 0 0,aJ (aA ⟨W.heap.size,0,aB⟩) 1 1] (W.alloc (aI #[z] 264)) λe f=>∃(d:zY)(h:List Nat),e=aL d/\iZ f w.heap.size d (h.map aA)/\(∀b∈h,P 0 b)/\h.length<=1/\zb w f)->
   Calls zq 234 #[z] w λe f=>∃(d:zY)(h:List Nat),e=aL d/\iZ f w.heap.size d (h.map aA)/\(∀b∈h,∃n,P n b)/\h.length<=32/\zb w f:=by
  intro z r hF
  have R:=hid hF
  clear hF
  obtain rfl|⟨b,rfl⟩:=r
  all_goals
   go_enter (Qz.fn func234),ntmps234
   go_wp2_with fail
   refine(R.out w (zGn _ _)).mono ?_
   rintro e w1 ⟨v1,b1,rfl,o1,p1,l1,J⟩
   have O1:=hid o1
   have P1:=hid p1
   have B1:=hid J
   clear o1 p1 J R
   go_wp2_with fail
   go_loopg [3,4] 300 (λq x y wr=>∃(n:Nat)(lv ms:List Nat),n+q=300/\zb w wr/\iZ wr w.heap.size x (lv.map aA)/\iZ wr w.heap.size y (ms.map aA)/\(∀b∈lv,P n b)/\(∀b∈ms,∃m,P m b)/\lv.length<=ms.length/\ms.length<=32)
   case atStart=>exact⟨0,b1,b1,by omega,B1.out,O1.out,O1.out,P1.out,λb l=>⟨0,P1.out b l⟩,zAa _,by omega⟩
   case round=>
    clear O1 P1 B1 l1
    obtain⟨n,lv,ms,hn,c1,c2,c3,c4,c5,c6,c7⟩:=hrel
    have C:=hid c1
    have C2:=hid c2
    have N:=hid c3
    have C4:=hid c4
    have C5:=hid c5
    obtain⟨q3,k3,e3,h31,I,h33⟩:=C2.out.QF
    obtain⟨q4,k4,e4,h41,h42,h43⟩:=N.out.QF
    rw[zDa]at e3 h31 e4 h41
    subst e3
    subst e4
    have M:=hid I
    clear c1 c2 c3 c4 c5 I h33 h42 h43
    by_cases V:0<lv.length/\ms.length<16
    .have B:(0:Int)<(lv.length:Int):=by{omega};have U:(ms.length:Int)<16:=by omega
     have H:Hid (gf wr zf of fr P):=HL.out.below C.out;have L:Hid (Calls zq 242 #[aJ q3 lv.length k3] wr λe f=>∃d cs,e=aL d/\iZ f w.heap.size d (List.map aA cs)/\(∀b∈cs,P (n+1) b)/\cs.length<=30/\zb wr f):=by refine(Jz (bs:=lv) (zf:=zf) (of:=of) (fr:=fr) M.out (λb l=> ?_) (by omega)).mono ?_;{obtain⟨⟨i,v,hs,u⟩,O,h2⟩:=H.out.cell n b (C4.out b l);exact⟨⟨i,v,[],hs,u⟩,O,h2⟩};{rintro e w2 ⟨v2,rfl,A,K⟩;obtain⟨cs,ecs,Y⟩:=Qf lv λb l=>H.out.zy n b (C4.out b l);have E:=JL zf of fr lv;rw[ecs]at A E;rw[zDa]at E;exact⟨v2,cs,rfl,A.rj C.out.size,Y,by omega,K⟩}
     go_wp2_with fail;refine L.out.mono ?_;rintro e w2 ⟨v2,cs,rfl,A,p2,l2,K⟩;have Q:=hid A;have O3:Hid (iZ w2 w.heap.size (aJ q4 ms.length k4) (ms.map aA)):=N.out.below K (zAa _);have P2:=hid p2;have B2:Hid (zb w w2):=C.out.trans (K.mono C.out.size);have T:n<=256:=by obtain⟨b,l⟩:∃b,b∈lv:=List.exists_mem_of_length_pos V.1;exact HL.out.deep n b (C4.out b l)
     obtain⟨q5,k5,e5,h51,h52,Z⟩:=Q.out.QF;rw[zDa]at e5;subst e5;clear A p2 K L H C C2 N C4 M h51 h52 Z;by_cases hgt:ms.length<cs.length
     .have D:(ms.length:Int)<(cs.length:Int):=by{omega};go_wp2_with fail;go_roundg (300-(n+1));case measure=>omega
      case rel=>
       go_light
       exact⟨n+1,cs,cs,by omega,B2.out,Q.out,Q.out,P2.out,λb l=>⟨n+1,P2.out b l⟩,zAa _,by omega⟩
     .have D:¬(ms.length:Int)<(cs.length:Int):=by{omega};go_wp2_with fail;go_roundg (300-(n+1));case measure=>omega
      case rel=>
       go_light
       exact⟨n+1,cs,ms,by omega,B2.out,Q.out,O3.out,P2.out,C5.out,by omega,by omega⟩
    .by_cases h0:0<lv.length
     .have B:(0:Int)<(lv.length:Int):=by{omega};have U:¬(ms.length:Int)<16:=by{omega};go_wp2;go_ret;exact⟨_,rfl,ms,N.out,C5.out,by omega,C.out⟩
     .have B:¬(0:Int)<(lv.length:Int):=by{omega};go_wp2;go_ret;exact⟨_,rfl,ms,N.out,C5.out,by omega,C.out⟩
 have r:ptr top= .pointer aB\/∃b,ptr top=aN (aA ⟨b,0,aB⟩):=by
  cases top with
  |none=>exact aG rfl
  |some b=>exact aH ⟨b,rfl⟩
 exact S _ r R.out
inductive Good (w:zW):zP
 |mk {b:Nat} {z o:Option Nat} {i v g:zB} {hs:Int} (h:aX w b z o i v g hs) (hz:∀c,z=aA c->Good w c) (ho:∀c,o=aA c->Good w c):Good w b
def Good.cell {w b}(h:Good w b):∃z o i v g hs,aX w b z o i v g hs:=by cases h with|mk h _ _=>exact⟨_,_,_,_,_,_,h⟩
def Good.down {w b z o i v g hs}(h:Good w b)(j:aX w b z o i v g hs)(c)(e:z=aA c\/o=aA c):Good w c:=by
 cases h with
 |mk h a f=>obtain⟨rfl,rfl,_⟩:=gQ h j;exact e.elim (a c) (f c)
section
variable {k:Nat}{w w':zW}{p:Option Nat}{us:List bZ}{d lo hi:Nat}{rows:List (Nat×ByteArray)}
def eU.QV (h:eU k w p us d):∀b,p=aA b->Good w b:=by
 induction h with
 |nil=>intro b e;cases e
 |leaf h=>intro b e;cases e;exact .mk h (λc e=>by cases e) (λc e=>by cases e)
 |node _ _ h _ _ f a=>intro b e;cases e;exact .mk h f a
def cY.QV (h:cY k w p us d lo hi rows):(∀b,p=aA b->Good w b)/\∀x∈rows,Good w x.1:=by
 induction h with
 |done h=>exact⟨h.QV,λx a=>by simp at a⟩
 |leaf _ _ h=>have l:=Good.mk h (λc e=>by cases e) (λc e=>by cases e);refine⟨λb e=>by cases e;exact l,λx a=> ?_⟩;rw[zAn]at a;subst a;exact l
 |node _ _ h _ _ _ j f=>
  have l:=Good.mk h j.1 f.1;refine⟨λb e=>by cases e;exact l,λx a=> ?_⟩;obtain a|a:=zAh.1 a
  .obtain a|a:=zAh.1 a
   .exact j.2 x a
   .exact f.2 x a
  .rw[zAn]at a;subst a;exact l
def eU.stay {G:zP}(a:∀b z o i v g hs,G b->aX w b z o i v g hs->∀c,z=aA c\/o=aA c->G c)(r:∀b z o i v g hs,G b->aX w b z o i v g hs->∃f,aX w' b z o i v g f)(h:eU k w p us d)(q:∀b,p=aA b->G b):eU k w' p us d:=by
 induction h with
 |nil d=>exact .nil d
 |leaf h=>obtain⟨f,n⟩:=r _ _ _ _ _ _ _ (q _ rfl) h;exact .leaf n
 |node t s h u x l j=>have m:=q _ rfl;obtain⟨f,n⟩:=r _ _ _ _ _ _ _ m h;exact .node t s n (l λc e=>a _ _ _ _ _ _ _ m h c (aG e)) (j λc e=>a _ _ _ _ _ _ _ m h c (aH e))
def cY.stay {G:zP}(a:∀b z o i v g hs,G b->aX w b z o i v g hs->∀c,z=aA c\/o=aA c->G c)(q:∀b z o i v g hs,G b->aX w b z o i v g hs->∃f,aX w' b z o i v g f)(h:cY k w p us d lo hi rows)(m:∀b,p=aA b->G b):cY k w' p us d lo hi rows:=by
 induction h with
 |done h hl=>exact .done (h.stay a q m) hl
 |leaf k1 k2 h=>obtain⟨f,r⟩:=q _ _ _ _ _ _ _ (m _ rfl) h;exact .leaf k1 k2 r
 |node t s h u x hb l j=>have n:=m _ rfl;obtain⟨f,r⟩:=q _ _ _ _ _ _ _ n h;exact .node t s r (l λc e=>a _ _ _ _ _ _ _ n h c (aG e)) (j λc e=>a _ _ _ _ _ _ _ n h c (aH e)) hb
def cY.Wp {G:zP}(f:∀b z o i v g hs,G b->aX w b z o i v g hs->∀c,z=aA c\/o=aA c->G c)(h:cY k w p us d lo hi rows)(n:∀b,p=aA b->G b):∀x∈rows,G x.1:=by
 induction h with
 |done=>intro x a;simp at a
 |leaf=>intro x a;rw[zAn]at a;subst a;exact n _ rfl
 |node t s h q r hb l j=>
  have m:=n _ rfl;intro x a;obtain a|a:=zAh.1 a
  .obtain a|a:=zAh.1 a
   .exact l (λc e=>f _ _ _ _ _ _ _ m h c (aG e)) x a
   .exact j (λc e=>f _ _ _ _ _ _ _ m h c (aH e)) x a
  .rw[zAn]at a;subst a;exact m
end
def rh (w:zW)(b:Nat):Option Nat:=match w.cell? ⟨b,0,aB⟩with|some (aN (aA a))=>aA a.block|_=>aB
def sy (w:zW)(b:Nat):Option Nat:=match w.cell? ⟨b,1,aB⟩with|some (aN (aA a))=>aA a.block|_=>aB
def EN (w:zW):Option Nat->Bool
 |none=>aF
 |some b=>match w.cell? ⟨b,4,aB⟩with|some (aK s)=>s.data.toList.isEmpty|_=>aF
section
variable {k:Nat}{w w':zW}{b:Nat}{z o:Option Nat}{i v g:zB}{hs:Int}
def aX.zf (h:aX w b z o i v g hs):rh w b=z:=by unfold rh;rw[h.c0];cases z<;>rfl
def aX.of (h:aX w b z o i v g hs):sy w b=o:=by unfold sy;rw[h.c1];cases o<;>rfl
def aX.fr (h:aX w b z o i v g hs):EN w (aA b)=g.isEmpty:=by show(match w.cell? ⟨b,4,aB⟩with|some (aK s)=>s.data.toList.isEmpty|_=>aF)=_;rw[h.c4]
def Good.cq (h:∀c,z=aA c->Good w c):vO w (EN w) z:=by
 cases z with
 |none=>exact aG ⟨rfl,rfl⟩
 |some c=>obtain⟨z,o,i,v,g,hs,a⟩:=(h c rfl).cell;exact aH ⟨c,z,o,i,v,g,hs,rfl,a,a.fr⟩
structure qU (k:Nat)(w:zW)(G:zP)(us:List bZ)(all:List (Nat×ByteArray))(n b:Nat):Prop where
 deep:n<=256
 Wp:G b
 new:∃z o i v hs,aX w b z o i v [] hs
 tree:∃zl lo hi rows,cY k w (aA b) zl n lo hi rows/\(∀x∈rows,x∈all)/\rows.length<=all.length/\∀u∈zl,u∈us
def av {G}(f:∀b z o i v g hs,G b->aX w b z o i v g hs->∀c,z=aA c\/o=aA c->G c)(k1:1<=k)(k2:k<=32)(us)(all):gf w (rh w) (sy w) (EN w) (qU k w G us all):=by
 refine⟨λn b h=> ?_,λn b h c l=> ?_,λn b h=>h.deep⟩
 .obtain⟨z,o,i,v,hs,l⟩:=h.new;obtain⟨s,lo,hi,rows,F,_⟩:=h.tree;have J:=F.QV.1 b rfl;rw[l.zf,l.of];exact⟨⟨i,v,hs,l⟩,Good.cq λc e=>J.down l c (aG e),Good.cq λc e=>J.down l c (aH e)⟩
 .have L:=h;obtain⟨z,o,i,v,hs,a⟩:=h.new;obtain⟨s,lo,hi,rows,F,H,I,E⟩:=h.tree;unfold kids at l;rw[a.zf,a.of]at l;obtain⟨D,r⟩:=zAx.1 l;have t:∀(c:Option Nat)(j:List bZ)(m q:Nat)(r2:List (Nat×ByteArray)),(∀c',c=aA c'->G c')->EN w c=aE->n<256->cY k w c j (n+1) m q r2->(∀x∈r2,x∈rows)->r2.length<=rows.length->(∀u∈j,u∈s)->∃c',c=aA c'/\qU k w G us all (n+1) c':=λc j m q r2 P r U B S R Q=>by
   cases c with
   |none=>cases r
   |some c=>obtain⟨z2,T,i2,v2,V,N,C⟩:=(B.QV.1 c rfl).cell;rw[C.fr]at r;have e:=List.isEmpty_iff.1 r;subst e;exact⟨c,rfl,by omega,P c rfl,⟨_,_,_,_,_,C⟩,j,m,q,r2,B,λx y=>H x (S x y),by omega,λu A=>E u (Q u A)⟩
  cases F with
  |done h hl=>
   exfalso;cases h with
   |leaf h=>exact sE k1 k2 (gQ h a).2.2.2.2.1
   |node _ _ h=>exact sE k1 k2 (gQ h a).2.2.2.2.1
  |leaf _ _ h=>obtain⟨rfl,rfl,_⟩:=gQ h a;simp only[zAf,zAr,zCb,or_self]at D;subst D;cases r
  |node R K h M O hb=>obtain⟨rfl,rfl,_⟩:=gQ h a;simp only[zAf,zAr,zCb]at D;obtain rfl|rfl:=D;{exact t _ _ _ _ _ (λc' e=>f _ _ _ _ _ _ _ L.Wp a c' (aG e)) r K M (λx y=>zAh.2 (aG (zAh.2 (aG y)))) (by rw[zAg,zAg];omega) (λu A=>(zAx.1 A).1)};{exact t _ _ _ _ _ (λc' e=>f _ _ _ _ _ _ _ L.Wp a c' (aH e)) r K O (λx y=>zAh.2 (aG (zAh.2 (aH y)))) (by rw[zAg,zAg];omega) (λu A=>(zAx.1 A).1)}
def Pf {G p us lo hi all}(h:cY k w p us 0 lo hi all)(j:∀b,p=aA b->G b):vO w (EN w) p/\(EN w p=aE->∃b,p=aA b/\qU k w G us all 0 b):=by
 refine⟨Good.cq h.QV.1,λc=> ?_⟩;cases p with
 |none=>cases c
 |some b=>obtain⟨z2,l,i2,v2,m,f,a⟩:=(h.QV.1 b rfl).cell;rw[a.fr]at c;have e:=List.isEmpty_iff.1 c;subst e;exact⟨b,rfl,by omega,j b rfl,⟨_,_,_,_,_,a⟩,us,lo,hi,all,h,λ_ h=>h,zAa _,λ_ h=>h⟩
end
structure sP (k t:Nat)(D:zP)(w:zW):Prop where
 k1:1<=k
 k2:k<=32
 plain:Plain zq Qw.Al D w
 box:∀b,D b->¬YN w.heap[b]?
 top:D t
 CW:pC w t k
 iP:fJ w
 thaw:∀b z o i v g hs,D b->aX w b z o i v g hs->eE w b
def JI:(0:Nat)<=zq.globals.size/\(2:Nat)<=zq.globals.size:=by have:zq.globals.size=Tryz.prog.globals.size:=rfl;rw[this];exact⟨by decide+kernel,by decide+kernel⟩
section
variable {k t:Nat}{D:zP}{w W:zW}
def sP.iH (h:sP k t D w):D 0/\D 2:=⟨(h.plain.ok.iH 0 JI.1).2,(h.plain.ok.iH 2 JI.2).2⟩
def tD (g:Plain zq Qw.Al D w)(f:uN D w W){b}(a:D b):b<W.heap.size/\∀i,W.cell? ⟨b,i,aB⟩=w.cell? ⟨b,i,aB⟩:=by
 have bX:=oP g a;have e:=zAk bX;obtain h|⟨c,ty,fr,l,j,d⟩:=f b a _ e
 .refine⟨(zAb.1 h).1,λi=> ?_⟩;simp only[World.cell?];rw[h,e]
 .refine⟨(zAb.1 d).1,λi=> ?_⟩;rw[j]at e;rw[aZ d,aZ e]
def Gx (l:Plain zq Qw.Al D w)(a:uN D w W){b}(d:D b){z o i v g hs}(h:aX w b z o i v g hs):aX W b z o i v g hs:=by
 obtain⟨fr,h⟩:=h.at';obtain h|⟨c,ty,fr,j,f,e⟩:=a b d _ h
 .exact⟨_,h⟩
 .cases f;exact⟨_,e⟩
def sP.rv (h:sP k t D w)(b:uN D w W):pC W t k:=by obtain⟨c,a⟩:=tD h.plain b h.top;exact⟨c,(a 0).trans h.CW.wid,(a 2).trans h.CW.emp⟩
def sP.ry (h:sP k t D w)(a:uN D w W):fJ W:=by
 obtain⟨f,a2⟩:=tD h.plain a h.iH.1;obtain⟨e,d⟩:=tD h.plain a h.iH.2;refine⟨⟨e,λj c=> ?_⟩,f,λj v b=> ?_⟩
 .rw[d j];exact h.iP.nL.2 j c
 .rw[a2];exact h.iP.jY j v b
def sP.down (h:sP k t D w)(b)(z o)(i v g)(hs)(n:D b)(f:aX w b z o i v g hs)(c)(e:z=aA c\/o=aA c):D c:=by
 obtain⟨fr,f⟩:=f.at';have a:∀{x:Option Nat},bE Qw.Al (cL D) (ptr x) (ptr x)->x=aA c->D c:=λ{x} l e=>by
  subst e;cases l with
  |pointer m=>cases m with|some p=>exact p.1.2
 obtain⟨cs,ty,q,d,j,_⟩|⟨_,r,d,j⟩:=h.plain.blk b n
 .rw[f]at d;cases d;obtain e|e:=e
  .exact a (j.at' 0 _ _ rfl rfl) e
  .exact a (j.at' 1 _ _ rfl rfl) e
 .rw[f]at d;cases d;exact absurd rfl (j.1 _ _ _)
def sP.sm (h:sP k t D w)(l:uN D w W){p:Option Nat}{us:List bZ}{d lo hi:Nat}{rows:List (Nat×ByteArray)}(c:cY k w p us d lo hi rows)(e:∀b,p=aA b->D b):cY k W p us d lo hi rows:=
 c.stay h.down (λb z o i v g a f j=>⟨a,Gx h.plain l f j⟩) e
def sP.below (h:sP k t D w){B}(e:Below B w W)(l:w.heap.size<=B):sP k t D W:=by have d:∀b,D b->W.heap[b]? =w.heap[b]? :=λb j=>e.block b (zAc (oP h.plain j) l);refine⟨h.k1,h.k2,⟨h.plain.ok,zAc h.plain.low e.size,λb a=>by rw[d b a];exact h.plain.blk b a⟩,λb a=>by rw[d b a];exact h.box b a,h.top,h.CW.below e l,h.iP.below e l,λb z o i v g f a m=> ?_⟩;obtain⟨c,n⟩:=h.thaw b z o i v g f a ⟨by rw[<-d b a];exact m.at'⟩;exact⟨c,by rw[d b a];exact n⟩
def sP.fork (h:sP k t D w){us all}(V:∀u∈us,u.idx.length=32/\u.val.length<=100)(T:all.length<=1000000){bs:List Nat}(N:∀b∈bs,∃n,qU k w D us all n b)(R:bs.length<=32){q}(X:qT w q (bs.map aA))(J:∀a,q=aA a->¬YN w.heap[a.block]?):
  ∃bp o rows,Fork bs.length q bp o t D (λi=>(bs[i]?).map λb=>⟨b,0,aB⟩) rows w/\∀i,i<bs.length->∃b d n lo hi,bs[i]? =aA b/\cY k w (aA b) d n lo hi (rows i)/\(∀x∈rows i,x∈all)/\∃z o i v G,aX w b z o i v [] G:=by
 have M:∀i,∃r:List (Nat×ByteArray),i<bs.length->∃b d n lo hi,bs[i]? =aA b/\cY k w (aA b) d n lo hi r/\(∀x∈r,x∈all)/\r.length<=all.length/\(∀u∈d,u∈us)/\D b/\∃z o i v G,aX w b z o i v [] G:=λi=>by by_cases hi:i<bs.length;{obtain⟨n,K⟩:=N _ (zCt hi);obtain⟨d,lo,l,r,B,A,Z,Y⟩:=K.tree;exact⟨r,λ_=>⟨_,d,n,lo,l,zAe hi,B,A,Z,Y,K.Wp,K.new⟩⟩};{exact⟨[],λx=>absurd x hi⟩}
 obtain⟨rows,f⟩:=Classical.skolem.1 M;obtain⟨bp,o,m⟩:∃bp o,0<bs.length->q=aA ⟨bp,o,aB⟩/\bp<w.heap.size/\∀j p,(bs.map aA)[j]? =aA p->w.cell? ⟨bp,o+j,aB⟩=aA (ptr p):=by by_cases y:0<bs.length;{obtain⟨g,o,e,B,A⟩:=X (by rw[zDa];exact y);exact⟨g,o,λ_=>⟨e,B,A⟩⟩};{exact⟨0,0,λx=>absurd x y⟩}
 refine⟨bp,o,rows,⟨by omega,λy=>(m y).1,λy=>⟨(m y).2.1,J _ (m y).1⟩,λi hi=> ?_,h.plain,h.box,h.top,λi hi a U=> ?_,λi hi=> ?_,λi hi x Q=> ?_,λi hi W O=> ?_⟩,λi hi=> ?_⟩
 .obtain⟨b,d,n,lo,l,e,_⟩:=f i hi;rw[(m (by omega)).2.2 i (aA b) (by rw[zDr,e];rfl),e];rfl
 .obtain⟨b,d,n,lo,l,e,s,_,_,_,F,_⟩:=f i hi;rw[e]at U;cases U;exact F
 .obtain⟨b,d,n,lo,l,e,s,_,hl,_⟩:=f i hi;omega
 .obtain⟨b,d,n,lo,l,e,s,_,_,_,F,_⟩:=f i hi;have B:=s.Wp h.down (λb' P=>by cases P;exact F) x Q;obtain⟨z,o,i,v,g,G,E⟩:=(s.QV.2 x Q).cell;obtain⟨c,A⟩:=h.thaw _ _ _ _ _ _ _ B E;refine⟨B,c,A,?_⟩;obtain⟨fr,S⟩:=E.at';rw[A]at S;cases S;rfl
 .obtain⟨b,d,n,lo,l,e,s,_,hl,H,F,_⟩:=f i hi;have:=SL h.k1 h.k2 (h.rv O) (h.ry O) (h.sm O s λb' P=>by cases P;exact F) (λu I=>V u (H u I)) (by omega);rw[e];exact this
 .obtain⟨b,d,n,lo,l,e,s,L,_,_,_,C⟩:=f i hi;exact⟨b,d,n,lo,l,e,s,L,C⟩
end
section
variable {k:Nat}{w w':zW}{p:Option Nat}{us:List bZ}{d lo hi:Nat}{rows L:List (Nat×ByteArray)}
def MX {b z o i v g hs}(h:aX w b z o i v g hs)(s):aX (pH w (b,s)) b z o i v s.data.toList hs:=by obtain⟨fr,h⟩:=h.at';refine⟨fr,?_⟩;have:=eN h 4 (aK s);show(w.setCell ⟨b,4,aB⟩ (aK s)).heap[b]? =_;rw[this];rfl
def yI {b z o i v g hs}(h:aX w b z o i v g hs){x}(a:b≠x.1):aX (pH w x) b z o i v g hs:=⟨by rw[rR a];exact h.at'⟩
def qJ {b:Nat}{z o:Option Nat}{i v:zB}{hs:Int}{s:ByteArray}:∀(L:List (Nat×ByteArray)){w:zW}{g:zB},(∀c,(b,c)∈L->c=s)->(∃c,(b,c)∈L)\/g=s.data.toList->aX w b z o i v g hs->aX (Go.Ga.dC L w) b z o i v s.data.toList hs
 |[],w,g,_,h,j=>by obtain⟨_,h⟩|h:=h;{simp at h};{rw[<-h];exact j}
 |x::L,w,g,a,h,j=>by
  rw[UK];by_cases e:b=x.1
  .have l:x.2=s:=a x.2 (by rw[e];simp);have m:aX (pH w x) b z o i v s.data.toList hs:=by
    have:=MX j x.2;rw[l]at this;have ex:(b,s)=x:=by{rw[e,<-l]};rw[ex]at this;exact this
   exact qJ L (λc f=>a c (zBl _ f)) (aH rfl) m
  .refine qJ L (λc f=>a c (zBl _ f)) ?_ (yI j e);obtain⟨c,h⟩|h:=h
   .obtain h|h:=zAf.1 h
    .exact absurd (by rw[<-h]) e
    .exact aG ⟨c,h⟩
   .exact aH h
def cY.root (f:1<=k)(c:k<=32)(h:cY k w p us d lo hi rows){b}(a:p=aA b){z o i v hs}(e:aX w b z o i v [] hs):∃s,(b,s)∈rows:=by
 cases h with
 |done h=>
  exfalso;cases h with
  |nil=>cases a
  |leaf h=>cases a;exact sE f c (gQ h e).2.2.2.2.1
  |node _ _ h=>cases a;exact sE f c (gQ h e).2.2.2.2.1
 |leaf=>cases a;exact⟨_,by simp;rfl⟩
 |node=>cases a;exact⟨_,zAh.2 (aH (by simp;rfl))⟩
def cY.closed (B:1<=k)(A:k<=32)(h:cY k w p us d lo hi rows):∀b s z o i v m,(b,s)∈rows->aX w b z o i v [] m->∀c,z=aA c\/o=aA c->(∃z o i v m,aX w c z o i v [] m)->∃f,(c,f)∈rows:=by
 induction h with
 |done=>intro b s z o i v m r;simp at r
 |leaf _ _ h=>intro b s z o i v m r q c e _;rw[zAn]at r;cases r;obtain⟨rfl,rfl,_⟩:=gQ h q;obtain e|e:=e<;>cases e
 |node I H h D F r u t=>
  intro C s x y i v l a q c e g;obtain a|a:=zAh.1 a
  .obtain a|a:=zAh.1 a
   .obtain⟨f,j⟩:=u C s x y i v l a q c e g;exact⟨f,zAh.2 (aG (zAh.2 (aG j)))⟩
   .obtain⟨f,j⟩:=t C s x y i v l a q c e g;exact⟨f,zAh.2 (aG (zAh.2 (aH j)))⟩
  .rw[zAn]at a;cases a;obtain⟨rfl,rfl,_⟩:=gQ h q;obtain⟨z2,G,i2,v2,E,n⟩:=g;obtain e|e:=e
   .obtain⟨f,j⟩:=D.root B A e n;exact⟨f,zAh.2 (aG (zAh.2 (aG j)))⟩
   .obtain⟨f,j⟩:=F.root B A e n;exact⟨f,zAh.2 (aG (zAh.2 (aH j)))⟩
def Jo {all:List (Nat×ByteArray)}(h:(all.map (·.1)).Nodup){b s s'}(e:(b,s)∈all)(c:(b,s')∈all):s=s':=by
 induction all with
 |nil=>simp at e
 |cons a l i=>
  rw[zEa,List.nodup_cons]at h;obtain g|e:=zAf.1 e
  .obtain f|c:=zAf.1 c
   .rw[<-g]at f;cases f;rfl
   .exact absurd (zCh.2 ⟨_,c,by rw[<-g]⟩) h.1
  .obtain f|c:=zAf.1 c
   .exact absurd (zCh.2 ⟨_,e,by rw[<-f]⟩) h.1
   .exact i h.2 e c
structure qv (w:zW)(all L:List (Nat×ByteArray)):Prop where
 sub:∀x∈L,x∈all
 down:∀b s z o i v hs,(b,s)∈L->aX w b z o i v [] hs->∀c,z=aA c\/o=aA c->(∃z o i v hs,aX w c z o i v [] hs)->∃s',(c,s')∈L
def cY.wrote (D:1<=k)(C:k<=32)(h:cY k w p us d lo hi rows)(t:qv w rows L)(y:eQ L w w'):
  (∃cU,cY k w' p us d lo hi cU/\(∀x∈cU,x∈rows)/\cU.length<=rows.length)/\((∀b,p=aA b->(∃z o i v a,aX w b z o i v [] a)->∃s,(b,s)∈L)->eU k w' p us d):=by
 have u:=h.each;obtain⟨B,A⟩:=h.part (S:=λb=>∃s,(b,s)∈L) D C (λb ⟨s,a⟩=>(u.1 _ (t.sub _ a)).2.2) (λb z o i v a ⟨s,l⟩ j c e r=>t.down b s z o i v a l j c e r) (λb s ⟨s0,l⟩ q z o i v a j=>by
   have f:=qJ L (λE n=>(Jo u.2 (t.sub _ n) q)) (aG ⟨s0,l⟩) j;obtain⟨fr,f⟩:=f.at';exact⟨a,fr,by rw[y.heap b j.lt];exact f⟩) (λb l z o i v g a j=>⟨a,⟨by
   rw[show w'.heap[b]? =w.heap[b]? from(y.heap b j.lt).trans (iG _ λx m e=>l ⟨x.2,by rw[<-e];exact m⟩)];exact j.at'⟩⟩) (λ_ h=>h)
 refine⟨?_,A⟩;obtain⟨cU,f1,f2,f3⟩:=B;exact⟨cU,f1,λx m=>(f2 x m).1,f3⟩
def ax (D:1<=k)(y:k<=32){all rs N}(h:∀i,i<N->∃b u n lo hi,cY k w (aA b) u n lo hi (rs i)/\∀x∈rs i,x∈all):qv w all (allRows rs N):=by
 have f:∀{n:Nat}{i:Nat}{x:Nat×ByteArray},i<n->x∈rs i->x∈allRows rs n:=λ{n}=>by
  induction n with
  |zero=>intro i x hi;omega
  |succ n q=>intro i x hi a;by_cases e:i=n;{subst e;exact zAh.2 (aH a)};{exact zAh.2 (aG (q (by omega) a))}
 refine⟨λx a=> ?_,λb s z o i v r B A c e g=> ?_⟩
 .obtain⟨i,hi,a⟩:=gT a;obtain⟨_,_,_,_,_,_,C⟩:=h i hi;exact C x a
 .obtain⟨j,l,a⟩:=gT B;obtain⟨_,_,_,_,_,t,_⟩:=h j l;obtain⟨m,E⟩:=t.closed D y b s z o i v r a A c e g;exact⟨m,f l E⟩
def Qa (m:1<=k)(g:k<=32)(h:cY k w p us d lo hi rows):qv w rows rows:=⟨λ_ h=>h,λb s z o i v f l j c e a=>h.closed m g b s z o i v f l j c e a⟩
end
def sW (k t:Nat)(D:zP)(us:List bZ)(c:List PanicEntry)(w:zW):Prop:=
 ∃(q:zO)(d:List Nat)(cp:Nat)(all:List (Nat×ByteArray)),c=told (full #[jI t,jV q d.length cp])/\d.length<=32/\d.length<=cp/\all.length<=1000000/\qT w q (d.map aA)/\(∀a,q=aA a->∃e,w.heap[a.block]? =aA (aI e 264 (0,0)))/\∀b∈d,∃n,qU k w D us all n b
def sW.mh {k t D us c w}(h:sW k t D us c w)(i:sP k t D w)(d:∀u∈us,u.idx.length=32/\u.val.length<=100):lP c w:=by
 obtain⟨q,v,cp,all,e,r,p,n,m,l,j⟩:=h;obtain⟨bp,o,rows,hF,_⟩:=i.fork d n j r m λa g ⟨x,b⟩=>by obtain⟨s,f⟩:=l a g;rw[f]at b;cases b
 exact⟨v.length,q,bp,o,cp,t,D,_,rows,e,p,hF⟩
structure MC (all:List (Nat×ByteArray))(w w':zW):Prop where
 os:w'.os=w.os
 tape:w'.tape=w.tape
 output:w'.output=w.output
 size:w.heap.size<=w'.heap.size
 block:∀b,b<w.heap.size->(∀x∈all,x.1≠b)->w'.heap[b]? =w.heap[b]?
 cell:∀b z o i v g hs,aX w b z o i v g hs->∃g',aX w' b z o i v g' hs
 thaw:∀b,eE w b->eE w' b
section
variable {k t:Nat}{D:zP}{w w1 w':zW}{all L:List (Nat×ByteArray)}
def Pb {b z o i v g hs}(h:aX w b z o i v g hs)(x:Nat×ByteArray):∃a,aX (pH w x) b z o i v a hs:=by
 by_cases e:b=x.1
 .refine⟨x.2.data.toList,?_⟩;have:=MX h x.2;rw[show(b,x.2)=x by rw[e]]at this;exact this
 .exact⟨g,yI h e⟩
def IH {b:Nat}{z o:Option Nat}{i v:zB}{hs:Int}:∀(L:List (Nat×ByteArray)){w:zW}{g:zB},aX w b z o i v g hs->∃a,aX (Go.Ga.dC L w) b z o i v a hs
 |[],_,g,h=>⟨g,h⟩
 |x::L,_,_,h=>by obtain⟨a,c⟩:=Pb h x;exact IH L c
def Ix {b}(h:eE w b)(x:Nat×ByteArray):eE (pH w x) b:=by
 obtain⟨c,h⟩:=h;by_cases e:b=x.1
 .subst e;exact⟨_,eN h 4 _⟩
 .exact⟨c,by rw[rR e];exact h⟩
def DM {b:Nat}:∀(L:List (Nat×ByteArray)){w:zW},eE w b->eE (Go.Ga.dC L w) b
 |[],_,h=>h
 |x::L,_,h=>DM L (Ix h x)
def eE.lt {b}(h:eE w b):b<w.heap.size:=by obtain⟨c,h⟩:=h;exact(zAb.1 h).1
def MC.of (h:eQ L w w')(l:∀x∈L,x∈all):MC all w w':=
 ⟨h.os,h.tape,h.output,h.size,λb a j=>(h.heap b a).trans (iG _ λx f=>j x (l x f)),λb z o i v g n e=>by
  obtain⟨m,fr,d⟩:=IH L e;exact⟨m,fr,by rw[h.heap b e.lt];exact d⟩,λb a=>by
  obtain⟨c,d⟩:=DM L a;exact⟨c,by rw[h.heap b a.lt];exact d⟩⟩
def MC.below {B:Nat}(a:Below B w w')(d:w.heap.size<=B):MC all w w':=
 ⟨a.os,a.tape,a.output,a.size,λb h _=>a.block b (zAc h d),λb z o i v g f e=>⟨g,⟨by rw[a.block b (zAc e.lt d)];exact e.at'⟩⟩,λb h=>by have hl:=h.lt;obtain⟨c,h⟩:=h;exact⟨c,by rw[a.block b (zAc hl d)];exact h⟩⟩
def MC.trans (h:MC all w w1)(a:MC all w1 w'):MC all w w':=
 ⟨a.os.trans h.os,a.tape.trans h.tape,a.output.trans h.output,zAv h.size a.size,λb c d=>(a.block b (zAc c h.size) d).trans (h.block b c d),λb z o i v g j e=>by obtain⟨l,f⟩:=h.cell _ _ _ _ _ _ _ e;exact a.cell _ _ _ _ _ _ _ f,λb c=>a.thaw b (h.thaw b c)⟩
def Zp (c:pC w t k){b z o i v g hs}(a:aX w b z o i v g hs):b≠t:=λe=>by subst e;have h:=c.wid;rw[a.c0]at h;cases z<;>cases h
def Nn (c:fJ w){b z o i v g hs}(a:aX w b z o i v g hs):b≠0/\b≠2:=by
 constructor
 .rintro rfl;have h:=c.jY 0 _ (rfl:H0.cells.toList[0]? =aA _);rw[a.c0]at h;cases z<;>cases h
 .rintro rfl;have h:=c.nL.2 0 (by omega);rw[a.c0]at h;cases z<;>cases h
def pC.Xe (h:pC w t k)(c:MC all w w')(a:∀x∈all,∃z o i v g hs,aX w x.1 z o i v g hs):pC w' t k:=by
 have f:w'.heap[t]? =w.heap[t]? :=c.block t h.lt λx d e=>by obtain⟨z,o,i,v,g,hs,b⟩:=a x d;exact Zp h b e
 have b:∀i,w'.cell? ⟨t,i,aB⟩=w.cell? ⟨t,i,aB⟩:=λi=>by simp only[World.cell?];rw[f]
 exact⟨zAc h.lt c.size,(b 0).trans h.wid,(b 2).trans h.emp⟩
def fJ.Xe (h:fJ w)(b:MC all w w')(a:∀x∈all,∃z o i v g hs,aX w x.1 z o i v g hs):fJ w':=by
 have n:w'.heap[0]? =w.heap[0]? :=b.block 0 h.lt λx c e=>by obtain⟨z,o,i,v,g,hs,d⟩:=a x c;exact(Nn h d).1 e
 have m:w'.heap[2]? =w.heap[2]? :=b.block 2 h.nL.1 λx c e=>by obtain⟨z,o,i,v,g,hs,d⟩:=a x c;exact(Nn h d).2 e
 refine⟨⟨zAc h.nL.1 b.size,λj l=> ?_⟩,zAc h.lt b.size,λj v f=> ?_⟩
 .rw[show w'.cell? ⟨2,j,aB⟩=w.cell? ⟨2,j,aB⟩ by simp only[World.cell?];rw[m]];exact h.nL.2 j l
 .rw[show w'.cell? ⟨0,0+j,aB⟩=w.cell? ⟨0,0+j,aB⟩ by simp only[World.cell?];rw[n]];exact h.jY j v f
def SM {top us lo hi}(N:sP k t D w)(hr:cY k w top us 0 lo hi all)(hp:∀b,top=aA b->D b)(hu:∀u∈us,u.idx.length=32/\u.val.length<=100)(M:all.length<=1000000):
  Calls zq 224 #[aN (aA ⟨t,0,aB⟩),ptr top] w λe w'=>(e=aL (.tuple #[])/\eU k w' top us 0/\MC all w w')\/∃c,e= .panicked c/\sW k t D us c w'/\zb w w':=by
 have j:=N.k1;have f:=N.k2;have HP:Hid (Calls zq 234 #[ptr top] w λe w1=>∃(q:zO)(cp:Nat)(s:List Nat),e=aL (aJ q s.length cp)/\s.length<=cp/\qT w1 q (s.map aA)/\(∀a,q=aA a->∃y,w1.heap[a.block]? =aA (aI y 264 (0,0)))/\(∀b∈s,∃n,qU k w1 D us all n b)/\s.length<=32/\zb w w1):=by obtain⟨f1,f2⟩:=Pf hr hp;refine(An (av N.down j f us all) f1 f2).mono ?_;rintro e w1 ⟨v',s,rfl,o1,p1,l1,O⟩;obtain⟨q,cp,rfl,S,g2,g3⟩:=o1.QF;rw[zDa]at S⊢;refine⟨q,cp,s,rfl,S,g2,λa I=>(g3 a I).2.2,λb W=> ?_,l1,O⟩;obtain⟨n,p⟩:=p1 b W;have m:∀b z o i v g d,aX w b z o i v g d->aX w1 b z o i v g d:=λb z o i v g d h=>⟨by rw[O.block b h.lt];exact h.at'⟩;obtain⟨B,C,F,r,t1,t2,t3,t4⟩:=p.tree;obtain⟨z,o,i,v,d,hn⟩:=p.new;exact⟨n,p.deep,p.Wp,⟨z,o,i,v,d,m _ _ _ _ _ _ _ hn⟩,B,C,F,r,t1.keep j f (λb z o i v g d h=>⟨d,m _ _ _ _ _ _ _ h⟩),t2,t3,t4⟩
 have HW:Hid (∀(w1:zW)(q:zO)(cp:Nat)(s:List Nat),s.length<=cp->qT w1 q (s.map aA)->(∀a,q=aA a->∃y,w1.heap[a.block]? =aA (aI y 264 (0,0)))->(∀b∈s,∃n,qU k w1 D us all n b)->s.length<=32->zb w w1->
   Calls zq 233 #[aN (aA ⟨t,0,aB⟩),aJ q s.length cp] w1 λe w2=>(e=aL (.tuple #[])/\MC all w w2/\∃cU,cY k w2 top us 0 lo hi cU/\(∀x∈cU,x∈all)/\cU.length<=all.length)\/∃c,e= .panicked c/\sW k t D us c w2/\zb w w2):=λw1 q cp s h1 h2 Z Y X O=>by
  have hD1:=N.below O (zAa _)
  have hr1:cY k w1 top us 0 lo hi all:=hr.keep j f λb z o i v g d h=>⟨d,⟨by rw[O.block b h.lt];exact h.at'⟩⟩
  obtain⟨bp,o,rows,hF,P⟩:=hD1.fork hu M Y X h2 λa I ⟨x,G⟩=>by obtain⟨y,h⟩:=Z a I;rw[h]at G;cases G
  refine(Jc hF h1).mono ?_
  rintro e w2 (⟨rfl,U⟩|⟨rfl,hm,Bz⟩)
  .left;have J:qv w1 all (allRows rows s.length):=ax j f λi hi=>by
    obtain⟨b,B,n,C,F,_,S,g2,_⟩:=P i hi;exact⟨b,B,n,C,F,S,g2⟩
   exact⟨rfl,(MC.below O (zAa _)).trans (.of U J.sub),(hr1.wrote j f J U).1⟩
  .right;refine⟨_,rfl,⟨q,s,cp,all,rfl,X,h1,M,?_,λa I=> ?_,λb W=> ?_⟩,O.trans (Bz.mono O.size)⟩
   .exact h2.kept hm.size λa I=>hm.old _ (by obtain⟨y,h⟩:=Z a I;exact(zAb.1 h).1)
   .obtain⟨y,h⟩:=Z a I;exact⟨y,by rw[hm.old _ (zAb.1 h).1];exact h⟩
   .obtain⟨n,p⟩:=Y b W;have m:∀b z o i v g d,aX w1 b z o i v g d->aX w2 b z o i v g d:=λb z o i v g d h=>⟨by rw[hm.old b h.lt];exact h.at'⟩;obtain⟨B,C,F,r,t1,t2,t3,t4⟩:=p.tree;obtain⟨z,o,i,v,d,hn⟩:=p.new;exact⟨n,p.deep,p.Wp,⟨z,o,i,v,d,m _ _ _ _ _ _ _ hn⟩,B,C,F,r,t1.keep j f (λb z o i v g d h=>⟨d,m _ _ _ _ _ _ _ h⟩),t2,t3,t4⟩
 have E:=hr.each.1;have A:∀x∈all,∃z o i v g d,aX w x.1 z o i v g d:=λx G=>by obtain⟨_,_,z,o,i,v,d,h⟩:=E x G;exact⟨z,o,i,v,[],d,h⟩
 have HK:Hid (∀(w2:zW)(cU:List (Nat×ByteArray)),MC all w w2->cY k w2 top us 0 lo hi cU->(∀x∈cU,x∈all)->cU.length<=all.length->
   Calls zq 236 #[aN (aA ⟨t,0,aB⟩),ptr top] w2 λe w3=>∃q l cp,e=aL (aJ q l cp)/\Calls zq 235 #[aJ q l cp] w3 λe' w4=>e'=aL (.tuple #[])/\eU k w4 top us 0/\MC all w w4):=λw2 cU K V H hlen=>by
  refine(SL j f (N.CW.Xe K A) (N.iP.Xe K A) V hu (by omega)).mono ?_
  rintro e w3 ⟨q,l,cp,rfl,S,g2,g3,b3⟩
  refine⟨q,l,cp,rfl,?_⟩
  have Q:cY k w3 top us 0 lo hi cU:=V.keep j f λb z o i v g d h=>⟨d,⟨by rw[b3.block b h.lt];exact h.at'⟩⟩
  refine(JU cU q l cp w3 g2 S (by omega) (λx G=> ?_) (λa I x G e=> ?_)).mono ?_
  .obtain⟨_,_,z,o,i,v,d,h⟩:=E x (H x G);have hDx:=hr.Wp N.down hp x (H x G);have ht:=N.thaw _ _ _ _ _ _ _ hDx h;have ht2:=(K.trans (MC.below b3 (zAa _))).thaw _ ht;obtain⟨c,Y⟩:=ht2;refine⟨c,Y,?_⟩;obtain⟨g',fr,X⟩:=(K.trans (MC.below b3 (zAa _))).cell _ _ _ _ _ _ _ h;rw[Y]at X;cases X;rfl
  .obtain⟨_,_,z,o,i,v,d,h⟩:=E x (H x G);have h6:=g3 a I;have h7:=h.lt;have h8:=K.size;omega
  .rintro e w4 ⟨rfl,T⟩;refine⟨rfl,(Q.wrote j f (Qa j f Q) T).2 λb W ⟨z,o,i,v,d,h⟩=>Q.root j f W h,(K.trans (MC.below b3 (zAa _))).trans (.of T H)⟩
 have htp:∃pp,pp=ptr top:=⟨_,rfl⟩;obtain⟨pp,R⟩:=htp;rw[<-R]at HP⊢;simp only[<-R]at HK;clear R;go_enter (Qz.fn func224),ntmps224;go_wp2_with fail;refine HP.out.mono ?_;rintro e w1 ⟨q,cp,s,rfl,a1,a2,a3,a4,a5,a6⟩;have HW1:=HW.out w1 q cp s a1 a2 a3 a4 a5 a6;have HW2:=hid HW1;go_wp2_with fail;refine HW2.out.mono ?_;rintro e w2 (⟨rfl,K,cU,c1,c2,c3⟩|⟨c,rfl,c1,c2⟩)
 .have HK2:=HK.out w2 cU K c1 c2 c3;have HK3:=hid HK2;go_wp2_with fail;refine HK3.out.mono ?_;rintro e w3 ⟨q3,l3,cp3,rfl,Z⟩;have H3:=hid Z;go_wp2_with fail;refine H3.out.mono ?_;rintro e w4 ⟨rfl,d1,d2⟩;have D1:=hid d1;have D2:=hid d2;go_wp2;go_end0;exact aG ⟨rfl,D1.out,D2.out⟩
 .exact⟨rfl,aH ⟨c,rfl,c1,c2⟩⟩
end
def Qz.ntmps219:Qz.f219.ntmps=37:=rfl
def dK (w:zW)(t:Nat)(x0 x1 x2 x3 x4:zY)(c:Int):Prop:=w.heap[t]? =aA (aI #[x0,x1,x2,x3,x4,aC aD c] 168 (0,0))
structure Hl (t:Nat)(w w':zW):Prop where
 os:w'.os=w.os
 tape:w'.tape=w.tape
 output:w'.output=w.output
 size:w.heap.size<=w'.heap.size
 block:∀b,b<w.heap.size->b≠t->(∀z o i v g hs,¬aX w b z o i v g hs)->w'.heap[b]? =w.heap[b]?
 cell:∀b z o i v g hs,aX w b z o i v g hs->∃hs',aX w' b z o i v g hs'
 thaw:∀b,eE w b->eE w' b
section
variable {w w1 w':zW}{t b:Nat}{x0 x1 x2 x3 x4:zY}{c:Int}{z o:Option Nat}{i v g:zB}{hs:Int}
def dK.lt (h:dK w t x0 x1 x2 x3 x4 c):t<w.heap.size:=(zAb.1 h).1
def dK.ne (h:dK w t x0 x1 x2 x3 x4 c)(a:aX w b z o i v g hs):b≠t:=λe=>by subst e;obtain⟨fr,a⟩:=a.at';unfold dK at h;rw[a]at h;cases h
def dK.below (h:dK w t x0 x1 x2 x3 x4 c){B}(a:Below B w w')(d:w.heap.size<=B):dK w' t x0 x1 x2 x3 x4 c:=(a.block t (zAc h.lt d)).trans h
def Hl.refl:Hl t w w:=⟨rfl,rfl,rfl,zAa _,λ_ _ _ _=>rfl,λ_ _ _ _ _ _ hs h=>⟨hs,h⟩,λ_ h=>h⟩
def Hl.trans (h:Hl t w w1)(a:Hl t w1 w'):Hl t w w':=
 ⟨a.os.trans h.os,a.tape.trans h.tape,a.output.trans h.output,zAv h.size a.size,λb f j k=>by
  have e:=h.block b f j k;exact(a.block b (zAc f h.size) j λz o i v g hs d=>k z o i v g hs ⟨by rw[<-e];exact d.at'⟩).trans e,λb z o i v g hs d=>by
  obtain⟨l,d⟩:=h.cell _ _ _ _ _ _ _ d;exact a.cell _ _ _ _ _ _ _ d,λb f=>a.thaw b (h.thaw b f)⟩
def Hl.below {B:Nat}(a:Below B w w')(d:w.heap.size<=B):Hl t w w':=
 ⟨a.os,a.tape,a.output,a.size,λb h _ _=>a.block b (zAc h d),λb z o i v g hs e=>⟨hs,⟨by rw[a.block b (zAc e.lt d)];exact e.at'⟩⟩,λb h=>by have hl:=h.lt;obtain⟨c,h⟩:=h;exact⟨c,by rw[a.block b (zAc hl d)];exact h⟩⟩
def Hl.hold (l:aX w b z o i v g hs)(m):Hl t w (w.setCell ⟨b,5,aB⟩ (aC aD m)):=by
 refine⟨rfl,rfl,rfl,by simp[World.setCell],λd _ _ k=>zGq _ _ _ _ λe=>k z o i v g hs ((show d=b from e)▸l),λd n q r p s f a=> ?_,λd j=> ?_⟩
 .by_cases e:d=b
  .subst e;obtain⟨fr,a⟩:=a.at';exact⟨m,fr,by rw[eN a 5];rfl⟩
  .exact⟨f,⟨by rw[zGq _ _ _ _ e];exact a.at'⟩⟩
 .obtain⟨cs,h⟩:=j;by_cases e:d=b
  .subst e;exact⟨_,eN h 5 _⟩
  .exact⟨cs,by rw[zGq _ _ _ _ e];exact h⟩
def Hl.count (h:dK w t x0 x1 x2 x3 x4 c)(m):Hl t w (w.setCell ⟨t,5,aB⟩ (aC aD m))/\dK (w.setCell ⟨t,5,aB⟩ (aC aD m)) t x0 x1 x2 x3 x4 m:=by
 refine⟨⟨rfl,rfl,rfl,by simp[World.setCell],λj _ l _=>zGq _ _ _ _ l,λj n q r p s d a=>⟨d,⟨by rw[zGq _ _ _ _ (h.ne a)];exact a.at'⟩⟩,λj f=> ?_⟩,?_⟩
 .obtain⟨cs,k⟩:=f;have e:j≠t:=λe=>by
   subst e;unfold dK at h;rw[k]at h;cases h
  exact⟨cs,by rw[zGq _ _ _ _ e];exact k⟩
 .unfold dK at h⊢;rw[eN h 5];rfl
def dK.hold (h:dK w t x0 x1 x2 x3 x4 c)(a:aX w b z o i v g hs)(m):dK (w.setCell ⟨b,5,aB⟩ (aC aD m)) t x0 x1 x2 x3 x4 c:=(zGq _ _ _ _ (h.ne a).symm).trans h
def dK.c5 (h:dK w t x0 x1 x2 x3 x4 c):w.cell? ⟨t,5,aB⟩=aA (aC aD c):=(aZ h 5).trans rfl
def dK.f5 (h:dK w t x0 x1 x2 x3 x4 c):w.frozen? ⟨t,5,aB⟩=aF:=dA h 5
def Lets (t:Nat)(w0:zW)(n:Nat)(p:Option Nat):Prop:=
 ∀W x0 x1 x2 x3 x4 c,Hl t w0 W->dK W t x0 x1 x2 x3 x4 c->-4611686018427387904<=c-n->c<=4611686018427387904->Calls zq 219 #[aN (aA ⟨t,0,aB⟩),ptr p] W λe w'=>e=aL (.tuple #[])/\Hl t W w'/\∃c',dK w' t x0 x1 x2 x3 x4 c'/\c-n<=c'/\c'<=c
def Ti (t:Nat)(w0:zW)(n:Nat)(p:Option Nat):Prop:=
 ∀W x0 x1 x2 x3 x4 c,Hl t w0 W->dK W t x0 x1 x2 x3 x4 c->-4611686018427387904<=c-n->c<=4611686018427387904->(Calls zq 219 #[aN (aA ⟨t,0,aB⟩),ptr p] W λe w'=>e=aL (.tuple #[])/\Hl t W w'/\∃c',dK w' t x0 x1 x2 x3 x4 c'/\c-n<=c'/\c'<=c)/\
  ∀u,CallsD zq 219 #[aN (aA ⟨t,0,aB⟩),ptr p] u W λe a w'=>a=u/\(e=aL (.tuple #[])/\Hl t W w'/\∃c',dK w' t x0 x1 x2 x3 x4 c'/\c-n<=c'/\c'<=c)
def Fw {args:zA}{w:zW}{R:Ending->zW->Prop}(h:Qz.RL.wp zq (bodyPost zq Qz.f219 R) {tmps:=args++Array.replicate (Qz.f219.ntmps-args.size) undef,defers:=[]} w):Calls zq 219 args w R/\∀u,CallsD zq 219 args u w λe a w'=>a=u/\R e w':=⟨calls_of_wp Qz.func219 rfl h,λu=>callsD_of_wp Qz.func219 rfl h⟩
def vF (w)(x):zb w (w.alloc (aI #[.bool x] 4)).drew:=((zGn _ w).alloc (zAa _) _).drew
def Bj (w0:zW):Ti t w0 0 aB:=by
 intro W x0 x1 x2 x3 x4 c _ h _ _;have H:Hid (∀x:Bool,Hl t W (W.alloc (aI #[.bool x] 4)).drew/\∃c',dK (W.alloc (aI #[.bool x] 4)).drew t x0 x1 x2 x3 x4 c'/\c-(0:Nat)<=c'/\c'<=c):=λx=>⟨Hl.below (vF W x) (zAa _),c,h.below (vF W x) (zAa _),by omega,by omega⟩;clear h;refine Fw ?_;simp only[Qz.ntmps219,zAq,zAi,zBb,Nat.reduceAdd,Nat.reduceSub,zEs,Array.replicate_zero,zEh,List.append_toArray,zCe,zCl];unfold Qz.RL tj pb ay oz Ue tf Ud te th ju jv js jr;simp only[f219,zCs];go_upto_region 91 with(fail)
 go_region;all_goals go_wp2
 all_goals((try simp only[Exit.inBlock,Exit.then]);refine zGy (Go.results_none rfl _ _ _) rfl ?_)
 all_goals exact⟨rfl,H.out _⟩
def Bi {w0:zW}{L no:Nat}(u:aX w0 b z o i v g hs)(s:eE w0 b)(T:Lets t w0 L z)(U:Lets t w0 no o):Ti t w0 (1+L+no) (aA b):=by
 intro W x0 x1 x2 x3 x4 c X V qj qi;have K:Hid (∀x:Bool,Hl t W (W.alloc (aI #[.bool x] 4)).drew/\dK (W.alloc (aI #[.bool x] 4)).drew t x0 x1 x2 x3 x4 c):=λx=>⟨Hl.below (vF W x) (zAa _),V.below (vF W x) (zAa _)⟩;have n:Hid (Hl t w0 W):=X;have J:Hid (aX w0 b z o i v g hs):=u;have HT:Hid (eE w0 b):=s;have HZ:Hid (Lets t w0 L z):=T;have HO:Hid (Lets t w0 no o):=U;clear V X u s T U;refine Fw ?_;simp only[Qz.ntmps219,zAq,zAi,zBb,Nat.reduceAdd,Nat.reduceSub,zEs,Array.replicate_zero,zEh,List.append_toArray,zCe,zCl];unfold Qz.RL tj pb ay oz Ue tf Ud te th ju jv js jr;simp only[f219,zCs];go_upto_region 91 with(fail)
 go_region
 .go_wp2;(try simp only[Exit.inBlock,Exit.then]);refine zGy (Go.results_none rfl _ _ _) rfl ?_;exact⟨rfl,(K.out _).1,c,(K.out _).2,by omega,by omega⟩
 .have M:=K.out aE;generalize(W.alloc (Obj.cells #[Value.bool aE] 4)).drew=I at*;clear K;obtain⟨d,B⟩:=M;obtain⟨a,l⟩:=(n.out.trans d).cell _ _ _ _ _ _ _ J.out;have E:=(n.out.trans d).thaw _ HT.out;have Y:=l.c5;have f5:=E.f 5;have m:Hid (dK I t x0 x1 x2 x3 x4 c):=B;have r:Hid (Hl t W I):=d;have H:Hid (aX I b z o i v g a):=l;clear d B l E;go_upto_region 3 with(fail)
  .refine zGy (Go.results_none rfl _ _ _) rfl ?_;exact⟨rfl,r.out.trans (Hl.hold H.out _),c,m.out.hold H.out _,by omega,by omega⟩
  .have j:=r.out.trans (Hl.hold H.out (wrap64 (a-1)));have h:=m.out.hold H.out (wrap64 (a-1));generalize(I.setCell ⟨b,5,aB⟩ (Value.int IntKind.i64 (wrap64 (a-1))))=Q at*;obtain⟨hs2,k⟩:=(n.out.trans j).cell _ _ _ _ _ _ _ J.out;have c5:=h.c5;have e5:=h.f5;have c0:=k.c0;have n0:=h.ne k;have hw:wrap64 (c-1)=c-1:=by{unfold wrap64;omega};obtain⟨D,A⟩:=Hl.count h (c-1);have q:Hid (Hl t W (Q.setCell ⟨t,5,aB⟩ (aC aD (c-1)))):=j.trans D;have S:Hid (dK (Q.setCell ⟨t,5,aB⟩ (aC aD (c-1))) t x0 x1 x2 x3 x4 (c-1)):=A;clear j h D A k Y f5 r H m;go_upto_region 4 with(fail)
   generalize(Q.setCell ⟨t,5,aB⟩ (Value.int IntKind.i64 (c-1)))=W3 at*;obtain⟨hs3,G⟩:=(n.out.trans q.out).cell _ _ _ _ _ _ _ J.out;have d0:=G.c0;clear G;go_wp2_with fail;refine(HZ.out W3 x0 x1 x2 x3 x4 (c-1) (n.out.trans q.out) S.out (by omega) (by omega)).mono ?_;rintro e w4 ⟨rfl,C,c4,y,l1,l2⟩;have p:Hid (Hl t W w4):=q.out.trans C;have R:Hid (dK w4 t x0 x1 x2 x3 x4 c4):=y;obtain⟨Z,F⟩:=(n.out.trans p.out).cell _ _ _ _ _ _ _ J.out;have d1:=F.c1;clear F C y;go_wp2_with fail;refine(HO.out w4 x0 x1 x2 x3 x4 c4 (n.out.trans p.out) R.out (by omega) (by omega)).mono ?_;rintro e w5 ⟨rfl,O,P,N,l3,l4⟩;go_wp2;go_end0;exact⟨rfl,p.out.trans O,P,N,by omega,by omega⟩
inductive EE (w:zW):Nat->Option Nat->Prop
 |nil:EE w 0 aB
 |mk {b nz no:Nat} {z o:Option Nat} {i v g:zB} {hs:Int} (h:aX w b z o i v g hs) (ht:eE w b) (hz:EE w nz z) (ho:EE w no o):EE w (1+nz+no) (aA b)
def NT {w0:zW}{n:Nat}{p:Option Nat}(h:EE w0 n p):Ti t w0 n p:=by
 induction h with
 |nil=>exact Bj _
 |mk h k _ _ j f=>exact Bi h k (λW x0 x1 x2 x3 x4 c a b d e=>(j W x0 x1 x2 x3 x4 c a b d e).1) λW x0 x1 x2 x3 x4 c a b d e=>(f W x0 x1 x2 x3 x4 c a b d e).1
end
def Dy {w w'}(h:Below w.drew.heap.size w.drew w'):zb w w':=⟨h.os,h.tape,h.output,h.size,h.block⟩
abbrev Up (u:bZ):zY:= .agg #[aK ⟨u.idx.toArray⟩,aK ⟨u.val.toArray⟩,.bool u.gone]
structure KM (w w':zW)(b:Nat)(z o:Option Nat)(i v:zB):Prop where
 lo:w.heap.size<=b
 cell:∃hs,aX w' b z o i v [] hs
 thaw:eE w' b
section
variable {w w1 w':zW}{t b:Nat}{x0 x1 x2 x3 x4:zY}{c:Int}{z o:Option Nat}{i v g:zB}{hs:Int}
def NJ (w:zW)(z o:Option Nat)(i v:zB)(h:w1.heap.size<=w.heap.size):KM w1 (w.alloc (aI (mZ z o i v [] 0) 272)) w.heap.size z o i v:=
 ⟨h,⟨0,⟨_,zGw w _⟩⟩,⟨_,zGw w _⟩⟩
def Kb (u)(U:u.idx.length<=1000)(T:u.val.length<=1000)(I:dK w t x0 x1 x2 x3 x4 c)(S: -4611686018427387904<=c)(R:c<=4611686018427387904):
  Calls zq 229 #[aN (aA ⟨t,0,aB⟩),Up u] w λe w'=>∃b,e=aL (ptr (aA b))/\KM w w' b aB aB u.idx u.val/\Hl t w w'/\dK w' t x0 x1 x2 x3 x4 (c+1)/\b<w'.heap.size:=by
 obtain⟨d,a,r⟩:=u;dsimp only at*;have C:(⟨d.toArray⟩:ByteArray).size<=1000:=U;have B:(⟨a.toArray⟩:ByteArray).size<=1000:=T;have K:=hid I;have Y:wrap64 (c+1)=c+1:=by unfold wrap64;omega
 have bX:=I.lt;go_enter (Qz.fn func229),ntmps229;go_upto_region 1 with(fail)
 have n:zb w (w.alloc (aI #[aK ⟨d.toArray⟩,aK ⟨a.toArray⟩,.bool r] 53)):=(zGn _ w).alloc (zAa _) _;have f:=K.out.below n (zAa _);have x:(w.alloc (aI #[aK ⟨d.toArray⟩,aK ⟨a.toArray⟩,.bool r] 53)).heap[w.heap.size]? =aA (aI #[aK ⟨d.toArray⟩,aK ⟨a.toArray⟩,.bool r] 53 (0,0)):=zGw w _;generalize(w.alloc (aI #[aK ⟨d.toArray⟩,aK ⟨a.toArray⟩,.bool r] 53))=G at*;have c5:=f.c5;have V:=f.f5;obtain⟨A,y⟩:=Hl.count f (c+1);have h:(G.setCell ⟨t,5,aB⟩ (aC aD (c+1))).heap[w.heap.size]? =aA (aI #[aK ⟨d.toArray⟩,aK ⟨a.toArray⟩,.bool r] 53 (0,0)):=(zGq _ _ _ _ (by show w.heap.size≠t;omega)).trans x;have L:=hid ((Hl.below n (zAa _)).trans A);have H:=hid y;clear n f x A y K;go_upto_region 2 with(fail)
 clear c5 V;generalize(G.setCell ⟨t,5,aB⟩ (Value.int IntKind.i64 (c+1)))=p at*;have s:=(zAb.1 h).1;have D:Hid (∀W,zb p W->W.cell? ⟨w.heap.size,0,aB⟩=aA (aK ⟨d.toArray⟩)/\W.cell? ⟨w.heap.size,1,aB⟩=aA (aK ⟨a.toArray⟩)):=λW q=>⟨(aZ ((q.block _ s).trans h) 0).trans rfl,(aZ ((q.block _ s).trans h) 1).trans rfl⟩;obtain⟨q0,X⟩:=D.out p (zGn _ _);have M:Hid (∀W,zb p W->KM w (W.alloc (aI (mZ aB aB d a [] 0) 272)) W.heap.size aB aB d a/\Hl t w (W.alloc (aI (mZ aB aB d a [] 0) 272))/\dK (W.alloc (aI (mZ aB aB d a [] 0) 272)) t x0 x1 x2 x3 x4 (c+1)/\W.heap.size<(W.alloc (aI (mZ aB aB d a [] 0) 272)).heap.size):=λW q=>by have J:zb p (W.alloc (aI (mZ aB aB d a [] 0) 272)):=q.alloc q.size _;have:=q.size;exact⟨NJ W _ _ _ _ (by omega),L.out.trans (Hl.below J (zAa _)),H.out.below J (zAa _),by rw[size_alloc];omega⟩
 clear h L H;go_region_with (first
  |(go_at_call_of 85 (Value.string {data:=d.toArray});refine(CF _ _ C).mono ?_;rintro e F ⟨rfl,m⟩;
    have k:Hid (zb p F):=by first|exact Dy m|exact(bD j.out m j.out.size).out;
    obtain⟨Q,P⟩:=D.out F k.out;clear m;dsimp only)
  |(go_at_call_of 85 (Value.string {data:=a.toArray});refine(CF _ _ B).mono ?_;rintro e E ⟨rfl,l⟩;
    have j:Hid (zb p E):=by first|exact Dy l|exact(bD k.out l k.out.size).out;
    obtain⟨O,N⟩:=D.out E j.out;clear l;dsimp only))
 all_goals go_wp2
 all_goals go_ret
 all_goals first|exact⟨_,rfl,M.out _ j.out⟩|exact⟨_,rfl,M.out _ k.out⟩
def yZ {p}(k:∀b,p=aA b->(∃z o i v g hs,aX w b z o i v g hs)/\eE w b)(f:dK w t x0 x1 x2 x3 x4 c):Calls zq 222 #[ptr p] w λe w'=>e=aL (ptr p)/\Hl t w w'/\dK w' t x0 x1 x2 x3 x4 c/\w'.heap.size=w.heap.size:=by
 cases p with
 |none=>exact(Kj w).mono λe w' ⟨d,a⟩=>by subst a;exact⟨d,.refl,f,rfl⟩
 |some b=>obtain⟨⟨z,o,i,v,g,hs,h⟩,j⟩:=k b rfl;refine(Ki h j).mono λe w' ⟨d,m,a⟩=> ?_;subst a;exact⟨d,Hl.hold h m,f.hold h m,by simp[World.setCell]⟩
def Jp (C:∀b,z=aA b->(∃z o i v g hs,aX w b z o i v g hs)/\eE w b)(F:∀b,o=aA b->(∃z o i v g hs,aX w b z o i v g hs)/\eE w b)(q:dK w t x0 x1 x2 x3 x4 c)(I: -4611686018427387904<=c)(G:c<=4611686018427387904):
  Calls zq 239 #[aN (aA ⟨t,0,aB⟩),ptr z,ptr o] w λe w'=>∃b,e=aL (ptr (aA b))/\KM w w' b z o [] []/\Hl t w w'/\dK w' t x0 x1 x2 x3 x4 (c+1)/\b<w'.heap.size:=by
 have stay:∀{W j:zW}{p:Option Nat},Hl t W j->(∀b,p=aA b->(∃z o i v g hs,aX W b z o i v g hs)/\eE W b)->∀b,p=aA b->(∃z o i v g hs,aX j b z o i v g hs)/\eE j b:=λ{W j p} A h b e=>by obtain⟨⟨z,o,i,v,g,hs,J⟩,D⟩:=h b e;obtain⟨E,k⟩:=A.cell _ _ _ _ _ _ _ J;exact⟨⟨_,_,_,_,_,_,k⟩,A.thaw _ D⟩
 have O:wrap64 (c+1)=c+1:=by unfold wrap64;omega
 obtain⟨d,n⟩:=Hl.count q (c+1);have c5:=q.c5;have P:=q.f5;have L:Hid (Calls zq 222 #[ptr z] (w.setCell ⟨t,5,aB⟩ (aC aD (c+1))) λe w'=>e=aL (ptr z)/\Hl t w w'/\dK w' t x0 x1 x2 x3 x4 (c+1)):=(yZ (stay d C) n).mono λe w' ⟨a,f,K,_⟩=>⟨a,d.trans f,K⟩;have M:Hid (∀W,Hl t w W->dK W t x0 x1 x2 x3 x4 (c+1)->Calls zq 222 #[ptr o] W λe w'=>e=aL (ptr o)/\Hl t w w'/\dK w' t x0 x1 x2 x3 x4 (c+1)):=λW a f=>(yZ (stay a F) f).mono λe w' ⟨g1,g2,g3,_⟩=>⟨g1,a.trans g2,g3⟩;have N:Hid (∀W,Hl t w W->dK W t x0 x1 x2 x3 x4 (c+1)->KM w (W.alloc (aI (mZ z o [] [] [] 0) 272)) W.heap.size z o [] []/\Hl t w (W.alloc (aI (mZ z o [] [] [] 0) 272))/\dK (W.alloc (aI (mZ z o [] [] [] 0) 272)) t x0 x1 x2 x3 x4 (c+1)/\W.heap.size<(W.alloc (aI (mZ z o [] [] [] 0) 272)).heap.size):=λW a f=>by have B:zb W (W.alloc (aI (mZ z o [] [] [] 0) 272)):=(zGn _ W).alloc (zAa _) _;exact⟨NJ W _ _ _ _ a.size,a.trans (Hl.below B (zAa _)),f.below B (zAa _),by rw[size_alloc];omega⟩
 cases z<;>cases o;all_goals
  go_enter (Qz.fn func239),ntmps239
  go_wp2_with fail
  refine L.out.mono ?_
  rintro e w2 ⟨rfl,s,m⟩
  have y:=hid s
  have u:=hid m
  go_wp2_with fail
  refine(M.out w2 y.out u.out).mono ?_
  rintro e w3 ⟨rfl,r,l⟩
  have x:=hid r
  have H:=hid l
  go_wp2
  go_ret
  exact⟨_,rfl,N.out w3 x.out H.out⟩
end
def CS (w:zW)(S:zP):Prop:=∀b,S b->∃z o i v g hs,aX w b z o i v g hs/\eE w b/\∀c,z=aA c\/o=aA c->S c
section
variable {w w1 w':zW}{t b k d lo m hi:Nat}{x0 x1 x2 x3 x4:zY}{c:Int}{z o p:Option Nat}{i v g:zB}{hs:Int}{S:zP}{us:List bZ}{rows rz ro:List (Nat×ByteArray)}
def CS.hl (h:CS w S)(f:Hl t w w'):CS w' S:=λb j=>by obtain⟨z,o,i,v,g,hs,q,n,l⟩:=h b j;obtain⟨a,e⟩:=f.cell _ _ _ _ _ _ _ q;exact⟨z,o,i,v,g,a,e,f.thaw _ n,l⟩
def CS.add (h:CS w' S)(f:KM w w' b z o i v)(j:∀c,z=aA c->S c)(l:∀c,o=aA c->S c):CS w' λx=>S x\/x=b:=λx a=>by
 obtain a|rfl:=a
 .obtain⟨z,o,i,v,g,hs,s,r,q⟩:=h x a;exact⟨z,o,i,v,g,hs,s,r,λc e=>aG (q c e)⟩
 .obtain⟨hs,n⟩:=f.cell;exact⟨z,o,i,v,[],hs,n,f.thaw,λc e=>aG (e.elim (j c) (l c))⟩
def CS.cells (h:CS w S)(a:∀b,p=aA b->S b):∀b,p=aA b->(∃z o i v g hs,aX w b z o i v g hs)/\eE w b:=λb e=>by obtain⟨z,o,i,v,g,hs,j,f,_⟩:=h b (a b e);exact⟨⟨_,_,_,_,_,_,j⟩,f⟩
def eU.up (h:eU k w p us (d+1))(hl:us.length<=1):eU k w p us d:=by
 cases h with
 |nil=>exact .nil d
 |leaf h=>exact .leaf (by rw[JY k d (d+1)];exact h)
 |node a=>omega
def cY.up (h:cY k w p us (d+1) lo hi rows)(hl:us.length<=1):cY k w p us d lo hi rows:=by
 cases h with
 |done h a=>exact .done (h.up hl) a
 | @leaf b u _ _ _ _ f e h=>rw[JY k (d+1) d];exact .leaf f e h
 |node e=>omega
def eU.hl (j:1<=k)(a:k<=32)(h:eU k w p us d)(f:Hl t w w'):eU k w' p us d:=h.keep j a λb z o i v g hs _ e=>f.cell _ _ _ _ _ _ _ e
def cY.hl (j:1<=k)(a:k<=32)(h:cY k w p us d lo hi rows)(f:Hl t w w'):cY k w' p us d lo hi rows:=h.keep j a λb z o i v g hs e=>f.cell _ _ _ _ _ _ _ e
def cY.ends (h:cY k w p us d lo hi rows):Calls zq 225 #[ptr p] w λe w'=>e=aL (.bool (decide (us.length<=1)))/\w'=w:=by
 have a:∀{b:Nat}{z o:Option Nat}{i v g:zB}{hs:Int}{us:List bZ}{r1 r2:List (Nat×ByteArray)}{n a2 a3 a4:Nat},2<=us.length->aX w b z o i v g hs->cY k w z (bK d 0 us) (d+1) n a2 r1->cY k w o (bK d 1 us) (d+1) a3 a4 r2->Calls zq 225 #[ptr (aA b)] w λe w'=>e=aL (.bool (decide (us.length<=1)))/\w'=w:=λ{b z o i v g hs us r1 r2 n a2 a3 a4} l s f j=>by
  have hl:=nB us d;refine(AH s).mono λe w' h=>⟨?_,h.2⟩;rw[h.1,zBv (by omega)];have r:=f.gO;have q:=j.gO;cases z with
  |some _=>rfl
  |none=>
   cases o with
   |some _=>rfl
   |none=>rw[r.1 rfl,q.1 rfl]at hl;simp at hl;omega
 cases h with
 |done h hl=>
  cases h with
  |nil=>exact OD w
  |leaf h=>exact AH h
  |node l _ h f j=>exact a l h (.done f (zAa 0)) (.done j (zAa 0))
 |leaf _ _ h=>exact AH h
 |node l _ h f j=>exact a l h f j
def XY {a}(h:bK d (1-a) us=[])(j:a<=1):bK d a us=us:=by
 refine zFo.2 λu f=> ?_;have:=zFy.1 h u f;obtain e|e:=jH u.idx d
 .rw[e]at this⊢;have:a=0:=by
   obtain h|h:=zDi 0 a;{exfalso;exact this (by rw[show 1-a=0 by omega];rfl)};{omega}
  rw[this];rfl
 .rw[e]at this⊢;have:a=1:=by
   obtain h|h:=zDi a 1;{exfalso;exact this (by rw[show 1-a=1 by omega];rfl)};{omega}
  rw[this];rfl
structure Grow (t:Nat)(S S':zP)(w w':zW):Prop where
 hl:Hl t w w'
 cs:CS w' S'
 old:∀b,S b->S' b
 new:∀b,S' b->S b\/w.heap.size<=b
def Grow.refl (h:CS w S):Grow t S S w w:=⟨.refl,h,λ_ h=>h,λ_ h=>aG h⟩
def Grow.trans {S1 f:zP}(h:Grow t S S1 w w1)(a:Grow t S1 f w1 w'):Grow t S f w w':=
 ⟨h.hl.trans a.hl,a.cs,λb e=>a.old b (h.old b e),λb e=>by
  obtain x|x:=a.new b e;{exact h.new b x}
  .exact aH (zAv h.hl.size x)⟩
def Joined (k t:Nat)(S:zP)(us:List bZ)(d lo n:Nat)(x0 x1 x2 x3 x4:zY)(c:Int)(w:zW)(e:Ending)(w':zW):Prop:=
 ∃p rows a,e=aL (ptr p)/\cY k w' p us d lo w'.heap.size rows/\Grow t S a w w'/\(∀b,p=aA b->a b)/\dK w' t x0 x1 x2 x3 x4 (c+(rows.length-n:Int))/\rows.length=n+if 2<=us.length then 1 else 0
def Kf (P:1<=k)(M:k<=32)(j:cY k w z (bK d 0 us) (d+1) lo m rz)(l:cY k w o (bK d 1 us) (d+1) m w.heap.size ro)(U:Sub us d)(n:CS w S)(B:∀b,z=aA b->S b)(C:∀b,o=aA b->S b)(F:dK w t x0 x1 x2 x3 x4 c)(y: -4611686018427387904<=c)(u:c<=4611686018427387904):
  Calls zq 232 #[aN (aA ⟨t,0,aB⟩),ptr z,ptr o] w (Joined k t S us d lo (rz.length+ro.length) x0 x1 x2 x3 x4 c w):=by
 have hl:=nB us d;have I:=hid j.ends;have E:=hid l.ends;have K:=j.gO;have no:=l.gO;have T:=j.Jx;have q:=l.Jx;have Y:Hid (z=aB->(bK d 1 us).length<=1->Joined k t S us d lo (rz.length+ro.length) x0 x1 x2 x3 x4 c w (aL (ptr o)) w):=λe h=>by
  have A:=K.1 e;have Q:=XY A (zAa _);have r:rz=[]:=by
   subst e;rw[A]at j;cases j with
   |done=>rfl
  rw[Q]at l h;exact⟨o,ro,S,rfl,(l.up h).wide T (zAa _),.refl n,C,by rw[r,show((c:Int)+((ro.length:Int)-(([]:List (Nat×ByteArray)).length+ro.length:Nat)))=c by simp];exact F,by rw[r,zAj (by omega)];simp⟩
 have HB:Hid (o=aB->(bK d 0 us).length<=1->Joined k t S us d lo (rz.length+ro.length) x0 x1 x2 x3 x4 c w (aL (ptr z)) w):=λe h=>by
  have A:=no.1 e;have Q:bK d 0 us=us:=XY A (by omega);have r:ro=[]:=by
   subst e;rw[A]at l;cases l with
   |done=>rfl
  rw[Q]at j h;exact⟨z,rz,S,rfl,(j.up h).wide (zAa _) q,.refl n,B,by rw[r,show((c:Int)+((rz.length:Int)-(rz.length+([]:List (Nat×ByteArray)).length:Nat)))=c by simp];exact F,by rw[r,zAj (by omega)];simp⟩
 have R:Hid (2<=us.length->Calls zq 239 #[aN (aA ⟨t,0,aB⟩),ptr z,ptr o] w λe w'=>∃b,e=aL (ptr (aA b))/\Joined k t S us d lo (rz.length+ro.length) x0 x1 x2 x3 x4 c w (aL (ptr (aA b))) w'):=λO=>by refine(Jp (n.cells B) (n.cells C) F y u).mono ?_;rintro e w' ⟨b,rfl,D,G,N,hb⟩;obtain⟨hs,Z⟩:=D.cell;have hR:cY k w' (aA b) us d lo w'.heap.size (rz++ro++[(b,⟨(gP k us d).toArray⟩)]):= .node O (U.deep O) Z (j.hl P M G) ((l.hl P M G).wide (zAa _) D.lo) hb;refine⟨b,rfl,aA b,_,_,rfl,hR,⟨G,(n.hl G).add D B C,λx L=>aG L,λx L=>L.imp id λe=>by subst e;exact D.lo⟩,λx e=>by cases e;exact aH rfl,?_,by rw[zAl O];simp only[zAg,zAi,zBb]⟩;rw[show(c:Int)+(((rz++ro++[(b,(⟨(gP k us d).toArray⟩:ByteArray))]).length:Int)-(rz.length+ro.length:Nat))=c+1 by simp only[zAg,zAi,zBb];omega];exact N
 have H1:Hid (z=aB->o=aB->(bK d 1 us).length<=1):=λ_ e=>by rw[no.1 e];simp
 have H2:Hid (¬(bK d 1 us).length<=1->2<=us.length):=λh=>by omega
 have H3:Hid (¬(bK d 0 us).length<=1->2<=us.length):=λh=>by omega
 have H4:Hid (∀a b,z=aA a->o=aA b->2<=us.length):=λa b X W=>by
  obtain h|h:=zFa (bK d 0 us).length;{rw[K.2 (zFu.1 h)]at X;cases X}
  .obtain V|V:=zFa (bK d 1 us).length
   .rw[no.2 (zFu.1 V)]at W;cases W
   .omega
 generalize hJ:Joined k t S us d lo (rz.length+ro.length) x0 x1 x2 x3 x4 c w=J at*;clear j l U n B C F y u hJ K no T q hl P M;generalize bK d 0 us=u0 at*;generalize bK d 1 us=u1 at*;cases z with
 |none=>
  cases o with
  |none=>have f:=H1.out rfl rfl;rw[zDf f]at E;go_enter (Qz.fn func232),ntmps232;go_wp2_with fail;refine E.out.mono ?_;rintro e w' ⟨rfl,rfl⟩;go_wp2;exact Y.out (by first|trivial|rfl) f
  |some o=>by_cases f:u1.length<=1;{rw[zDf f]at E;go_enter (Qz.fn func232),ntmps232;go_wp2_with fail;refine E.out.mono ?_;rintro e w' ⟨rfl,rfl⟩;go_wp2;exact Y.out (by first|trivial|rfl) f};{rw[zBv f]at E;have H:=R.out (H2.out f);go_enter (Qz.fn func232),ntmps232;go_wp2_with fail;refine E.out.mono ?_;rintro e w' ⟨rfl,rfl⟩;go_wp2_with fail;refine H.mono ?_;rintro e w' ⟨b,rfl,s⟩;go_wp2;exact s}
 |some z=>
  cases o with
  |none=>by_cases f:u0.length<=1;{rw[zDf f]at I;go_enter (Qz.fn func232),ntmps232;go_wp2_with fail;refine I.out.mono ?_;rintro e w' ⟨rfl,rfl⟩;go_wp2;exact HB.out (by first|trivial|rfl) f};{rw[zBv f]at I;have H:=R.out (H3.out f);go_enter (Qz.fn func232),ntmps232;go_wp2_with fail;refine I.out.mono ?_;rintro e w' ⟨rfl,rfl⟩;go_wp2_with fail;refine H.mono ?_;rintro e w' ⟨b,rfl,s⟩;go_wp2;exact s}
  |some o=>have H:=R.out (H4.out _ _ rfl rfl);go_enter (Qz.fn func232),ntmps232;go_wp2_with fail;refine H.mono ?_;rintro e w' ⟨b,rfl,s⟩;go_wp2;exact s
end
def eO {l a I}:eZ (a::l) I=if a.1=I then aA a.2 else eZ l I:=by
 unfold eZ;by_cases h:a.1=I
 .rw[List.find?_cons_of_pos (by simpa using h),zAl h];rfl
 .rw[List.find?_cons_of_neg (by simpa using h),zAj h]
def BM:∀{l m:List qW},iB l->iB m->(∀I,eZ l I=eZ m I)->l=m
 |[],[],_,_,_=>rfl
 |[],b::m,_,_,h=>by have:=h b.1;rw[eO,zAl rfl]at this;cases this
 |a::l,[],_,_,h=>by have:=h a.1;rw[eO,zAl rfl]at this;cases this
 |a::l,b::m,hl,hm,h=>by
  unfold iB at hl hm;rw[zCx]at hl hm;have g:∀{x:qW}{r:List qW},(∀e∈r,aHf x.1 e.1= -1)->∀e∈r,e.1≠x.1:=λn e f d=>by have:=n e f;rw[d,eP]at this;cases this
  have i:a.1=b.1:=by
   obtain c|c|c:=jG a.1 b.1
   .exfalso;have:=h a.1;rw[eO,zAl rfl,eO,zAj (λe=>by rw[e,eP]at c;cases c),fP]at this
    .cases this
    .intro e f d;have k:=hm.1 e f;rw[d]at k;have:=iF b.1 a.1;omega
   .exact lJ c
   .exfalso;have c':aHf b.1 a.1= -1:=by{have:=iF a.1 b.1;omega};have:=h b.1;rw[eO (a:=b),zAl rfl,eO,zAj (λe=>by rw[e,eP]at c;cases c),fP]at this;{cases this};{intro e f d;have k:=hl.1 e f;rw[d]at k;have:=iF a.1 b.1;omega}
  have o:a.2=b.2:=by have:=h a.1;rw[eO,zAl rfl,eO,zAl i.symm]at this;exact zAm this
  have f:=Prod.ext i o;subst f;rw[BM hl.2 hm.2 λI=> ?_];have:=h I;rw[eO,eO]at this;by_cases j:a.1=I;{subst j;rw[fP (g hl.1),fP (g hm.1)]};{rw[zAj j,zAj j]at this;exact this}
def get_append (l m)(I):eZ (l++m) I=(eZ l I).or (eZ m I):=by unfold eZ;rw[List.find?_append];cases h:l.find? λe=>e.1==I<;>rfl
def get_filter {l q I}(h:∀e,e.1=I->q e=aE):eZ (l.filter q) I=eZ l I:=by
 induction l with
 |nil=>rfl
 |cons a l i=>
  by_cases b:a.1=I;{rw[zBd (h a b),eO,eO,zAl b,zAl b]}
  .rw[eO,zAj b];cases c:q a with
   |true=>rw[zBd c,eO,zAj b,i]
   |false=>rw[zAt (by rw[c];decide),i]
def get_put (l)(u)(I):eZ (yG l u) I=if u.idx=I then(if u.gone then aB else aA u.val)else eZ l I:=by
 unfold yG;rw[get_append,get_append];by_cases h:u.idx=I
 .subst h;rw[zAl rfl,fP (λe b a=>by
   have:=of_decide_eq_true (zAx.1 b).2;rw[a,eP]at this;cases this),fP (l:=l.filter λe=>decide (aHf e.1 u.idx=1)) (λe b a=>by
   have:=of_decide_eq_true (zAx.1 b).2;rw[a,eP]at this;cases this)]
  cases u.gone;{simp[eO]};{simp[eZ]}
 .rw[zAj h];have d:eZ (if u.gone then []else [(u.idx,u.val)]) I=aB:=by
   split;{rfl};{rw[eO,zAj h];rfl}
  rw[d];obtain c|c|c:=jG I u.idx
  .rw[get_filter (λe b=>by rw[b,c];rfl),fP (l:=l.filter λe=>decide (aHf e.1 u.idx=1)) (λe b a=>by
    have:=of_decide_eq_true (zAx.1 b).2;rw[a,c]at this;cases this)]
   cases eZ l I<;>rfl
  .exact absurd (lJ c).symm h
  .rw[get_filter (q:=λe=>decide (aHf e.1 u.idx=1)) (λe b=>by rw[b,c];rfl),fP (λe b a=>by
    have:=of_decide_eq_true (zAx.1 b).2;rw[a,c]at this;cases this)]
   rfl
def Diff (cs:List bZ)(l w:List qW):Prop:=∀u∈cs,eZ l u.idx≠eZ w u.idx
def NY (l)(d b)(I):eZ (cN l d b) I=if bP I d=b then eZ l I else aB:=by
 split
 .rename_i h;exact get_filter (λe g=>by rw[g,h];exact zEw _)
 .rename_i h;unfold eZ;cases c:(cN l d b).find? λe=>e.1==I with
  |none=>rfl
  |some e=>exfalso;have i:=List.mem_of_find?_eq_some c;have f:=List.find?_some c;have a:=(zAx.1 i).2;rw[zCm]at f a;rw[f]at a;exact h a
def Diff.half {cs l w}(h:Diff cs l w)(d b):Diff (bK d b cs) (cN l d b) (cN w d b):=λu c=>by obtain⟨e,a⟩:=zAx.1 c;rw[NY,NY,zAl (zCm.1 a),zAl (zCm.1 a)];exact h u e
def Diff.ne {cs l w}(h:Diff cs l w)(a:0<cs.length):l≠w:=λe=>by
 subst e;match cs,a with
 |u::cs,_=>exact h u (zBj ..) rfl
def nZ (l w:List qW):Nat:=(l.filter λe=> !w.contains e).length
def tV (l w)(d):nZ (cN l d 0) (cN w d 0)+nZ (cN l d 1) (cN w d 1)=nZ l w:=by
 have h:∀b,(cN l d b).filter (λe=> !(cN w d b).contains e)=cN (l.filter λe=> !w.contains e) d b:=λb=>by
  unfold cN;rw[zEn,zEn];apply List.filter_congr;intro e _;cases hb:bP e.1 d==b with
  |false=>simp
  |true=>
   have:(w.filter λe=>bP e.1 d==b).contains e=w.contains e:=by rw[aHe,List.contains_iff_mem,List.contains_iff_mem,zAx];exact⟨λh=>h.1,λh=>⟨h,hb⟩⟩
   rw[this];simp
 unfold nZ;rw[h 0,h 1];exact JG _ d
def AD:∀{l:List qW}{I v:zB},iB l->(I,v)∈l->eZ l I=aA v
 |[],_,_,_,h=>by cases h
 |a::l,I,v,b,h=>by obtain⟨d,c⟩:=zCx.1 b;rw[eO];obtain rfl|h:=zAf.1 h;{rw[zAl rfl]};{have:=d _ h;rw[zAj (λe=>by rw[e,eP]at this;cases this)];exact AD c h}
def nF (l w:List qW)(d:Nat):Nat:=nZ l w+fV (256-d) l w d
def Jr {u cs w d}(b:iB w)(h:Diff cs (bG [u]) w){c}(f:c∈cs)(hi:c.idx=u.idx):1<=nF (bG [u]) w d:=by
 have a:=h c f;rw[hi]at a;have i:eZ (bG [u]) u.idx=aA u.val:=by show eZ [(u.idx,u.val)] u.idx=_;rw[eO,zAl rfl]
 rw[i]at a;have g:w.contains (u.idx,u.val)=aF:=by rw[Bool.eq_false_iff];intro e;rw[List.contains_iff_mem]at e;exact a (AD b e).symm
 have j:nZ (bG [u]) w=1:=by show([(u.idx,u.val)].filter _).length=1;rw[zBd (by rw[g];rfl)];rfl
 unfold nF;omega
def Jq {us cs w d}(h:Diff cs (bG us) w)(b:2<=us.length)(a:0<cs.length)(c:d<256):
  1+(nF (bG (bK d 0 us)) (cN w d 0) (d+1)+nF (bG (bK d 1 us)) (cN w d 1) (d+1))=nF (bG us) w d:=by
 rw[fB,fB];unfold nF;rw[show 256-d=(256-(d+1))+1 by omega,fV,zAj (λe=>by
  obtain e|e:=e;{rw[gZ]at e;omega}
  .exact h.ne a e),<-tV (bG us) w d]
 omega
def nW (l:List bZ):Prop:=l.Pairwise λa b=>aHf a.idx b.idx= -1
def tY (I:zB)(l:List bZ):List bZ:=l.filter λu=>decide (aHf u.idx I= -1)
def mW (I:zB)(l:List bZ):List bZ:=l.filter λu=>decide (aHf u.idx I=1)
def YE {I l}(h:∀x∈l,aHf x.idx I=1):tY I l=[]/\mW I l=l:=by
 constructor
 .unfold tY;rw[zFy];intro x a;rw[h x a];decide
 .unfold mW;rw[zFo];intro x a;rw[h x a];rfl
def XM {a b}(h:aHf a b= -1):aHf b a=1:=by rw[iF a b,h];rfl
def BE (I:zB):∀l:List bZ,nW l->(∃x,x.idx=I/\l=tY I l++x::mW I l)\/(l=tY I l++mW I l/\∀x∈l,x.idx≠I)
 |[],_=>aH ⟨rfl,λ_ h=>by cases h⟩
 |a::l,m=>by
  obtain⟨f,n⟩:=zCx.1 m;obtain h|h|h:=jG a.idx I
  .have j:tY I (a::l)=a::tY I l:=by{unfold tY;rw[zBd (by rw[h];rfl)]};have i:mW I (a::l)=mW I l:=by{unfold mW;rw[zAt (by rw[h];decide)]};rw[j,i];obtain⟨x,b,e⟩|⟨e,d⟩:=BE I l n;{exact aG ⟨x,b,by rw[zCl,<-e]⟩}
   .refine aH ⟨by rw[zCl,<-e],λx b=> ?_⟩;obtain rfl|b:=zAf.1 b
    .intro e;rw[e,eP]at h;cases h
    .exact d x b
  .have e:=lJ h;obtain⟨c,g⟩:=YE (I:=I) (l:=l) λx b=>by{rw[<-e];exact XM (f x b)};have j:tY I (a::l)=[]:=by{unfold tY at c⊢;rw[zAt (by rw[h];decide)];exact c};have i:mW I (a::l)=l:=by{unfold mW at g⊢;rw[zAt (by rw[h];decide)];exact g};rw[j,i];exact aG ⟨a,e,rfl⟩
  .have k:aHf I a.idx= -1:=by rw[iF a.idx I,h]
   obtain⟨c,g⟩:=YE (I:=I) (l:=a::l) λx b=>by obtain rfl|b:=zAf.1 b;{exact h};{exact XM (oE k (f x b))}
   rw[c,g];refine aH ⟨rfl,λx b=> ?_⟩;obtain rfl|b:=zAf.1 b;{intro e;rw[e,eP]at h;cases h};{intro e;have:=oE k (f x b);rw[e,eP]at this;cases this}
def VY (u:bZ):bZ:=⟨u.idx,u.val,aF⟩
def jE (l:List bZ)(u:bZ):List bZ:=tY u.idx l++((if u.gone then []else [VY u])++mW u.idx l)
def yF (l)(u):bG (jE l u)=yG (bG l) u:=by
 have h:∀q:qW->Bool,bG (l.filter λx=>q (x.idx,x.val))=(bG l).filter q:=λq=>by unfold bG;rw[List.filter_map];rfl
 unfold jE yG;rw[<-h,<-h];unfold bG tY mW;rw[zDm,zDm];cases u.gone<;>rfl
structure KV (l:List bZ):Prop where
 sub:Sub l 0
 val:∀u∈l,u.val.length<=100
 here:∀u∈l,u.gone=aF
def KV.nil:KV []:=⟨⟨List.Pairwise.nil,λ_ h=>(nomatch h),λ_ h=>(nomatch h)⟩,λ_ h=>(nomatch h),λ_ h=>(nomatch h)⟩
def KV.put {l}(h:KV l){u}(hi:u.idx.length=32)(e:u.val.length<=100):KV (jE l u):=by
 have b:∀x∈jE l u,x∈l\/(u.gone=aF/\x=VY u):=λx a=>by
  obtain a|a:=zAh.1 a;{exact aG (zAx.1 a).1}
  .obtain a|a:=zAh.1 a
   .cases c:u.gone with
    |true=>rw[c]at a;simp at a
    |false=>rw[c]at a;exact aH ⟨rfl,by simpa using a⟩
   .exact aG (zAx.1 a).1
 have f:nW (jE l u):=by have d:iB (yG (bG l) u):=wU (zDq.2 h.sub.order);rw[<-yF]at d;exact zDq.1 d
 refine⟨Sub.zero f λx a=> ?_,λx a=> ?_,λx a=> ?_⟩
 .obtain a|⟨_,rfl⟩:=b x a
  .exact h.sub.idx x a
  .exact hi
 .obtain a|⟨_,rfl⟩:=b x a
  .exact h.val x a
  .exact e
 .obtain a|⟨_,rfl⟩:=b x a
  .exact h.here x a
  .rfl
def bL (l us:List bZ):List bZ:=us.foldl jE l
def DN:∀(us l:List bZ),bG (bL l us)=dC (bG l) us
 |[],_=>rfl
 |u::us,l=>by show bG (bL (jE l u) us)=dC (yG (bG l) u) us;rw[DN us,yF]
def KV.dC:∀{us l:List bZ},KV l->(∀u∈us,u.idx.length=32/\u.val.length<=100)->KV (bL l us)
 |[],_,h,_=>h
 |u::us,l,h,hu=>by show KV (bL (jE l u) us);exact KV.dC (h.put (hu u (zBj ..)).1 (hu u (zBj ..)).2) λx a=>hu x (zBl _ a)
def KV.same {l m}(h:KV l)(d:KV m)(e:bG l=bG m):l=m:=by
 have a:∀{x:List bZ},KV x->x=(bG x).map λe=>⟨e.1,e.2,aF⟩:=λ{x} b=>by
  unfold bG;rw[zEm];conv=>lhs;rw[<-List.map_id x]
  apply zEj;intro u c;have:=b.here u c;cases u;simp only at this;subst this;rfl
 rw[a h,a d,e]
def RF (R:zR)(e:Ending)(w:zW):Prop:=(∃x,e=aL x/\R x w)\/∃c,e= .panicked c/\lP c w
def RF.of {R x w}(h:R x w):RF R (aL x) w:=aG ⟨x,rfl,h⟩
def RF.told {R c w}(h:lP c w):RF R (.panicked c) w:=aH ⟨c,rfl,h⟩
def fF {B w w'}(h:Below B w w'):Below B w w'.drew:=⟨h.os,h.tape,h.output,h.size,h.block⟩
def tE {B w w'}(h:Below B w.drew w'):Below B w w':=⟨h.os,h.tape,h.output,h.size,h.block⟩
def fK (w:zW)(x:Nat):Prop:=∃z o i v g h,aX w x z o i v g h
def pK (C:zP)(x:zY):Prop:=∃p,x=ptr p/\∀b,p=aA b->C b
def nI (w:zW):Prop:=∀b,b<=zq.globals.size->¬YN w.heap[b]?/\¬fK w b/\((∃c t fr,w.heap[b]? =aA (aI c t fr)/\(∀D:zP,(∀x,x<=zq.globals.size->D x)->aY Qw.Al (cL D) c c)/\(∀(i:Nat) m,c[i]?≠aA (aC aP m))/\fr.2<=c.size)\/∃o,w.heap[b]? =aA o/\EU o)
structure eR (F:zP)(w w':zW):Prop where
 os:w'.os=w.os
 tape:w'.tape=w.tape
 output:w'.output=w.output
 size:w.heap.size<=w'.heap.size
 block:∀k,k<w.heap.size->¬F k->w'.heap[k]? =w.heap[k]?
section
variable {F F':zP}{w w1 w':zW}
def eR.of {B}(h:Below B w w')(c:w.heap.size<=B):eR F w w':=⟨h.os,h.tape,h.output,h.size,λk a _=>h.block k (zAc a c)⟩
def eR.trans (h:eR F w w1)(a:eR F w1 w'):eR F w w':=⟨a.os.trans h.os,a.tape.trans h.tape,a.output.trans h.output,zAv h.size a.size,λk c hF=>(a.block k (zAc c h.size) hF).trans (h.block k c hF)⟩
def eR.then (h:eR F w w1)(a:eR F' w1 w')(hF:∀x,F' x->x<w.heap.size->¬F x->w1.heap[x]?≠w.heap[x]?):eR F w w':=⟨a.os.trans h.os,a.tape.trans h.tape,a.output.trans h.output,zAv h.size a.size,λk c d=>(a.block k (zAc c h.size) (λe=>hF k e c d (h.block k c d))).trans (h.block k c d)⟩
def eR.mono (h:eR F w w')(hF:∀x,F x->F' x):eR F' w w':=⟨h.os,h.tape,h.output,h.size,λk c a=>h.block k c λd=>a (hF k d)⟩
def eR.grown {x}(h:w.grownBy w' (aA x))(a:F x):eR F w w':=⟨h.os,h.tape,h.output,h.size,λk d c=>h.block k d λe=>c (by injection e with e;rw[e];exact a)⟩
end
def rC (S:List (List bZ)):List bZ:=S.getLast?.getD []
structure dF (w:zW)(t k room b cap:Nat)(S:List (List bZ)):Prop where
 k1:1<=k
 k2:k<=32
 iH:nI w
 iP:fJ w
 FY:zq.globals.size<t
 RO:zq.globals.size<b
 at':∃(R:Nat)(c:Int),dK w t (aC aD k) (aC aD R) (aK ⟨(dg k [0]).toArray⟩) (aJ (aA ⟨b,0,aB⟩) S.length cap) (aC aD (rC S).length) c/\c+room<=R/\R<=1000000/\-(1000000*((R:Int)-room))<=c
 row:∃(C:zP)(cur:zA),w.heap[b]? =aA (aI cur 264 (0,0))/\S.length<=cap/\cap<=maxLen/\cur.size=cap/\CS w C/\(∀x∈cur.toList,pK C x)/\∀(i:Nat) us,S[i]? =aA us->∃p,cur[i]? =aA (ptr p)/\eU k w p us 0
 st:∀us∈S,KV us/\us.length<=400
 len:S.length<=1000
 one:0<S.length
section
variable {w w':zW}{t k room b cap:Nat}{S:List (List bZ)}{C:zP}
def fK.lt {x}(h:fK w x):x<w.heap.size:=by obtain⟨_,_,_,_,_,_,h⟩:=h;exact h.lt
def aX.same {b z o i v g hs}(h:aX w b z o i v g hs)(a:w'.heap[b]? =w.heap[b]?):aX w' b z o i v g hs:=⟨by rw[a];exact h.at'⟩
def eE.same {b}(h:eE w b)(a:w'.heap[b]? =w.heap[b]?):eE w' b:=by obtain⟨c,h⟩:=h;exact⟨c,by rw[a];exact h⟩
def fK.same {x}(h:fK w x)(c:w'.heap[x]? =w.heap[x]?):fK w' x:=by obtain⟨z,o,i,v,g,a,h⟩:=h;exact⟨z,o,i,v,g,a,h.same c⟩
def nI.kept (h:nI w)(c:∀x,x<=zq.globals.size->w'.heap[x]? =w.heap[x]?):nI w':=λx a=>by rw[c x a];exact⟨(h x a).1,λd=>(h x a).2.1 (d.same (c x a).symm),(h x a).2.2⟩
def CS.cell (h:CS w C){x}(a:C x):fK w x:=by obtain⟨z,o,i,v,g,c,d,_⟩:=h x a;exact⟨z,o,i,v,g,c,d⟩
def CS.down (h:CS w C)(b)(z o)(i v g)(hs)(f:C b)(d:aX w b z o i v g hs)(c)(e:z=aA c\/o=aA c):C c:=by obtain⟨m,p,q,n,r,a,l,_,j⟩:=h b f;obtain⟨rfl,rfl,_⟩:=gQ d l;exact j c e
def CS.kept (h:CS w C)(c:∀x,C x->w'.heap[x]? =w.heap[x]?):CS w' C:=λx a=>by obtain⟨z,o,i,v,g,d,j,f,e⟩:=h x a;exact⟨z,o,i,v,g,d,j.same (c x a),f.same (c x a),e⟩
def eU.kept {p:Option Nat}{us:List bZ}{d:Nat}(h:eU k w p us d)(l:CS w C)(c:∀b,p=aA b->C b)(e:∀x,C x->w'.heap[x]? =w.heap[x]?):eU k w' p us d:=
 h.stay (G:=C) l.down (λb z o i v g a j f=>⟨a,f.same (e b j)⟩) c
def fJ.kept (h:fJ w)(hs:w.heap.size<=w'.heap.size)(a:∀x,x<=zq.globals.size->w'.heap[x]? =w.heap[x]?):fJ w':=by
 obtain⟨f,e⟩:=JI;refine⟨⟨zAc h.nL.1 hs,λj d=> ?_⟩,zAc h.lt hs,λj v c=> ?_⟩
 .rw[World.cell?_of_block (a _ e)];exact h.nL.2 j d
 .rw[World.cell?_of_block (a _ f)];exact h.jY j v c
def dF.ig (h:dF w t k room b cap S):∃cs,w.heap[t]? =aA (aI cs 168 (0,0)):=by obtain⟨R,c,a,_⟩:=h.at';exact⟨_,a⟩
def dF.mz (h:dF w t k room b cap S):∃cs,w.heap[b]? =aA (aI cs 264 (0,0)):=by obtain⟨C,c,a,_⟩:=h.row;exact⟨_,a⟩
def dF.oo (h:dF w t k room b cap S):t<w.heap.size:=by obtain⟨cs,h⟩:=h.ig;exact(zAb.1 h).1
def dF.blt (h:dF w t k room b cap S):b<w.heap.size:=by obtain⟨cs,h⟩:=h.mz;exact(zAb.1 h).1
def dF.tb (h:dF w t k room b cap S):t≠b:=λe=>by obtain⟨cs,d⟩:=h.mz;obtain⟨f,a⟩:=h.ig;rw[e,d]at a;injection a with a;injection a with _ c;revert c;decide
def dF.less {r}(h:dF w t k room b cap S)(a:r<=room):dF w t k r b cap S:=by obtain⟨R,c,d1,d,d3,d4⟩:=h.at';exact⟨h.k1,h.k2,h.iH,h.iP,h.FY,h.RO,⟨R,c,d1,by omega,d3,by omega⟩,h.row,h.st,h.len,h.one⟩
def dF.kept (h:dF w t k room b cap S)(hs:w.heap.size<=w'.heap.size)(d:∀x,x<=zq.globals.size\/x=t\/x=b\/fK w x->w'.heap[x]? =w.heap[x]?):dF w' t k room b cap S:=by
 obtain⟨C,f,c1,c2,c3,c4,c5,c6,r⟩:=h.row;obtain⟨R,c,d1,q,d3,d4⟩:=h.at';have g:∀x,C x->w'.heap[x]? =w.heap[x]? :=λx a=>d x (aH (aH (aH (c5.cell a))));refine⟨h.k1,h.k2,h.iH.kept λx a=>d x (aG a),h.iP.kept hs λx a=>d x (aG a),h.FY,h.RO,⟨R,c,(d t (aH (aG rfl))).trans d1,q,d3,d4⟩,⟨C,f,by rw[d b (aH (aH (aG rfl)))];exact c1,c2,c3,c4,c5.kept g,c6,λi us hi=> ?_⟩,h.st,h.len,h.one⟩;obtain⟨p,j,o⟩:=r i us hi;refine⟨p,j,o.kept c5 (λb n=> ?_) g⟩;obtain⟨l,e,m⟩:=c6 _ (by rw[zDw];exact zBi j);subst n;cases l with
 |none=>cases e
 |some s=>cases e;exact m _ rfl
def dF.below {B:Nat}(h:dF w t k room b cap S)(c:Below B w w')(d:w.heap.size<=B):dF w' t k room b cap S:=
 h.kept c.size λx a=>c.block x (zAc (by
  obtain a|rfl|rfl|a:=a;{have:=h.FY;have:=h.oo;omega};{exact h.oo};{exact h.blt}
  .exact a.lt) d)
def fK.ne {x y}(h:fK w x){cs ty fr}(c:w.heap[y]? =aA (aI cs ty fr))(a:ty≠272):x≠y:=λe=>by subst e;obtain⟨_,_,_,_,_,_,h⟩:=h;obtain⟨f,h⟩:=h.at';rw[c]at h;injection h with h;injection h with _ d;exact a d
def dF.other {x:Nat}{cs:zA}{ty:zD}{fr:Nat×Nat}(h:dF w t k room b cap S)(f:w.grownBy w' (aA x))(g:w.heap[x]? =aA (aI cs ty fr))(c:ty≠272/\ty≠168/\ty≠264)(hl:zq.globals.size<x):dF w' t k room b cap S:=
 h.kept f.size λy d=>by obtain d|rfl|rfl|d:=d;{exact f.block y (by have:=h.FY;have:=h.oo;omega) (λe=>by injection e with e;omega)};{refine f.block _ h.oo (λe=> ?_);injection e with e;subst e;obtain⟨j,a⟩:=h.ig;rw[g]at a;injection a with a;injection a with _ i;exact c.2.1 i};{refine f.block _ h.blt (λe=> ?_);injection e with e;subst e;obtain⟨j,a⟩:=h.mz;rw[g]at a;injection a with a;injection a with _ i;exact c.2.2 i};{refine f.block _ d.lt (λe=> ?_);injection e with e;exact d.ne g c.1 e}
def OQ {D a}(h:D a.block):bY (cL D) a a:=⟨⟨rfl,h⟩,rfl,rfl⟩
def ZK {D v}(h:∀a,v=aA a->D a.block)(n c):bE Qw.Al (cL D) (aJ v n c) (aJ v n c):=by
 cases v with
 |none=>exact .slice .none n c
 |some a=>exact .slice (.some (OQ (h a rfl))) n c
def IJ {D p}(h:∀b,p=aA b->D b):bE Qw.Al (cL D) (ptr p) (ptr p):=by
 cases p with
 |none=>exact .pointer .none
 |some b=>exact .pointer (.some (OQ (h b rfl)))
def OY {D cs}(h:∀x∈cs.toList,bE Qw.Al (cL D) x x):aY Qw.Al (cL D) cs cs:=⟨rfl,λi v d c a=>by rw[c]at a;injection a with a;subst a;exact h v (by rw[zDw];exact zBi c)⟩
def Ky (t b:Nat)(C:zP):zP:=λx=>x<=zq.globals.size\/x=t\/x=b\/C x
def dh {n x1 x4 c cur}(k1:1<=k)(k2:k<=32)(D:nI w)(J:fJ w)(FY:zq.globals.size<t)(RO:zq.globals.size<b)(r:dK w t (aC aD k) (aC aD x1) (aK ⟨(dg k [0]).toArray⟩) (aJ (aA ⟨b,0,aB⟩) n cap) (aC aD x4) c)(q:w.heap[b]? =aA (aI cur 264 (0,0)))(H:CS w C)(s:∀x∈cur.toList,pK C x):sP k t (Ky t b C) w:=by
 have A:∀x,x<=zq.globals.size->Ky t b C x:=λx h=>aG h;have bX:=r.lt;refine⟨k1,k2,⟨⟨λl d=>by rw[l.1,d.1],λl _=>l.1,λx h=>⟨rfl,A x h⟩⟩,by omega,λx h=> ?_⟩,λx h=> ?_,aH (aG rfl),?_,J,λx z o i v g u h E=> ?_⟩
 .by_cases qM:x<=zq.globals.size
  .obtain⟨c,ty,fr,l,d,B,K⟩|⟨o,l,d⟩:=(D x qM).2.2
   .exact aG ⟨c,ty,fr,l,d _ A,B,K⟩
   .exact aH ⟨qM,o,l,d⟩
  .left;obtain h|rfl|rfl|h:=h
   .exact absurd h qM
   .refine⟨_,_,_,r,OY λy f=> ?_,λi m hi=> ?_,zBq _⟩
    .simp only[zAf,zAr,zCb]at f;obtain rfl|rfl|rfl|rfl|rfl|rfl:=f
     .exact .int _ _
     .exact .int _ _
     .exact .string _
     .exact ZK (λa G=>by injection G with G;subst G;exact aH (aH (aG rfl))) _ _
     .exact .int _ _
     .exact .int _ _
    .have:=zBi hi;simp at this
   .refine⟨_,_,_,q,OY λy f=> ?_,λi m hi=> ?_,zBq _⟩
    .obtain⟨p,rfl,I⟩:=s y f;exact IJ λb q=>aH (aH (aH (I b q)))
    .obtain⟨p,e,_⟩:=s _ (by rw[zDw];exact zBi hi);cases p<;>cases e
   .obtain⟨z,o,i,v,g,u,l,⟨L,d⟩,B⟩:=H x h;obtain⟨fr,l⟩:=l.at';rw[d]at l;cases l;refine⟨_,_,_,d,OY λy f=> ?_,λj m hi=> ?_,zBq _⟩
    .simp only[mZ,zAf,zAr,zCb]at f;obtain rfl|rfl|rfl|rfl|rfl|rfl:=f
     .exact IJ λb q=>aH (aH (aH (B b (aG q))))
     .exact IJ λb q=>aH (aH (aH (B b (aH q))))
     .exact .string _
     .exact .string _
     .exact .string _
     .exact .int _ _
    .have:=zBi hi;rw[<-zDw]at this;simp only[mZ,zAf,zAr,zCb]at this;obtain e|e|e|e|e|e:=this
     .cases z<;>cases e
     .cases o<;>cases e
     all_goals cases e
 .rintro⟨y,f⟩;by_cases qM:x<=zq.globals.size
  .exact(D x qM).1 ⟨y,f⟩
  .obtain h|rfl|rfl|h:=h
   .exact absurd h qM
   .unfold dK at r;rw[f]at r;cases r
   .rw[f]at q;cases q
   .obtain⟨z,o,i,v,g,u,_,⟨L,d⟩,_⟩:=H x h;rw[f]at d;cases d
 .exact⟨bX,(aZ r 0).trans rfl,(aZ r 2).trans rfl⟩
 .by_cases qM:x<=zq.globals.size
  .exact absurd ⟨z,o,i,v,g,u,E⟩ (D x qM).2.1
  .obtain h|rfl|rfl|h:=h
   .exact absurd h qM
   .exact absurd rfl (r.ne E)
   .exact absurd rfl (fK.ne ⟨z,o,i,v,g,u,E⟩ q (by decide))
   .obtain⟨z,o,i,v,g,u,_,d,_⟩:=H x h;exact d
end
section
variable {w w1 w':zW}{t b k d lo hi:Nat}{x0 x1 x2 x3 x4:zY}{c:Int}{z o p:Option Nat}{i v g:zB}{hs:Int}{C:zP}{us:List bZ}{rows:List (Nat×ByteArray)}
def WJ {d l a b f e}(r:d<256)(hl:a+b=l)(s:1<=l)(q:f<=(257-(d+1))*a)(j:e<=(257-(d+1))*b):1+f+e<=(257-d)*l:=by obtain⟨m,h⟩:∃m,257-(d+1)=m:=⟨_,rfl⟩;rw[h]at q j;rw[show 257-d=m+1 by omega,aHn,<-hl,aHo];omega
def CS.thaw (e:CS w C){x}(a:C x):eE w x:=by obtain⟨_,_,_,_,_,_,_,h,_⟩:=e x a;exact h
def eU.WL (h:eU k w p us d)(a:CS w C)(q:∀b,p=aA b->C b)(E:d<=256):∃n,EE w n p/\n<=(257-d)*us.length:=by
 induction h with
 |nil d=>exact⟨0,.nil,zBq _⟩
 |leaf h=>exact⟨_,.mk h (a.thaw (q _ rfl)) .nil .nil,by simp only[zFz];omega⟩
 | @node b us d z o hs F l h B D j f=>have m:=q _ rfl;obtain⟨A,x,s⟩:=j (λc e=>a.down _ _ _ _ _ _ _ m h c (aG e)) (by omega);obtain⟨y,u,r⟩:=f (λc e=>a.down _ _ _ _ _ _ _ m h c (aH e)) (by omega);exact⟨_,.mk h (a.thaw m) x u,WJ l (nB us d) (by omega) s r⟩
def cY.WL (h:cY k w p us d lo hi rows)(a:CS w C)(l:∀b,p=aA b->C b)(x:d<=256):∃n,EE w n p/\n<=(257-d)*us.length:=by
 induction h with
 |done h _=>exact h.WL a l x
 |leaf _ _ h=>exact⟨_,.mk h (a.thaw (l _ rfl)) .nil .nil,by simp only[zFz];omega⟩
 | @node b us d lo m hi z o hs D ro I q h G H y j f=>have r:=l _ rfl;obtain⟨F,B,u⟩:=j (λc e=>a.down _ _ _ _ _ _ _ r h c (aG e)) (by omega);obtain⟨E,A,s⟩:=f (λc e=>a.down _ _ _ _ _ _ _ r h c (aH e)) (by omega);exact⟨_,.mk h (a.thaw r) B A,WJ q (nB us d) (by omega) u s⟩
def nk (t:Nat)(w0:zW)(n:Nat)(p:Option Nat):Prop:=
 ∀u W x0 x1 x2 x3 x4 c,Hl t w0 W->dK W t x0 x1 x2 x3 x4 c->-4611686018427387904<=c-n->c<=4611686018427387904->CallsD zq 219 #[aN (aA ⟨t,0,aB⟩),ptr p] u W λe a w'=>a=u/\(e=aL (.tuple #[])/\Hl t W w'/\∃c',dK w' t x0 x1 x2 x3 x4 c'/\c-n<=c'/\c'<=c)
def IY {w0:zW}{n:Nat}{p:Option Nat}(h:EE w0 n p):nk t w0 n p:=λu W x0 x1 x2 x3 x4 c a b d e=>(NT h W x0 x1 x2 x3 x4 c a b d e).2 u
def qU.hl {D all n}(m:1<=k)(l:k<=32)(h:qU k w D us all n b)(f:Hl t w w'):qU k w' D us all n b:=by obtain⟨z,o,i,v,hs,j⟩:=h.new;obtain⟨a,e⟩:=f.cell _ _ _ _ _ _ _ j;obtain⟨u,lo,hi,r,t1,t2⟩:=h.tree;exact⟨h.deep,h.Wp,⟨z,o,i,v,a,e⟩,u,lo,hi,r,t1.hl m l f,t2⟩
def Hl.other (j:Hl t w w')(h:dK w t x0 x1 x2 x3 x4 c){y:Nat}{cs ty fr}(a:w.heap[y]? =aA (aI cs ty fr))(q:ty≠272)(m:ty≠168):w'.heap[y]? =w.heap[y]? :=by refine j.block y (zAb.1 a).1 (λe=> ?_) λz o i v g hs f=>fK.ne ⟨z,o,i,v,g,hs,f⟩ a q rfl;subst e;unfold dK at h;rw[a]at h;injection h with h;injection h with _ l;exact m l
def sW.hl {D ch}(y:1<=k)(r:k<=32)(h:sW k t D us ch w)(j:Hl t w w')(x:dK w t x0 x1 x2 x3 x4 c):sW k t D us ch w':=by
 obtain⟨q,F,cp,all,e,E,B,A,g4,g5,g6⟩:=h;have l:∀a,q=aA a->w'.heap[a.block]? =w.heap[a.block]? :=λa f=>by obtain⟨cur,s⟩:=g5 a f;exact j.other x s (by decide) (by decide)
 refine⟨q,F,cp,all,e,E,B,A,g4.kept j.size l,λa f=> ?_,λb u=> ?_⟩
 .rw[l a f];exact g5 a f
 .obtain⟨n,m⟩:=g6 b u;exact⟨n,m.hl y r j⟩
def sW.settle {D ch}(h:sW k t D us ch w):Go.settle (.panicking ch)= .panicking ch:=by obtain⟨q,a,cp,all,rfl,_⟩:=h;rfl
end
structure lL (k t b cap n:Nat)(C:zP)(cur:zA)(x1 x4 c:Int)(w:zW):Prop where
 iH:nI w
 iP:fJ w
 tr:dK w t (aC aD k) (aC aD x1) (aK ⟨(dg k [0]).toArray⟩) (aJ (aA ⟨b,0,aB⟩) n cap) (aC aD x4) c
 rL:w.heap[b]? =aA (aI cur 264 (0,0))
 cs:CS w C
section
variable {w w':zW}{t b k cap n:Nat}{x1 x4 c c':Int}{C C':zP}{cur:zA}{all:List (Nat×ByteArray)}
def nI.hl (h:nI w)(f:Hl t w w')(j:zq.globals.size<t)(l:t<w.heap.size):nI w':=h.kept λx a=>f.block x (by omega) (by omega) λz o i v g hs e=>(h x a).2.1 ⟨z,o,i,v,g,hs,e⟩
def nI.noCell (h:nI w){x}(a:x<=zq.globals.size):¬fK w x:=(h x a).2.1
def lL.hl (h:lL k t b cap n C cur x1 x4 c w)(a:Hl t w w')(f:zq.globals.size<t)(l:dK w' t (aC aD k) (aC aD x1) (aK ⟨(dg k [0]).toArray⟩) (aJ (aA ⟨b,0,aB⟩) n cap) (aC aD x4) c')(m:CS w' C'):lL k t b cap n C' cur x1 x4 c' w':=
 ⟨h.iH.hl a f h.tr.lt,h.iP.kept a.size λx e=>a.block x (by have:=h.tr.lt;omega) (by omega) λz o i v g hs j=>h.iH.noCell e ⟨z,o,i,v,g,hs,j⟩,l,(a.other h.tr h.rL (by decide) (by decide)).trans h.rL,m⟩
def lL.below {B:Nat}(h:lL k t b cap n C cur x1 x4 c w)(a:Below B w w')(e:w.heap.size<=B)(f:zq.globals.size<t):lL k t b cap n C cur x1 x4 c w':=
 h.hl (.below a e) f (h.tr.below a e) (h.cs.hl (t:=t) (.below a e))
def CS.Xe (h:CS w C)(e:MC all w w'):CS w' C:=λx f=>by obtain⟨z,o,i,v,g,hs,m,l,j⟩:=h x f;obtain⟨q,a⟩:=e.cell _ _ _ _ _ _ _ m;exact⟨z,o,i,v,q,hs,a,e.thaw _ l,j⟩
def lL.Xe (h:lL k t b cap n C cur x1 x4 c w)(j:MC all w w')(s:zq.globals.size<t)(a:∀x∈all,fK w x.1):lL k t b cap n C cur x1 x4 c w':=by have q:∀x,x<=zq.globals.size->w'.heap[x]? =w.heap[x]? :=λx r=>j.block x (by have:=h.tr.lt;omega) λy f e=>h.iH.noCell r (e▸a y f);have l:=j.block t h.tr.lt λy f e=>(a y f).ne h.tr (by decide) e;have m:=j.block b (zAb.1 h.rL).1 λy f e=>(a y f).ne h.rL (by decide) e;exact⟨h.iH.kept q,h.iP.kept j.size q,l.trans h.tr,m.trans h.rL,h.cs.Xe j⟩
def lL.dom (h:lL k t b cap n C cur x1 x4 c w)(k1:1<=k)(k2:k<=32)(FY:zq.globals.size<t)(RO:zq.globals.size<b)(a:∀x∈cur.toList,pK C x):sP k t (Ky t b C) w:=dh k1 k2 h.iH h.iP FY RO h.tr h.rL h.cs a
end
open Go Go.RowKit
def sX (S:zY->Prop)(w:zW)(v:zY):Prop:=∀g,v.ownBlock=aA g->∀cs e fr,w.heap[g]? =aA (aI cs e fr)->∀x∈cs.toList,S x
def sX.of {S w v g cs e fr}(d:v.ownBlock=aA g)(f:w.heap[g]? =aA (aI cs e fr))(h:∀x∈cs.toList,S x):sX S w v:=λl c k m j b=>by rw[d]at c;injection c with c;subst c;rw[f]at b;injection b with b;injection b with i;subst i;exact h
def sX.kept {S w w' v}(h:sX S w v)(c:∀g,v.ownBlock=aA g->w'.heap[g]? =w.heap[g]?):sX S w' v:=λg b cs e fr d=>h g b cs e fr (by rw[<-c g b];exact d)
def qR {S:zY->Prop}{z}(h:∀x∈z.toList,S x)(n):∀x∈(Builtin.zeroCells z n).toList,S x:=by
 intro x c;simp only[Builtin.zeroCells,zGb,Array.toList_range,zCh,zBs]at c;obtain⟨i,hi,rfl⟩:=c;have b:0<z.size:=by obtain b|b:=zFa z.size;{rw[b,Nat.mul_zero]at hi;omega};{exact b}
 have bX:=zFr i b;rw[zGe z _ bX];exact h _ (by simp)
section
variable {P:zZ}(w:zW)
def tN (S:zY->Prop)(base)(t ty e)(i:TypeInfo)(z)(size bytes)(R:P.underlying t=aA (.slice e))(hi:P.info? e=aA i)(X:i.zero=aA z)
  (y:i.size=size) (V:i.bytes=bytes) (M:z.cells.size=size) (Y:0<size) (N:∀x∈z.cells.toList,S x)
  (v) (n) (xs) (h:w.ownsRow base e size v n xs) (s:sX S w v)
  (a) (m c) (news) (hl:news.length=m*size) (p:∀j u,news[j]? =aA u->w.cell? (a.add j)=aA u) (h1:∀u∈news,u.oneCell'=aE) (F:∀u∈news,S u)
  (hm:0<m) (H:n+m<=maxLen) (r:(n+m)*bytes<=140737488355328) (C:base<=w.heap.size):
  ∃g cap I,(Builtin.append_ #[t,t] ty #[v,aJ (aA a) m c]).run P w= .ok (aJ (aA ⟨g,0,aB⟩) (n+m) cap) I/\I.ownsRow base e size (aJ (aA ⟨g,0,aB⟩) (n+m) cap) (n+m) (xs++news)/\w.grownBy I v.ownBlock/\
   (v.ownBlock=aA g\/g=w.heap.size)/\sX S I (aJ (aA ⟨g,0,aB⟩) (n+m) cap):=by
 subst y;subst V;have J:n+m<=9223372036854775807:=by simp only[maxLen]at H;omega
 have q:(xs++news).length=(n+m)*i.size:=by rw[zAg,h.1,hl,aHx]
 have O:∀x∈xs,S x:=by intro x b;obtain⟨_,h0⟩|⟨g,cap,cur,rfl,_,A,_,_,_,f⟩:=h.2;{have:=h.1;rw[h0,zFq]at this;rw[zDp this]at b;cases b};{rw[<-f]at b;exact s g rfl cur e (0,0) A x (zEf b)}
 have grown:∀(old:Nat),old<n+m->∀(row:Option Nat),
   (w.drew.alloc (aI (xs.toArray++news.toArray++Builtin.zeroCells z.cells (grownCap w (n+m) old e-(n+m))) e)).ownsRow base e i.size
    (aJ (aA ⟨w.heap.size,0,aB⟩) (n+m) (grownCap w (n+m) old e)) (n+m) (xs++news)/\
   w.grownBy (w.drew.alloc (aI (xs.toArray++news.toArray++Builtin.zeroCells z.cells (grownCap w (n+m) old e-(n+m))) e)) row/\
   sX S (w.drew.alloc (aI (xs.toArray++news.toArray++Builtin.zeroCells z.cells (grownCap w (n+m) old e-(n+m))) e)) (aJ (aA ⟨w.heap.size,0,aB⟩) (n+m) (grownCap w (n+m) old e)):=by
  intro old ho row
  have T:=grownCap_ge w (n+m) old e
  have B:=grownCap_le_maxLen w (n+m) old e H
  refine⟨⟨q,aH ⟨w.heap.size,_,_,rfl,C,zGw w.drew _,T,B,?_,?_⟩⟩,⟨rfl,rfl,rfl,by simp,λk L _=>(by first|exact heap_alloc_old w.drew _ k L|exact heap_alloc_old w.drew _ L)⟩,sX.of rfl (zGw w.drew _) ?_⟩
  .simp only[zEi,zAq,size_zeroCells,M,h.1,hl,<-aHx];congr 1;omega
  .simp only[zGd,zCf];rw[<-zCf,<-q];exact List.take_left
  .intro x b;simp only[zGd,zAh]at b;obtain(b|b)|b:=b
   .exact O x b
   .exact F x b
   .exact qR N _ x b
 obtain⟨rfl,rfl⟩|⟨g,cap,cur,rfl,W,A,Z,B,U,f⟩:=h.2
 .have b:=zDp (by simpa using h.1);subst b;have D:=run_append_nil w t ty e i z R hi X a m c news hl p (by omega) (by omega) (by have hb:=r;simp only[zAz]at hb;omega);have d:=grown 0 (by omega) (Value.ownBlock (aJ aB 0 0));simp only[zAz,zCe,zCa]at d⊢;exact⟨_,_,_,D,d.1,d.2.1,aH rfl,d.2.2⟩
 .by_cases l:n+m<=cap
  .have G:n*i.size+news.length<=cur.size:=by{rw[hl,U,<-aHx];exact zEq _ l};have D:=run_append_room w t ty e i R hi g n cap cur A a m c news hl p h1 l G;refine⟨_,_,_,D,⟨q,aH ⟨g,cap,_,rfl,W,setRow_heap w g cur _ e _ A,l,B,?_,?_⟩⟩,⟨rfl,rfl,rfl,by simp,λk _ L=>setRow_other w g k _ (λe=>L (by simp[Value.ownBlock,e]))⟩,aG rfl,sX.of rfl (setRow_heap w g cur _ e _ A) ?_⟩;{simp only[zAq,zAg,zBg,zCk,zCp];omega};{rw[f,<-q];exact List.take_left}
   .intro x b;simp only[zAh]at b;obtain(b|b)|b:=b
    .exact s g rfl cur e (0,0) A x (zEf b)
    .exact F x b
    .exact s g rfl cur e (0,0) A x (zEr b)
  .have holds:=h.cells rfl;have D:=run_append_grow w t ty e i z R hi X ⟨g,0,aB⟩ n cap xs h.1 holds a m c news hl p (by omega) (by omega) (growslice_fits (by omega) r);have d:=grown cap (by omega) (Value.ownBlock (aJ (aA ⟨g,0,aB⟩) n cap));exact⟨_,_,_,D,d.1,d.2.1,aH rfl,d.2.2⟩
def LH (s ty elem)(i:TypeInfo)(z)(g o n cap)(cur)(t)
  (d:P.underlying s=aA (.slice elem)) (hi:P.info? elem=aA i) (c:i.zero=aA z) (j:0<n)
  (e:w.heap[g]? =aA (aI cur t (0,0))) (h:o+n*z.cells.size<=cur.size) (f:∀v∈z.cells.toList,v.oneCell'=aE):
  (Builtin.clear_ #[s] ty #[aJ (aA ⟨g,o,aB⟩) n cap]).run P w=
   .ok (.tuple #[]) (w.setRow g (cur.toList.take o++(Builtin.zeroCells z.cells n).toList++cur.toList.drop (o+n*z.cells.size)).toArray):=by
 have b:=run_storeCells_at P g o t (Builtin.zeroCells z.cells n).toList 0 cur w e (by simpa [size_zeroCells]using h) (qR f n);obtain⟨m,rfl⟩:∃m,n=m+1:=⟨n-1,by omega⟩;simp[Builtin.clear_,run_underlying d,zeroValue,typeInfo,hi,c,b,size_zeroCells]
end
section
variable {P:zZ}{w:zW}{ops:zQ}{rest:List Oper}{o:Oper}{a:Act}{K:Act->zW->Prop}{Q:zX}{E:Prop}
def KX (s x)(t b)(e:o.op= .call {callee:= .builtin .append,args:= #[s,x],argTypes:= #[t,b]})(v u)(hs:a.eval s=v)(c:a.eval x=u){v' w'}
  (d:(Builtin.append_ #[t,b] o.type #[v,u]).run P w= .ok v' w') (h:K (a.put o.dst v') w'):o.wp P a w K Q:=by
 unfold Oper.wp execOp;simp only[e,resolve,invoke,builtin,Sem.run_bind,Sem.run_pure,zHe,zFm,zEa,List.map_nil,hs,c,d];exact h
def CO (s x)(t b)(e:o.op= .call {callee:= .builtin .copy,args:= #[s,x],argTypes:= #[t,b]})(v u)(hs:a.eval s=v)(c:a.eval x=u){v' w'}
  (d:(Builtin.copy_ #[t,b] o.type #[v,u]).run P w= .ok v' w') (h:K (a.put o.dst v') w'):o.wp P a w K Q:=by
 unfold Oper.wp execOp;simp only[e,resolve,invoke,builtin,Sem.run_bind,Sem.run_pure,zHe,zFm,zEa,List.map_nil,hs,c,d];exact h
def Mi (c:o.guard=aB)(s x:Operand)(t b:zD)(f:o.op= .call {callee:= .builtin .copy,args:= #[s,x],argTypes:= #[t,b]})(v u:zY)(hs:a.eval s=v)(d:a.eval x=u){v':zY}{w':zW}
  (e:(Builtin.copy_ #[t,b] o.type #[v,u]).run P w= .ok v' w') (h:wpList P ops Q rest (a.put o.dst v') w'):wpList P ops Q (o::rest) a w:=
 wpList_plain c λ_ g=>CO s x t b f v u hs d e (g _ _ h)
def jX (c:o.guard=aB)(s x)(t b)(g:o.op= .call {callee:= .builtin .append,args:= #[s,x],argTypes:= #[t,b]})(v u)(hs:a.eval s=v)(d:a.eval x=u){v' w'}
  (f:(Builtin.append_ #[t,b] o.type #[v,u]).run P w= .ok v' w') (h:K (a.put o.dst v') w'):if Region.wanted o (yielded ops a.tmps)=aE then Oper.wp P o a w K Q else E:=by
 have e:Region.wanted o (yielded ops a.tmps)=aE:=by simp[Region.wanted,c]
 rw[zAl e];exact KX s x t b g v u hs d f h
def Uc (c:o.guard=aB)(s x)(t b)(g:o.op= .call {callee:= .builtin .copy,args:= #[s,x],argTypes:= #[t,b]})(v u)(hs:a.eval s=v)(d:a.eval x=u){v' w'}
  (f:(Builtin.copy_ #[t,b] o.type #[v,u]).run P w= .ok v' w') (h:K (a.put o.dst v') w'):if Region.wanted o (yielded ops a.tmps)=aE then Oper.wp P o a w K Q else E:=by
 have e:Region.wanted o (yielded ops a.tmps)=aE:=by simp[Region.wanted,c]
 rw[zAl e];exact CO s x t b g v u hs d f h
end
def over (c:zV)(o:Nat)(a:zV):zV:=c.take o++a++c.drop (o+a.length)
def kO {c o news}(h:o+news.length<=c.length):(over c o news).length=c.length:=by unfold over;simp only[zAg,zBg,zCk];omega
def Ph {c o news}(h:o+news.length<=c.length){m}(a:m<=o):(over c o news).take m=c.take m:=by unfold over;rw[zCf,zDo (by rw[zBg];omega),List.take_take,aHy a]
def Jf {c o news}(h:o+news.length<=c.length){m}(a:m=o+news.length):(over c o news).take m=c.take o++news:=by unfold over;rw[zDo (by rw[zAg,zBg];omega),zBn (by rw[zAg,zBg];omega)]
def UT {c o news x}(h:x∈over c o news):x∈c\/x∈news:=by
 obtain h|h:=zAh.1 h
 .obtain h|h:=zAh.1 h
  .exact aG (zEf h)
  .exact aH h
 .exact aG (zEr h)
def UU {c xs zs p q m}(h:c.take m=xs)(i:p+q<=m)(j:m<=c.length)(f:zs.length=q):
  (over (over c p (xs.drop (p+q))) (m-q) zs).take (m-q)=xs.take p++xs.drop (p+q):=by
 have b:xs.length=m:=by rw[<-h,zBg];omega
 have a:p+(xs.drop (p+q)).length<=c.length:=by rw[zCk];omega
 have d:m-q+zs.length<=(over c p (xs.drop (p+q))).length:=by rw[kO a];omega
 rw[Ph d (zAa _),Jf a (by rw[zCk];omega)];congr 1;rw[<-h,List.take_take,aHy (by omega)]
def fA (S:zY->Prop)(w:zW)(base:Nat)(e:zD)(size:Nat)(v:zY)(n:Nat)(xs:zV):Prop:=w.ownsRow base e size v n xs/\sX S w v
section
variable {S:zY->Prop}{w w':zW}{base:Nat}{e:zD}{size:Nat}{v:zY}{n g cap:Nat}{xs:zV}
def fA.kept (h:fA S w base e size v n xs)(b:∀g,v.ownBlock=aA g->w'.heap[g]? =w.heap[g]?):fA S w' base e size v n xs:=by
 refine⟨?_,h.2.kept b⟩;obtain⟨⟨d,a⟩,_⟩:=h;refine⟨d,?_⟩;obtain a|⟨g,cap,cur,rfl,hb,c,r⟩:=a
 .exact aG a
 .exact aH ⟨g,cap,cur,rfl,hb,by rw[b g rfl];exact c,r⟩
def fA.lt (h:fA S w base e size v n xs):∀k,v.ownBlock=aA k->base<=k/\k<w.heap.size:=World.ownsRow.lt h.1
def fA.below {B:Nat}(h:fA S w base e size v n xs)(b:Below B w w')(c:w.heap.size<=B):fA S w' base e size v n xs:=
 h.kept λg a=>b.block g (zAc (h.lt g a).2 c)
def fA.alloc (h:fA S w base e size v n xs)(o):fA S (w.alloc o) base e size v n xs:=h.kept λg a=>by first|exact heap_alloc_old w o g (h.lt g a).2|exact heap_alloc_old w o (h.lt g a).2
def fA.row (h:fA S w base e size (aJ (aA ⟨g,0,aB⟩) n cap) n xs):
  ∃c:zA,w.heap[g]? =aA (aI c e (0,0))/\base<=g/\n<=cap/\cap<=maxLen/\c.size=cap*size/\c.toList.take (n*size)=xs/\∀x∈c.toList,S x:=by
 obtain⟨e,_⟩|⟨m,d,c,e,hb,b,k,j,i,f⟩:=h.1.2
 .cases e
 .injection e with a _ l;iterate 2 (injection a with a)
  subst a l;exact⟨c,b,hb,k,j,i,f,h.2 g rfl c _ _ b⟩
def fA.of (cur:zA)(hh:w.heap[g]? =aA (aI cur e (0,0)))(c:base<=g)(b:n<=cap)(f:cap<=maxLen)(a:cur.size=cap*size)(h:cur.toList.take (n*size)=xs)(d:∀x∈cur.toList,S x):
  fA S w base e size (aJ (aA ⟨g,0,aB⟩) n cap) n xs:=
 ⟨⟨by rw[<-h,zBg,zCp,a];exact aHy (zEq _ b),aH ⟨g,cap,cur,rfl,c,hh,b,f,a,h⟩⟩,sX.of rfl hh d⟩
end
def iW (w:zW)(g)(cs):w.grownBy (w.setRow g cs) (aA g):=⟨rfl,rfl,rfl,by simp,λk _ h=>setRow_other w g k _ (λe=>h (by rw[e]))⟩
def QU (w:zW)(row):w.grownBy w.drew row:=⟨rfl,rfl,rfl,zAa _,λ_ _ _=>rfl⟩
def QR {t z s b}(h:(zq.info? t).map (λi=>(i.zero,i.size,i.bytes))=aA (aA z,s,b)):∃i,zq.info? t=aA i/\i.zero=aA z/\i.size=s/\i.bytes=b:=by
 cases a:zq.info? t with
 |none=>rw[a]at h;cases h
 |some i=>rw[a]at h;simp only[zBh,aGC,aHc]at h;exact⟨i,rfl,h.1,h.2.1,h.2.2⟩
def Fs {S:zY->Prop}{ts e:zD}{it:TypeInfo}{z:zY}(d:zq.underlying ts=aA (.slice e))(ti:zq.info? e=aA it)(T:it.zero=aA z)(t:it.size=1)(r:z.cells.size=1)(D:∀x,S x->x.oneCell'=aE)(E:∀x∈(Value.cells z).toList,S x)(base g n cap i:Nat)(xs:zV)(w:zW)(O:fA S w base e 1 (aJ (aA ⟨g,0,aB⟩) n cap) n xs)(Z:n<=1000000)(hi:i<n):
  n<=cap/\cap<=maxLen/\∃W l,(∀ty,(Builtin.append_ #[ts,ts] ty #[aJ (aA ⟨g,0,aB⟩) i cap,aJ (if cap=i+1 then aA ⟨g,0,aB⟩else aA ⟨g,i+1,aB⟩) (n-(i+1)) (cap-(i+1))]).run zq w.drew= .ok (aJ (aA ⟨g,0,aB⟩) (n-1) cap) W)/\(∀ty,(Builtin.clear_ #[ts] ty #[aJ (aA ⟨g,n-1,aB⟩) 1 (cap-(n-1))]).run zq W= .ok (.tuple #[]) l)/\
   fA S l base e 1 (aJ (aA ⟨g,0,aB⟩) (n-1) cap) (n-1) (xs.take i++xs.drop (i+1))/\w.grownBy l (aA g):=by
 obtain⟨b,I,U,M,R,X,L,Q⟩:=O.row;have G:xs.length=n*1:=O.1.1;have k:b.toList.length=cap*1:=by rw[zCp,X]
 have A:∀x∈xs,S x:=λx f=>Q x (zEf (by rw[L];exact f));have K:(xs.drop ((i+1)*1)).length=(n-(i+1))*1:=by rw[zCk,G,<-Nat.sub_mul]
 have h:i*1+(xs.drop ((i+1)*1)).length<=b.toList.length:=by rw[K,k,<-aHx];exact zEq _ (by omega)
 obtain⟨W,y⟩:∃W,W=w.drew.setRow g (over b.toList (i*1) (xs.drop ((i+1)*1))).toArray:=⟨_,rfl⟩;have B:W.heap[g]? =aA (aI (over b.toList (i*1) (xs.drop ((i+1)*1))).toArray e (0,0)):=by rw[y];exact setRow_heap w.drew g b _ e _ I
 have H:∀ty,(Builtin.append_ #[ts,ts] ty #[aJ (aA ⟨g,0,aB⟩) i cap,aJ (if cap=i+1 then aA ⟨g,0,aB⟩else aA ⟨g,(i+1)*1,aB⟩) (n-(i+1)) (cap-(i+1))]).run zq w.drew= .ok (aJ (aA ⟨g,0,aB⟩) (i+(n-(i+1))) cap) W:=λty=>by
  rw[y];have:=λa c V=>run_append_room (P:=zq) w.drew ts ty e it d ti g i cap b I a (n-(i+1)) c (xs.drop ((i+1)*1)) (by rw[K,t]) V (λu d=>D u (A u (zEr d))) (by omega) (by rw[t,<-zCp];exact h);rw[t]at this;by_cases N:cap=i+1;{rw[zAl N];refine this _ _ λj u d=> ?_;have:=(zAp.1 d).1;rw[K,show n-(i+1)=0 by omega]at this;omega}
  .rw[zAj N];refine this _ _ λj u d=> ?_;rw[Addr.add_lit,zHf w.drew g _ b e (0,0) I,<-zBr];rw[zFw,<-L,zCo]at d;split at d
   .exact d
   .cases d
 obtain⟨l,v⟩:∃l,l=W.setRow g (over (over b.toList (i*1) (xs.drop ((i+1)*1))) (n*1-1) (Builtin.zeroCells (Value.cells z) 1).toList).toArray:=⟨_,rfl⟩;have s:(Builtin.zeroCells (Value.cells z) 1).toList.length=1:=by rw[zCp,size_zeroCells,r]
 have C:∀ty,(Builtin.clear_ #[ts] ty #[aJ (aA ⟨g,(n-1)*1,aB⟩) 1 (cap-(n-1))]).run zq W= .ok (.tuple #[]) l:=λty=>by
  have:=LH (P:=zq) W ts ty e it z g ((n-1)*1) 1 (cap-(n-1)) _ e d ti T (aHz _) B (by rw[r];show(n-1)*1+1*1<=(List.toArray _).size;rw[zAq,kO h,k];rw[<-aHx];exact zEq _ (by omega)) (λu d=>D u (E u d))
  rw[this,v];congr 2;show(List.take ((n-1)*1) _++_++_).toArray=_;unfold over;rw[show(n-1)*1=n*1-1 by omega,s,r]
 have o:fA S l base e 1 (aJ (aA ⟨g,0,aB⟩) (n-1) cap) (n-1) (xs.take (i*1)++xs.drop ((i+1)*1)):=by
  have F:n*1-1+(Builtin.zeroCells (Value.cells z) 1).toList.length<=(over b.toList (i*1) (xs.drop ((i+1)*1))).length:=by rw[kO h,k,s];have:=zEq 1 M;omega
  refine fA.of _ (by rw[v];exact setRow_heap W g _ _ e _ B) U (by omega) R ?_ ?_ ?_;{rw[zAq,kO F,kO h,k]};{have:=UU (c:=b.toList) (xs:=xs) (zs:=(Builtin.zeroCells (Value.cells z) 1).toList) (p:=i*1) (q:=1) (m:=n*1) L (by omega) (by rw[k];exact zEq _ M) s;rw[show(n-1)*1=n*1-1 by omega,show(i+1)*1=i*1+1 by omega];exact this}
  .intro x f;obtain f|f:=UT f
   .obtain f|f:=UT f
    .exact Q x f
    .exact A x (zEr f)
   .exact qR E 1 x f
 have J:w.grownBy l (aA g):=by rw[v,y];exact((QU w (aA g)).trans (iW _ _ _)).trans (iW _ _ _)
 have Y:i+(n-(i+1))=n-1:=by omega
 rw[Y]at H;simp only[zEv]at H C o;exact⟨M,R,W,l,H,C,o,J⟩
def Sb {S:zY->Prop}(c:∀x,S x->x.oneCell'=aE)(d:∀x∈(Value.cells (aK ⟨#[]⟩)).toList,S x)(base g n cap i:Nat)(xs:zV)(w:zW)(m:fA S w base 9 1 (aJ (aA ⟨g,0,aB⟩) n cap) n xs)(r:n<=1000000)(hi:i<n):
  Calls zq 65 #[aJ (aA ⟨g,0,aB⟩) n cap,aC aD i,aC aD ((i:Int)+1)] w λe k=>e=aL (aJ (aA ⟨g,0,aB⟩) (n-1) cap)/\fA S k base 9 1 (aJ (aA ⟨g,0,aB⟩) (n-1) cap) (n-1) (xs.take (i*1)++xs.drop ((i+1)*1))/\w.grownBy k (aA g):=by
 obtain⟨it,ti,l,a,j⟩:=QR (t:=9) (z:=(aK ⟨#[]⟩)) (s:=1) (b:=16) (by kernel_rfl);obtain⟨E,D,F,W,q,C,f,H⟩:=Fs ((Qz.eH 82).trans underlying82) ti l a rfl c d base g n cap i xs w m r hi;have p:Hid (fA S W base 9 1 (aJ (aA ⟨g,0,aB⟩) (n-1) cap) (n-1) (xs.take i++xs.drop (i+1))):=f;have o:Hid (w.grownBy W (aA g)):=H;clear f H;have i1:(i:Int)<(n:Int):=by omega
 have i2:(n:Int)<=(cap:Int):=by omega
 have i3:(cap:Int)<=9223372036854775807:=by simp only[maxLen]at D;omega
 have i4:(0:Int)<=(i:Int):=by omega
 have i5:n-(n-1)=1:=by omega
 have B:i<=cap:=by omega
 have v:i+1<=cap:=by omega
 have u:i+1<=n:=by omega
 have A:(0:Int)<=(i:Int)+1:=by omega
 have y:(i:Int)+1<=(n:Int):=by omega
 have i6:¬(cap=n-1):=by omega
 clear m c d l a j ti;simp only[zEv];go_enter (Qz.fn func65),ntmps65;go_wp2_with fail;go_region_law (refine jX rfl _ _ 82 82 rfl _ _ (by simp[Act.eval,Act.put]) (by simp[Act.eval,Act.put]) (q _) ?_);go_wp2
 .rename_i h;subst h;go_ret;exact⟨rfl,p.out,o.out⟩
 .go_ret;exact⟨rfl,p.out,o.out⟩
def Sc {S:zY->Prop}(c:∀x,S x->x.oneCell'=aE)(d:∀x∈(Value.cells (.pointer aB)).toList,S x)(base g n cap i:Nat)(xs:zV)(w:zW)(m:fA S w base 264 1 (aJ (aA ⟨g,0,aB⟩) n cap) n xs)(r:n<=1000000)(hi:i<n):
  Calls zq 220 #[aJ (aA ⟨g,0,aB⟩) n cap,aC aD i,aC aD ((i:Int)+1)] w λe k=>e=aL (aJ (aA ⟨g,0,aB⟩) (n-1) cap)/\fA S k base 264 1 (aJ (aA ⟨g,0,aB⟩) (n-1) cap) (n-1) (xs.take (i*1)++xs.drop ((i+1)*1))/\w.grownBy k (aA g):=by
 obtain⟨it,ti,l,a,j⟩:=QR (t:=264) (z:=(.pointer aB)) (s:=1) (b:=8) (by kernel_rfl);obtain⟨E,D,F,W,q,C,f,H⟩:=Fs ((Qz.eH 166).trans underlying166) ti l a rfl c d base g n cap i xs w m r hi;have p:Hid (fA S W base 264 1 (aJ (aA ⟨g,0,aB⟩) (n-1) cap) (n-1) (xs.take i++xs.drop (i+1))):=f;have o:Hid (w.grownBy W (aA g)):=H;clear f H;have i1:(i:Int)<(n:Int):=by omega
 have i2:(n:Int)<=(cap:Int):=by omega
 have i3:(cap:Int)<=9223372036854775807:=by simp only[maxLen]at D;omega
 have i4:(0:Int)<=(i:Int):=by omega
 have i5:n-(n-1)=1:=by omega
 have B:i<=cap:=by omega
 have v:i+1<=cap:=by omega
 have u:i+1<=n:=by omega
 have A:(0:Int)<=(i:Int)+1:=by omega
 have y:(i:Int)+1<=(n:Int):=by omega
 have i6:¬(cap=n-1):=by omega
 clear m c d l a j ti;simp only[zEv];go_enter (Qz.fn func220),ntmps220;go_wp2_with fail;go_region_law (refine jX rfl _ _ 166 166 rfl _ _ (by simp[Act.eval,Act.put]) (by simp[Act.eval,Act.put]) (q _) ?_);go_wp2
 .rename_i h;subst h;go_ret;exact⟨rfl,p.out,o.out⟩
 .go_ret;exact⟨rfl,p.out,o.out⟩
def kW (w:zW)(t b:Nat):zP:=λx=>x=t\/x=b\/fK w x
section
variable {w w1 w':zW}{t k room b cap n:Nat}{S:List (List bZ)}{C C':zP}{cur:zA}{x1 x4 c:Int}{p:Option Nat}{all:List (Nat×ByteArray)}{F:zP}
def eR.hl (h:Hl t w w'):eR (kW w t b) w w':=⟨h.os,h.tape,h.output,h.size,λx d a=>h.block x d (λe=>a (aG e)) λz o i v g f j=>a (aH (aH ⟨z,o,i,v,g,f,j⟩))⟩
def eR.Xe (h:MC all w w')(a:∀x∈all,fK w x.1):eR (kW w t b) w w':=⟨h.os,h.tape,h.output,h.size,λx f g=>h.block x f λy d e=>g (aH (aH (e▸a y d)))⟩
def eR.step {b'}(h:eR (kW w t b) w w1)(g:eR (kW w1 t b') w1 w')(d:b'=b\/w.heap.size<=b'):eR (kW w t b) w w':=h.then g λx a bX f e=>by
 obtain a|a|a:=a
 .exact f (aG a)
 .obtain d|d:=d
  .exact f (aH (aG (a.trans d)))
  .omega
 .exact f (aH (aH (a.same e.symm)))
def Pd {x}(h:pK C x):x.oneCell'=aE:=by obtain⟨p,rfl,_⟩:=h;cases p<;>rfl
def MY:∀x∈(Value.cells (.pointer aB)).toList,pK C x:=λx h=>by simp[Value.cells]at h;subst h;exact⟨aB,rfl,λb e=>by cases e⟩
def He (v:w.heap[b]? =aA (aI cur 264 (0,0)))(G:n<=cap)(g:cap<=maxLen)(D:cur.size=cap)(h:∀x∈cur.toList,pK C x)(hl:n<1000)(E:∀b,p=aA b->C b){vb}(B:w.heap[vb]? =aA (aI #[ptr p] 264 (0,0))):
  ∃f a W d,(∀ty,(Builtin.append_ #[166,166] ty #[aJ (aA ⟨b,0,aB⟩) n cap,aJ (aA ⟨vb,0,aB⟩) 1 1]).run zq w= .ok (aJ (aA ⟨f,0,aB⟩) (n+1) a) W)/\w.grownBy W (aA b)/\(f=b\/f=w.heap.size)/\
   W.heap[f]? =aA (aI d 264 (0,0))/\n+1<=a/\a<=maxLen/\d.size=a/\(∀x∈d.toList,pK C x)/\d.toList.take (n+1)=cur.toList.take n++[ptr p]:=by
 obtain⟨it,ti,A,i,l⟩:=UL;have y:fA (pK C) w b 264 1 (aJ (aA ⟨b,0,aB⟩) n cap) n (cur.toList.take n):=by have:=fA.of cur v (zAa _) G g (size:=1) (by omega) (by rw[zEv]) h;exact this
 have s:=(zAb.1 v).1;have H:=λty=>tN w (pK C) b 166 ty 264 it _ 1 8 ((Qz.eH 166).trans underlying166) ti A i l rfl (by omega) MY _ n _ y.1 y.2 ⟨vb,0,aB⟩ 1 1 [ptr p] rfl (λj u I=>by rw[addr_add,zAz,zHf w vb j _ 264 (0,0) B];simpa using I) (λu m=>by rw[zAn.1 m];cases p<;>rfl) (λu m=>by rw[zAn.1 m];exact⟨p,rfl,E⟩) (aHz _) (by simp only[maxLen];omega) (by omega) (by omega)
 obtain⟨f,a,W,M,L,r,q,J⟩:=H 0;have K:=r;have o:fA (pK C) W b 264 1 (aJ (aA ⟨f,0,aB⟩) (n+1) a) (n+1) (cur.toList.take n++[ptr p]):=⟨L,J⟩;obtain⟨d,Q,T,P,O,R,z,N⟩:=o.row;refine⟨f,a,W,d,λty=>M,K,?_,Q,P,O,by omega,N,by rw[zEv]at z;exact z⟩;obtain e|e:=q
 .exact aG (zAm e).symm
 .exact aH e
def YG (k:Nat)(w:zW)(cur:zA)(S:List (List bZ)):Prop:=∀(i:Nat) us,S[i]? =aA us->∃p,cur[i]? =aA (ptr p)/\eU k w p us 0
def QG {cur:zA}(a:∀x∈cur.toList,pK C x){i:Nat}{p}(h:cur[i]? =aA (ptr p)):∀b,p=aA b->C b:=λb g=>by
 obtain⟨d,e,f⟩:=a _ (by rw[zDw];exact zBi h);subst g;cases d with
 |none=>cases e
 |some j=>cases e;exact f _ rfl
def YG.hl (e:1<=k)(a:k<=32)(h:YG k w cur S)(d:Hl t w w'):YG k w' cur S:=λi us hi=>by obtain⟨p,g,f⟩:=h i us hi;exact⟨p,g,f.hl e a d⟩
def YG.kept (h:YG k w cur S)(f:CS w C)(a:∀x∈cur.toList,pK C x)(d:∀x,C x->w'.heap[x]? =w.heap[x]?):YG k w' cur S:=λi us hi=>by obtain⟨p,e,g⟩:=h i us hi;exact⟨p,e,g.kept f (QG a e) d⟩
def Nh {a us}(h:YG k w cur S)(hl:S.length<=cur.size)(g:a.toList.take (S.length+1)=cur.toList.take S.length++[ptr p])(l:eU k w p us 0):YG k w a (S++[us]):=λi u hi=>by
 have d:∀(j:Nat),j<S.length+1->a[j]? =(cur.toList.take S.length++[ptr p])[j]? :=λj o=>by rw[<-g,zCo,zAl (by omega),zBr]
 have f:(cur.toList.take S.length).length=S.length:=by rw[zBg,show cur.toList.length=cur.size from zCp ..];omega
 by_cases e:i<S.length
 .rw[zCn e]at hi;obtain⟨q,d1,m⟩:=h i u hi;refine⟨q,?_,m⟩;rw[d i (by omega),zCn (by omega),zCo,zAl e,zBr];exact d1
 .have bX:=(zAp.1 hi).1;rw[zAg]at bX;simp only[zFz]at bX;obtain rfl:i=S.length:=by{omega};rw[zBx (zAa _),zGf]at hi;simp only[zDe,aGC]at hi;subst hi;refine⟨p,?_,l⟩;rw[d _ (by omega),zBx (by omega),f,zGf];rfl
def dF.mem (h:dF w t k room b cap S):∃C cur R c,lL k t b cap S.length C cur (R:Nat) (rC S).length c w/\(∀x∈cur.toList,pK C x)/\YG k w cur S/\S.length<=cap/\cap<=maxLen/\cur.size=cap/\c+room<=R/\R<=1000000/\-(1000000*((R)-room))<=c:=by obtain⟨C,cur,c1,c2,c3,c4,c5,c6,a⟩:=h.row;obtain⟨R,c,d1,d,d3,d4⟩:=h.at';exact⟨C,cur,R,c,⟨h.iH,h.iP,d1,c1,c5⟩,c6,a,c2,c3,c4,d,d3,d4⟩
def lL.EO {R:Nat}(h:lL k t b cap S.length C cur (R:Nat) (rC S).length c w)(a:∀x∈cur.toList,pK C x)(f:YG k w cur S)(hl:S.length<=cap)(d:cap<=maxLen)(e:cur.size=cap)(g:c+room<=R)(d3:R<=1000000)(d4: -(1000000*((R:Int)-room))<=c)(k1:1<=k)(k2:k<=32)(FY:zq.globals.size<t)(RO:zq.globals.size<b)(st:∀us∈S,KV us/\us.length<=400)(len:S.length<=1000)(one:0<S.length):dF w t k room b cap S:=
 ⟨k1,k2,h.iH,h.iP,FY,RO,⟨R,c,h.tr,g,d3,d4⟩,⟨C,cur,h.rL,hl,d,e,h.cs,a,f⟩,st,len,one⟩
def lL.EG {b' cap' n' i W}(h:lL k t b cap n C cur x1 x4 c w)(D:zq.globals.size<t)(E:zq.globals.size<b)(j:w.grownBy W (aA b))(q:W.heap[b']? =aA (aI i 264 (0,0))):
  lL k t b' cap' n' C i x1 x4 c (W.setCell ⟨t,3,aB⟩ (aJ (aA ⟨b',0,aB⟩) n' cap'))/\(∀x,fK w x->(W.setCell ⟨t,3,aB⟩ (aJ (aA ⟨b',0,aB⟩) n' cap')).heap[x]? =w.heap[x]?)/\eR (kW w t b) w (W.setCell ⟨t,3,aB⟩ (aJ (aA ⟨b',0,aB⟩) n' cap')):=by
 have r:=h.tr.lt;have s:t≠b:=λe=>by have l:=h.rL;have A:=h.tr;rw[<-e,A]at l;injection l with l;injection l with _ z;revert z;decide
 have y:=(j.block t r (λe=>s (zAm e))).trans h.tr;have u:b'≠t:=λe=>by rw[e,y]at q;injection q with q;injection q with _ z;revert z;decide
 obtain⟨V,g⟩:∃V,V=W.setCell ⟨t,3,aB⟩ (aJ (aA ⟨b',0,aB⟩) n' cap'):=⟨_,rfl⟩;have m:V.heap.size=W.heap.size:=by rw[g];simp[World.setCell]
 have d:∀x,x<w.heap.size->x≠b->x≠t->V.heap[x]? =w.heap[x]? :=λx f l A=>by rw[g,zGq _ _ _ _ A];exact j.block x f (λe=>l (zAm e))
 have a:∀x,fK w x->V.heap[x]? =w.heap[x]? :=λx f=>d x f.lt (f.ne h.rL (by decide)) (f.ne h.tr (by decide));have o:∀x,x<=zq.globals.size->V.heap[x]? =w.heap[x]? :=λx f=>d x (by omega) (by omega) (by omega);have v:dK V t (aC aD k) (aC aD x1) (aK ⟨(dg k [0]).toArray⟩) (aJ (aA ⟨b',0,aB⟩) n' cap') (aC aD x4) c:=by rw[g];unfold dK at y⊢;rw[eN y 3];rfl
 rw[<-g];refine⟨⟨h.iH.kept o,h.iP.kept (by rw[m];exact j.size) o,v,by rw[g,zGq _ _ _ _ u];exact q,h.cs.kept λx f=>a x (h.cs.cell f)⟩,a,?_⟩;refine⟨?_,?_,?_,by rw[m];exact j.size,λx f B=>d x f (λe=>B (aH (aG e))) (λe=>B (aG e))⟩
 .rw[g];exact j.os
 .rw[g];exact j.tape
 .rw[g];exact j.output
def lL.sized (h:lL k t b cap n C cur x1 x4 c w)(y:zq.globals.size<t)(a):
  lL k t b cap n C cur x1 a c (w.setCell ⟨t,4,aB⟩ (aC aD a))/\(∀x,fK w x->(w.setCell ⟨t,4,aB⟩ (aC aD a)).heap[x]? =w.heap[x]?)/\eR (kW w t b) w (w.setCell ⟨t,4,aB⟩ (aC aD a)):=by
 have s:=h.tr.lt;have d:∀x,x≠t->(w.setCell ⟨t,4,aB⟩ (aC aD a)).heap[x]? =w.heap[x]? :=λx q=>zGq _ _ _ _ q;have g:(w.setCell ⟨t,4,aB⟩ (aC aD a)).heap.size=w.heap.size:=by simp[World.setCell]
 have f:∀x,fK w x->(w.setCell ⟨t,4,aB⟩ (aC aD a)).heap[x]? =w.heap[x]? :=λx j=>d x (j.ne h.tr (by decide));have i:∀x,x<=zq.globals.size->(w.setCell ⟨t,4,aB⟩ (aC aD a)).heap[x]? =w.heap[x]? :=λx j=>d x (by omega);have o:dK (w.setCell ⟨t,4,aB⟩ (aC aD a)) t (aC aD k) (aC aD x1) (aK ⟨(dg k [0]).toArray⟩) (aJ (aA ⟨b,0,aB⟩) n cap) (aC aD a) c:=by have r:=h.tr;unfold dK at r⊢;rw[eN r 4];rfl
 have m:b≠t:=λe=>by have l:=h.rL;have q:=h.tr;rw[e,q]at l;injection l with l;injection l with _ v;revert v;decide
 exact⟨⟨h.iH.kept i,h.iP.kept (by rw[g];exact zAa _) i,o,(d b m).trans h.rL,h.cs.kept λx j=>f x (h.cs.cell j)⟩,f,⟨rfl,rfl,rfl,by rw[g];exact zAa _,λx _ u=>d x λe=>u (aG e)⟩⟩
def JA (S)(us):rC (S++[us])=us:=by unfold rC;rw[List.getLast?_concat];rfl
def Bp (h:1<S.length):rC (S.drop 1)=rC S:=by unfold rC;rw[List.getLast?_drop,zAj (by omega)]
end
section
variable {w:zW}{t k room b cap:Nat}{S:List (List bZ)}
def Ci (h:dF w t k (room+1) b cap S)(hS:1<S.length):
  Calls zq 214 #[aN (aA ⟨t,0,aB⟩),aC aD 1] w λe o=>e=aL (.tuple #[])/\dF o t k room b cap (S.drop 1)/\eR (kW w t b) w o:=by
 obtain⟨C,a,R,c,l,f,z,g1,g2,g3,g4,g5,g6⟩:=h.mem;obtain⟨u,g⟩:∃us,S[0]? =aA us:=⟨_,zAe (by omega)⟩;obtain⟨p,s,hr⟩:=z 0 u g;have hp:=QG f s;have h1:=h.k1;have hk:=h.k2;have V:=h.FY;have hb:=h.RO;have hlen:=h.len;have D:=h.st;obtain⟨m,hm,E⟩:=hr.WL l.cs hp (zBq _);have T:=(h.st u (zCr g)).2;have qd:m<=102800:=by have:m<=257*u.length:=E;omega
 have O:Hid (Calls zq 219 #[aN (aA ⟨t,0,aB⟩),ptr p] w λe o=>e=aL (.tuple #[])/\∃c',lL k t b cap S.length C a R (rC S).length c' o/\YG k o a S/\eR (kW w t b) w o/\c-102800<=c'/\c'<=c):=
  (NT hm w _ _ _ _ _ c .refl l.tr (by omega) (by omega)).1.mono λe o ⟨e1,N,c',hT',l1,l2⟩=>⟨e1,c',l.hl N V hT' (l.cs.hl N),z.hl h1 hk N,.hl N,by omega,l2⟩
 have P:Hid (∀W c',lL k t b cap S.length C a R (rC S).length c' W->YG k W a S->eR (kW w t b) w W->c-102800<=c'->c'<=c->Calls zq 220 #[aJ (aA ⟨b,0,aB⟩) S.length cap,aC aD 0,aC aD 1] W λe M=>e=aL (aJ (aA ⟨b,0,aB⟩) (S.length-1) cap)/\(∃x,M.cell? ⟨t,3,aB⟩=aA x)/\M.frozen? ⟨t,3,aB⟩=aF/\dF (M.setCell ⟨t,3,aB⟩ (aJ (aA ⟨b,0,aB⟩) (S.length-1) cap)) t k room b cap (S.drop 1)/\eR (kW w t b) w (M.setCell ⟨t,3,aB⟩ (aJ (aA ⟨b,0,aB⟩) (S.length-1) cap))):=λW c' d hTW X l1 l2=>by
  have hO:fA (pK C) W b 264 1 (aJ (aA ⟨b,0,aB⟩) S.length cap) S.length (a.toList.take S.length):=by have:=fA.of (S:=pK C) (n:=S.length) a d.rL (zAa _) g1 g2 (size:=1) (by omega) (by rw[zEv]) f;exact this
  have K:=Sc (S:=pK C) (λx Q=>Pd Q) MY b b S.length cap 0 _ W hO (by omega) (by omega);refine K.mono ?_;rintro e M ⟨rfl,h2,h3⟩;obtain⟨j,e1,e2,e3,e4,e5,e6,e7⟩:=fA.row h2;obtain⟨hM1,y,B⟩:=d.EG (cap':=cap) (n':=S.length-1) V hb h3 e1;have U:t≠b:=h.tb;have F:=(h3.block t d.tr.lt (λe=>U (zAm e))).trans d.tr;have Y:(S.drop 1).length=S.length-1:=zCk ..;refine⟨rfl,⟨_,(aZ F 3).trans rfl⟩,dA F 3,lL.EO (R:=R) (C:=C) (cur:=j) (c:=c') (by rw[Y,Bp hS];exact hM1) e7 (λi r hi=> ?_) (by omega) g2 (by omega) (by omega) g5 (by omega) h1 hk V hb (λr T=>D r (zEr T)) (by omega) (by omega),X.step B (aG rfl)⟩;rw[zFw]at hi;have bX:=(zAp.1 hi).1;obtain⟨q,d1,d2⟩:=hTW (1+i) r hi;refine⟨q,?_,d2.kept d.cs (QG f d1) λx Q=>y x (d.cs.cell Q)⟩;have v:j[i]? =(j.toList.take ((S.length-1)*1))[i]? :=by{rw[zCo,zAl (by omega),zBr]};rw[v,e6];simp only[zFq,zEy,zCe,zEv,zAz];rw[zFw,zCo,zAl bX,zBr];exact d1
 have c3:w.cell? ⟨t,3,aB⟩=aA (aJ (aA ⟨b,0,aB⟩) S.length cap):=(aZ l.tr 3).trans rfl;have d1:w.cell? ⟨b,0,aB⟩=aA (ptr p):=by rw[aZ l.rL];exact s
 have H:Hid (∀W c',lL k t b cap S.length C a R (rC S).length c' W->W.cell? ⟨t,3,aB⟩=aA (aJ (aA ⟨b,0,aB⟩) S.length cap)):=λW c' d=>(aZ d.tr 3).trans rfl;obtain⟨vp,A⟩:∃vp,vp=ptr p:=⟨_,rfl⟩;rw[<-A]at O d1;obtain⟨S',I⟩:∃S',S'=S.drop 1:=⟨_,rfl⟩;rw[<-I]at P⊢;have fE:1<=cap:=by omega
 have Z:(1:Int)<=(cap:Int):=by omega
 have fj:=l.tr.lt;obtain⟨LU,J⟩:∃LU:Int,LU=((rC S).length:Int):=⟨_,rfl⟩;rw[<-J]at O P H;have HTS:Hid (YG k w a S):=z;clear hm E T g s hr hp A I l f h J D;generalize S.length=n at*;go_enter (Qz.fn func214),ntmps214;go_wp2_with fail;go_loopg [13] 1 (λq i wr=>(q=1/\i=aC aD 0/\wr=w)\/(q=0/\i=aC aD 1/\∃c',lL k t b cap n C a R LU c' wr/\YG k wr a S/\eR (kW w t b) w wr/\c-102800<=c'/\c'<=c));case atStart=>exact aG ⟨rfl,rfl,rfl⟩
 case round=>
  obtain⟨rfl,rfl,rfl⟩|⟨rfl,rfl,c',L,a2,a3,a4,a5⟩:=hrel
  .go_wp2_with fail;refine O.out.mono ?_;rintro e w1 ⟨rfl,c',L,a2,a3,a4,a5⟩;go_wp2;go_roundg 0;case measure=>omega
   case rel=>go_light;exact aH ⟨rfl,rfl,c',L,a2,a3,a4,a5⟩
  .have HC:=P.out wr c' L a2 a3 a4 a5;have t3:=H.out wr c' L;clear P L a2 a3 O H;go_wp2_with fail;refine HC.mono ?_;clear HC t3;rintro e w2 ⟨rfl,⟨x,t3⟩,f3,hE,G⟩;have HE:Hid (dF (w2.setCell ⟨t,3,aB⟩ (aJ (aA ⟨b,0,aB⟩) (n-1) cap)) t k room b cap S'):=hE;have HSv:Hid (eR (kW w t b) w (w2.setCell ⟨t,3,aB⟩ (aJ (aA ⟨b,0,aB⟩) (n-1) cap))):=G;clear hE G;go_wp2;go_end0;exact⟨rfl,HE.out,HSv.out⟩
def UH (h:dF w t k room b cap S){i:Nat}{us}(hi:S[i]? =aA us):
  Calls zq 217 #[aN (aA ⟨t,0,aB⟩),aC aD i] w (RF λx j=>x=aK ⟨(kX k (bG us) 0).toArray⟩/\zb w j):=by
 obtain⟨C,r,R,c,a,g,f,y,u,s,g4,g5,g6⟩:=h.mem;obtain⟨p,d,l⟩:=f i us hi;have H:=hid (wV ⟨a.tr.lt,(aZ a.tr 0).trans rfl,(aZ a.tr 2).trans rfl⟩ l);have c3:=(aZ a.tr 3).trans rfl;have d1:w.cell? ⟨b,i,aB⟩=aA (ptr p):=by rw[aZ a.rL];exact d
 have m:=(zAp.1 hi).1;have q:¬((i:Int)<0):=by omega
 have o:(i:Int)<(S.length:Int):=by omega
 generalize ptr p=v at*;generalize S.length=n at*;go_enter (Qz.fn func217),ntmps217;go_wp2_with fail;refine H.out.mono ?_;rintro e w1 ⟨rfl,rfl⟩;go_wp2;go_ret;exact .of ⟨rfl,zGn _ _⟩
end
def EH {W ops o a K Q E}(m:o.guard=aB)(s x)
  (A:o.op= .call {callee:= .builtin .append,args:= #[s,x],argTypes:= #[48,48]})
  (base) (v) (l) (hs:a.eval s=v) (d:cM W base v l) (u) (c) (z:a.eval x=aJ (aA ⟨W.heap.size,0,aB⟩) 1 c)
  (D:l.length<=1000000) (p:base<=W.heap.size)
  (h:∀g cap w',cM w' base (aJ (aA ⟨g,0,aB⟩) (l.length+1) cap) (l++[u])->W.grownBy w' v.ownBlock->K (a.put o.dst (aJ (aA ⟨g,0,aB⟩) (l.length+1) cap)) w'):if Region.wanted o (yielded ops a.tmps)=aE then Oper.wp zq o a (W.alloc (aI #[aK ⟨u.idx.toArray⟩,aK ⟨u.val.toArray⟩,.bool u.gone] 53)) K Q else E:=by
 obtain⟨i,hi,q,f,n⟩:=FV;refine step_append_lies _ m s x 48 A base 53 i _ 3 40 ((Qz.eH 48).trans underlying48) hi q f n rfl (by omega) v l.length (cK l) hs (World.ownsRow.alloc d _) ⟨W.heap.size,0,aB⟩ 1 c u.cells z rfl (λj y r=> ?_) (EV u) (by omega) (by simp only[maxLen];omega) (by omega) (by rw[size_alloc];omega) _ rfl (λg cap w' C B _ _=>h g cap w' ?_ (iV B))
 .have e:(⟨W.heap.size,0,aB⟩:Addr).add j=⟨W.heap.size,j,aB⟩:=by{unfold Addr.add;split<;>simp_all};rw[e];show(W.alloc (aI u.cells.toArray 53)).cell? _=_;rw[(bW.new W 53 u.cells.toArray).cell j];simpa using r
 .unfold cM;rw[vP,zAg];exact C
def Hp {us d}(h:Sub us d):bK d 0 us++bK d 1 us=us:=by obtain⟨m,_,a,e⟩:=h.cut;rw[<-a,<-e,zEc]
def vJ (w:zW)(p:Option Nat)(us:List bZ):Prop:=∀(l:List bZ)(v:zY)(W:zW)(base:Nat),zb w W->w.heap.size<=base->base<=W.heap.size->cM W base v l->l.length+us.length<=1000->
 Calls zq 218 #[ptr p,v] W λe c=>∃a,e=aL a/\cM c base a (l++us)/\Below base W c
section
variable {w:zW}{b:Nat}{z o:Option Nat}{i v g:zB}{hs:Int}{us ew rr:List bZ}{k d:Nat}{p:Option Nat}
def Kv (w):vJ w aB []:=by intro l v W base c a e h hl;have H:=hid h;go_enter (Qz.fn func218),ntmps218;go_wp2;go_ret;exact⟨v,rfl,by rw[zAy];exact H.out,zGn _ _⟩
def Kx {u}(h:aX w b aB aB u.idx u.val g hs)(y:u.gone=aF):vJ w (aA b) [u]:=by
 intro l v W base A G C B hl;obtain⟨r,q,E⟩:=u;subst y;have m:aX W b aB aB r q g hs:=⟨by rw[A.block b h.lt];exact h.at'⟩;have D:=hid (iU m);have x:Hid (cM W.drew base v l):=cM.kept B λ_ _=>rfl;have k2:=m.c2;have F:=m.c3;have f:l.length<=1000000:=by simp only[zFz]at hl;omega
 have c:=C;go_enter (Qz.fn func218),ntmps218;go_wp2_with fail;refine D.out.mono ?_;rintro e w1 ⟨rfl,rfl⟩;go_upto_region 4 with(fail)
 go_region_law (refine EH rfl _ _ rfl base _ _ (by simp[Act.eval,Act.put]) x.out ⟨r,q,aF⟩ 1 (by simp[Act.eval,Act.put]) f c ?_;intro I s w2 a j);all_goals
  have n:=hid (tE (eX (zGn _ w1.drew) x.out j (zAa _) c))
  have H:=hid a
  go_wp2
  go_ret
  exact⟨_,rfl,H.out,n.out⟩
def Kw (h:aX w b z o i v g hs)(y:(z.isNone&&o.isNone)=aF)(Q:vJ w z ew)(R:vJ w o rr):vJ w (aA b) (ew++rr):=by
 intro l L W base G s N T hl;rw[zAg]at hl;have F:aX W b z o i v g hs:=⟨by rw[G.block b h.lt];exact h.at'⟩;have V:Hid (Calls zq 227 #[ptr (aA b)] W λe r=>e=aL (.bool aF)/\r=W):=by have:=iU F;rw[y]at this;exact this
 have m:=zAc h.lt s;have O:Hid (Calls zq 218 #[ptr z,L] W.drew λe j=>∃c,e=aL c/\cM j base c (l++ew)/\Below base W j):=(Q l L W.drew base G.drew s N (cM.kept T λ_ _=>rfl) (by omega)).mono λe j ⟨c,K,J,I⟩=>⟨c,K,J,tE I⟩;have P:Hid (∀f c,Below base W f->cM f base c (l++ew)->Calls zq 218 #[ptr o,c] f λe j=>∃v2,e=aL v2/\cM j base v2 (l++(ew++rr))/\Below base W j):=λf c a E=>by have:=R (l++ew) c f base (G.trans (a.mono s)) s (zAv N a.size) E (by rw[zAg];omega);refine this.mono λe j ⟨v2,K,J,I⟩=>⟨v2,K,by rw[<-zCf];exact J,a.trans I⟩
 have M:=F.c0;have k1:=F.c1;have H:Hid (∀f,Below base W f->f.cell? ⟨b,0,aB⟩=aA (ptr z)/\f.cell? ⟨b,1,aB⟩=aA (ptr o)):=λf a=>⟨by rw[a.cell m];exact M,by rw[a.cell m];exact k1⟩;obtain⟨u,A⟩:∃u,u=ptr z:=⟨_,rfl⟩;obtain⟨x,B⟩:∃x,x=ptr o:=⟨_,rfl⟩;rw[<-A]at O M H;rw[<-B]at P k1 H;clear G F h T Q R A B y;go_enter (Qz.fn func218),ntmps218;go_wp2_with fail;refine V.out.mono ?_;rintro e w1 ⟨rfl,rfl⟩;go_upto_region 5 with(fail)
 go_region_held3 (λr=>r.cell? ⟨b,0,aB⟩=aA u/\r.cell? ⟨b,1,aB⟩=aA x) (go_keep) (first
  |(go_at_call 218;refine O.out.mono ?_;rintro e w2 ⟨c,rfl,D,q⟩;obtain⟨q0,Y⟩:=H.out w2 q;dsimp only)
  |(go_at_call 218;refine(P.out w2 c q D).mono ?_;rintro e w3 ⟨v2,rfl,C,n⟩;obtain⟨r0,r1⟩:=H.out w3 n;dsimp only))
 all_goals
  have U:=hid C
  have X:=hid n
  go_wp2
  go_ret
  exact⟨_,rfl,U.out,X.out⟩
def Ro (h:eU k w p us d):Sub us d->(∀u∈us,u.gone=aF)->vJ w p us:=by
 induction h with
 |nil d=>intro _ _;exact Kv w
 |leaf h=>intro _ a;exact Kx h (a _ (by simp))
 | @node b us d z o hs x s h q r f c=>
  intro l a;have e:=Hp l;have:=Kw h (by
   have hl:=nB us d;have m:=q.gO;have n:=r.gO;cases z with
   |some _=>rfl
   |none=>
    cases o with
    |some _=>rfl
    |none=>rw[m.1 rfl,n.1 rfl]at hl;simp at hl;omega) (f (l.half 0) λu j=>a u (zAx.1 j).1) (c (l.half 1) λu j=>a u (zAx.1 j).1)
  rw[e]at this;exact this
end
section
variable {w:zW}{t k room b cap:Nat}{S:List (List bZ)}
def XD (h:dF w t k room b cap S){i:Nat}{us}(hi:S[i]? =aA us):
  Calls zq 213 #[aN (aA ⟨t,0,aB⟩),aC aD i] w λe f=>∃v,e=aL v/\cM f w.heap.size v us/\zb w f:=by
 obtain⟨C,B,R,c,r,q,l,J,I,G,g4,g5,g6⟩:=h.mem;obtain⟨p,j,s⟩:=l i us hi;have a:=h.st us (zCr hi);have D:Hid (Calls zq 218 #[ptr p,aJ aB 0 0] w λe f=>∃m,e=aL m/\cM f w.heap.size m us/\zb w f):=Ro s a.1.sub a.1.here [] _ w w.heap.size (zGn _ _) (zAa _) (zAa _) (cM.nil _ _) (by have:=a.2;simp only[zBb];omega);have c3:=(aZ r.tr 3).trans rfl;have d1:w.cell? ⟨b,i,aB⟩=aA (ptr p):=by rw[aZ r.rL];exact j
 have x:=(zAp.1 hi).1;have A:¬((i:Int)<0):=by omega
 have y:(i:Int)<(S.length:Int):=by omega
 generalize ptr p=F at*;generalize S.length=n at*;go_enter (Qz.fn func213),ntmps213;go_wp2_with fail;refine D.out.mono ?_;rintro e w1 ⟨v,rfl,u,hb⟩;have H:=hid u;have E:=hid hb;go_wp2;go_ret;exact⟨v,rfl,H.out,E.out⟩
end
open Go
@[simp]theorem sc:zq.stoodInHeld 76=aF:=by kernel_rfl
@[simp]theorem xn:zq.eqGuardType zq.depth 76=aF:=by kernel_rfl
@[simp]theorem se:zq.stoodInHeld 53=aF:=by kernel_rfl
@[simp]theorem xo:zq.eqGuardType zq.depth 53=aF:=by kernel_rfl
def CK (w:zW)(v:zO)(S:zLL):Prop:=0<S.length->∃g o,v=aA ⟨g,o,aB⟩/\g<w.heap.size/\∀i x,S[i]? =aA x->w.cell? ⟨g,o+i,aB⟩=aA (aK ⟨x.toArray⟩)
def CK.below {w w' B v S}(h:CK w v S)(b:Below B w w')(f:w.heap.size<=B):CK w' v S:=λj=>by obtain⟨g,o,e,a,d⟩:=h j;refine⟨g,o,e,zAc a b.size,λi x c=> ?_⟩;rw[b.cell (p:=⟨g,o+i,aB⟩) (zAc a f)];exact d i x c
def Te (w:zW)(d:zY)(e:Int)(k:Nat)(l:List qW):Prop:=∀W,zb w W->Calls zq 21 #[d,aC aD e] W (RF λx a=>x= .tuple #[aK ⟨(kX k l 0).toArray⟩,aC aD 0]/\zb W a)
def Gi (w:zW)(d:zY)(e:Int)(k:Nat)(l:List qW):Prop:=∀W,zb w W->∀I:zB,I.length=32->Calls zq 24 #[d,aC aD e,aK ⟨I.toArray⟩] W (RF λx a=>x= .tuple #[aK ⟨(gG k (eF k I 256 l 0)).toArray⟩,aC aD 0]/\zb W a)
def PE (D:zB):∀S:zLL,(∀x∈S,x.length<=32)->(eI D S).length<=32*S.length
 |[],_=>zAa _
 |x::S,h=>by have i:=PE D S λy a=>h y (zBl _ a);have b:=h x (zBj ..);rw[eI,zAg,zAi];split;{simp only[zBb];omega};{omega}
def XE {k I p}(b:k<=32)(h:Gl k I p):(gG k p).length<=10000:=by
 have g:=PE (dg k [0]) p.bJ λx c=>by rw[h.iq x c];exact b
 have a:=tQ b (wG h);have f:(wT p).length<=100:=by
  unfold wT;split;{exact a.value}
  .split
   .rw[zAg];have:=a.other;have:=a.dI;omega
   .simp
 have e:(gG k p).length=3+(p.bJ.length+7)/8+(eI (dg k [0]) p.bJ).length+(wT p).length:=vC;have d:=h.depth;omega
def Ah (s)(d)(S n)(k)(w)(hT:fJ w)(O:1<=k)(i:k<=32)(L:∀k v,s k=aA v->v.length<=100)
  (hR:Te w d S k (bQ s)) (hP:Gi w d S k (bQ s)) (h1: -9223372036854775808<=n) (h2:n<=9223372036854775807):
  Calls zq 32 #[.agg (dM s),d,aC aD S,aC aD n] w (RF λx w'=>x= .bool aE/\zb w w'):=by
 have HT:=hid hT;have HR:=hid hR;have HP:=hid hP;obtain⟨m,hm,h⟩:=gN n 64 (by omega);have j:dY n 64=(m:Int):=hm;have z:idxOf n=ix m:=by rw[JE,j,zFh]
 have H:=λW=>oQ n 64 W h1 h2 (by omega) (by omega);rw[j]at H;have g:=λW=>pV n W h1 h2;rw[z]at g;have f:=Hc O i (rD m) (BD L);rw[Zv L m h]at f;have HS:=hid f;have Y:=hid g;have P:=hid (rD m);have X:=hid (XE i (SN i (rD m) (BD L)).1);have U:Hid ((kX k (bQ s) 0).length<=32):=by have:=dW k (gK k (256-0) (bQ s) 0) i;show(dg k _).length<=32;omega
 clear hT hR hP hm j z g f;have a:Hid (dM s=nE (λk=>(s k).isSome) (λk=>(s k).getD [])):=rfl;generalize dM s=R at*;go_enter (Qz.fn func32),ntmps32;go_wp2_with fail;refine(H _).mono ?_;rintro e w1 ⟨rfl,J⟩;subst J;have I:Hid (zb w (w.alloc (aI R 43))):=(zGn _ _).alloc (zAa _) _;have K1:Hid (bW (w.alloc (aI R 43)) w.heap.size 43 R):=bW.new _ _ _;generalize w.alloc (aI R 43)=w1 at*;go_wp2_with fail;refine(HR.out w1 I.out).mono ?_;rintro e w2 (⟨_,rfl,rfl,r⟩|⟨c,rfl,he⟩);rotate_left
 .exact⟨rfl,.told he⟩
 have B2:Hid (zb w w2):=I.out.trans (r.mono I.out.size);have T:Hid (bW w2 w.heap.size 43 R):=K1.out.below r K1.out.lt;clear r I K1;go_wp2_with fail;refine(Y.out w2).mono ?_;rintro e w3 ⟨rfl,q⟩;have F:Hid (zb w w3):=B2.out.trans (q.mono B2.out.size);have K3:Hid (bW w3 w.heap.size 43 R):=T.out.below q T.out.lt;clear q B2 T;go_wp2_with fail;refine(HP.out w3 F.out (ix m) P.out).mono ?_;rintro e w4 (⟨_,rfl,rfl,p⟩|⟨c,rfl,he⟩);rotate_left
 .exact⟨rfl,.told he⟩
 have Z:Hid (zb w w4):=F.out.trans (p.mono F.out.size);have K4:Hid (bW w4 w.heap.size 43 R):=K3.out.below p K3.out.lt;clear p F K3;go_wp2_with fail;refine(Y.out w4).mono ?_;rintro e w5 ⟨rfl,o⟩;have E:Hid (zb w w5):=Z.out.trans (o.mono Z.out.size);have K5:Hid (bW w5 w.heap.size 43 R):=K4.out.below o K4.out.lt;clear o Z K4;go_wp2_with fail;refine(DO ⟨(kX k (bQ s) 0).toArray⟩ ⟨(ix m).toArray⟩ ⟨(gG k (eF k (ix m) 256 (bQ s) 0)).toArray⟩ w5 (by have:=X.out;show _<=_;simp only[ByteArray.size,zAq];omega) (by have:=U.out;show _<=_;simp only[ByteArray.size,zAq];omega) (HT.out.below (E.out) (zAa _))).mono ?_;dsimp only;rw[HS.out];rintro e w6 ⟨l,rfl⟩;have B:Hid (zb w w6):=E.out.trans (l.mono E.out.size);have A:Hid (bW w6 w.heap.size 43 R):=K5.out.below l K5.out.lt;clear l E K5 HS HP HR Y H;generalize kX k (bQ s) 0=RT at*;generalize gG k (eF k (ix m) 256 (bQ s) 0)=PT at*;generalize ix m=IX at*;have hgv:w.heap.size<w6.heap.size:=A.out.lt;cases y:s m with
 |some V=>
  have Q:UB (aA V)=(1,V):=rfl;rw[Q];dsimp only[gV];go_upto_region 6 with(fail)
  have D:Hid (zb w ((w6.alloc (aI #[aC aD 1,aK ⟨V.toArray⟩] 76)).alloc (aI #[aC aD 2,aK ⟨#[]⟩] 76))):=(B.out.alloc B.out.size _).alloc (by rw[size_alloc];have:=B.out.size;omega) _;have K:Hid (bW ((w6.alloc (aI #[aC aD 1,aK ⟨V.toArray⟩] 76)).alloc (aI #[aC aD 2,aK ⟨#[]⟩] 76)) w.heap.size 43 R):=(A.out.alloc _).alloc _;have G:Hid (bW ((w6.alloc (aI #[aC aD 1,aK ⟨V.toArray⟩] 76)).alloc (aI #[aC aD 2,aK ⟨#[]⟩] 76)) w6.heap.size 76 #[aC aD 1,aK ⟨V.toArray⟩]):=(bW.new _ _ _).alloc _;have u:Hid (bW ((w6.alloc (aI #[aC aD 1,aK ⟨V.toArray⟩] 76)).alloc (aI #[aC aD 2,aK ⟨#[]⟩] 76)) (w6.heap.size+1) 76 #[aC aD 2,aK ⟨#[]⟩]):=by have:=bW.new (w6.alloc (aI #[aC aD 1,aK ⟨V.toArray⟩] 76)) 76 #[aC aD 2,aK ⟨#[]⟩];rw[size_alloc]at this;exact this
  generalize((w6.alloc (aI #[aC aD 1,aK ⟨V.toArray⟩] 76)).alloc (aI #[aC aD 2,aK ⟨#[]⟩] 76))=b at*;clear B A;have q0:b.cell? ⟨w.heap.size,m,aB⟩=aA (.bool (s m).isSome):=by{rw[K.out.cell,a.out];exact mH _ _ m h};have t:b.cell? ⟨w.heap.size,64+m,aB⟩=aA (aK ⟨((s m).getD []).toArray⟩):=by{rw[K.out.cell,a.out];exact mG _ _ m h};rw[y]at q0 t;dsimp only[aHA,aHB]at q0 t;have M:(m:Int)<64:=by{omega};have N:(0:Int)<=(m:Int):=by{omega};go_upto_region 8 with(refine zGr rfl 76 _ _ rfl (w6.heap.size+1) #[aC aD 1,aK ⟨V.toArray⟩] rfl rfl _ _ u.out (by kernel_rfl) rfl (by simp[Value.oneCell']) ?_)
  have B8:Hid (zb w (b.setRow (w6.heap.size+1) #[aC aD 1,aK ⟨V.toArray⟩])):=bU D.out (by omega) _;have G8:Hid (bW (b.setRow (w6.heap.size+1) #[aC aD 1,aK ⟨V.toArray⟩]) w6.heap.size 76 #[aC aD 1,aK ⟨V.toArray⟩]):=G.out.uS _ (by omega);have H8:Hid (bW (b.setRow (w6.heap.size+1) #[aC aD 1,aK ⟨V.toArray⟩]) (w6.heap.size+1) 76 #[aC aD 1,aK ⟨V.toArray⟩]):=u.out.dB _;generalize b.setRow (w6.heap.size+1) #[aC aD 1,aK ⟨V.toArray⟩]=C at*;clear D G u K q0 t;have p0:C.cell? ⟨w6.heap.size,0,aB⟩=aA (aC aD 1):=(G8.out.cell 0).trans rfl;have p1:C.cell? ⟨w6.heap.size,1,aB⟩=aA (aK ⟨V.toArray⟩):=(G8.out.cell 1).trans rfl;have p2:C.cell? ⟨w6.heap.size+1,0,aB⟩=aA (aC aD 1):=(H8.out.cell 0).trans rfl;have p3:C.cell? ⟨w6.heap.size+1,1,aB⟩=aA (aK ⟨V.toArray⟩):=(H8.out.cell 1).trans rfl;go_wp2;go_ret;exact .of ⟨by simp,B8.out⟩
 |none=>
  have Q:UB aB=(2,[]):=rfl;rw[Q];dsimp only[gV];go_upto_region 6 with(fail)
  have D:Hid (zb w ((w6.alloc (aI #[aC aD 2,aK ⟨#[]⟩] 76)).alloc (aI #[aC aD 2,aK ⟨#[]⟩] 76))):=(B.out.alloc B.out.size _).alloc (by rw[size_alloc];have:=B.out.size;omega) _;have K:Hid (bW ((w6.alloc (aI #[aC aD 2,aK ⟨#[]⟩] 76)).alloc (aI #[aC aD 2,aK ⟨#[]⟩] 76)) w.heap.size 43 R):=(A.out.alloc _).alloc _;have G:Hid (bW ((w6.alloc (aI #[aC aD 2,aK ⟨#[]⟩] 76)).alloc (aI #[aC aD 2,aK ⟨#[]⟩] 76)) w6.heap.size 76 #[aC aD 2,aK ⟨#[]⟩]):=(bW.new _ _ _).alloc _;have u:Hid (bW ((w6.alloc (aI #[aC aD 2,aK ⟨#[]⟩] 76)).alloc (aI #[aC aD 2,aK ⟨#[]⟩] 76)) (w6.heap.size+1) 76 #[aC aD 2,aK ⟨#[]⟩]):=by have:=bW.new (w6.alloc (aI #[aC aD 2,aK ⟨#[]⟩] 76)) 76 #[aC aD 2,aK ⟨#[]⟩];rw[size_alloc]at this;exact this
  generalize((w6.alloc (aI #[aC aD 2,aK ⟨#[]⟩] 76)).alloc (aI #[aC aD 2,aK ⟨#[]⟩] 76))=b at*;clear B A;have q0:b.cell? ⟨w.heap.size,m,aB⟩=aA (.bool (s m).isSome):=by{rw[K.out.cell,a.out];exact mH _ _ m h};have t:b.cell? ⟨w.heap.size,64+m,aB⟩=aA (aK ⟨((s m).getD []).toArray⟩):=by{rw[K.out.cell,a.out];exact mG _ _ m h};rw[y]at q0 t;dsimp only[aHA,aHB]at q0 t;have M:(m:Int)<64:=by{omega};have N:(0:Int)<=(m:Int):=by{omega};have p0:b.cell? ⟨w6.heap.size,0,aB⟩=aA (aC aD 2):=(G.out.cell 0).trans rfl;have p1:b.cell? ⟨w6.heap.size,1,aB⟩=aA (aK ⟨#[]⟩):=(G.out.cell 1).trans rfl;have p2:b.cell? ⟨w6.heap.size+1,0,aB⟩=aA (aC aD 2):=(u.out.cell 0).trans rfl;have p3:b.cell? ⟨w6.heap.size+1,1,aB⟩=aA (aK ⟨#[]⟩):=(u.out.cell 1).trans rfl;go_wp2;go_ret;exact .of ⟨by simp,D.out⟩
def wD (k d:Nat):zB:=[aHd k,aHd (d/256),aHd (d%256)]
def kG (D:zB)(k:Nat)(S:zLL)(X:zB):zB:=wD k S.length++(eC D S S.length++(eI D S++X))
def uO (w:zW)(base:Nat)(v:zY)(l:zB):Prop:=w.ownsRow base 5 1 v l.length (iN l).toList
def wrote (D:zB)(k:Nat)(S:zLL)(t:Nat):zB:=wD k S.length++(eC D S t++eI D (S.take t))
def Gp (D)(kd)(S)(t):(wrote D kd S t).length=3+(S.length+7)/8+(eI D (S.take t)).length:=by unfold wrote wD;simp only[zAg,eY,zAi,zBb];omega
def YT (D)(kd)(S)(t)(a:t<S.length)(h:S[t]=D):wrote D kd S (t+1)=wrote D kd S t:=by
 have b:S.getD t []=D:=by rw[zBe,zAe a];exact h
 unfold wrote;rw[eC,zAl b,zCc a,jA,h];simp[eI]
def YU (D)(kd)(S)(t)(a:t<S.length)(h:S[t]≠D):
  wrote D kd S (t+1)=(wrote D kd S t).set (3+t/8) (mS ((wrote D kd S t).getD (3+t/8) 0) (t%8))++S[t]:=by
 have c:¬S.getD t []=D:=by rw[zBe,zAe a];exact h
 have hl:=eY D S t;have d:(wrote D kd S t).getD (3+t/8) 0=(eC D S t).getD (t/8) 0:=by unfold wrote wD;rw[zBe,zBx (by simp),zCn (by simp;omega),zBe];simp
 rw[d];unfold wrote;rw[eC,zAj c,zCc a,jA];have e:∀b,(wD kd S.length++(eC D S t++eI D (S.take t))).set (3+t/8) b=wD kd S.length++((eC D S t).set (t/8) b++eI D (S.take t)):=λb=>by rw[List.set_append_right _ _ (by simp[wD]),List.set_append_left _ _ (by simp[wD];omega)];simp[wD]
 rw[e];simp[eI,h,zCf]
def Hf (D)(S:zLL)(t)(h:∀x∈S,x.length<=32):(eI D (S.take t)).length<=32*S.length:=by
 have c:=PE D (S.take t) λx a=>h x (zEf a);have b:(S.take t).length<=S.length:=by rw[zBg];omega
 have:=aHp 32 b;omega
def aj (x:UInt8)(r)(h:r<8):bits .or aP (x.toNat:Int) (128/2^r)=((mS x r).toNat:Int):=by
 have H:∀x:Fin 256,∀r:Fin 8,bits .or aP (x.val:Int) (128/2^r.val)=(((x.val|||128/2^r.val)%256:Nat):Int):=by decide+kernel
 have:=H ⟨x.toNat,x.toNat_lt⟩ ⟨r,h⟩;rw[mS,zCv];exact this
def uO.set {w base g n cap i l}(h:uO w base (aJ (aA ⟨g,0,aB⟩) n cap) l)(hi:i<l.length)(b:UInt8):uO (w.setCell ⟨g,i,aB⟩ (aC aP (b.toNat:Int))) base (aJ (aA ⟨g,0,aB⟩) n cap) (l.set i b):=by
 obtain⟨j,f⟩:=h;obtain⟨e,_⟩|⟨o,d,cur,e,hb,c,r1,r2,r3,r4⟩:=f
 .cases e
 .injection e with a m k;iterate 2 (injection a with a)
  subst a k;refine⟨by rw[zEk];simpa [iN]using j,aH ⟨g,cap,cur.setIfInBounds i (aC aP (b.toNat:Int)),by rw[zEk,m],hb,?_,by rw[zEk];exact r1,r2,by rw[zCq];exact r3,?_⟩⟩;{rw[setCell_eq_setRow w g i cur _ (0,0) _ c];exact setRow_heap w g cur _ _ _ c};{rw[<-AZ,zDx,zDx,<-r4,zEk,List.take_set]}
def uO.cell {w base g n cap i l}(h:uO w base (aJ (aA ⟨g,0,aB⟩) n cap) l)(hi:i<l.length):w.cell? ⟨g,i,aB⟩=aA (aC aP ((l.getD i 0).toNat:Int))/\w.frozen? ⟨g,i,aB⟩=aF/\base<=g/\g<w.heap.size/\l.length<=cap/\n=l.length:=by
 obtain⟨e,_⟩|⟨j,c,cur,e,hb,b,r1,r2,r3,r4⟩:=h.2
 .cases e
 .injection e with a f d;iterate 2 (injection a with a)
  subst a d;refine⟨?_,by simp[World.frozen?,b],hb,(zAb.1 b).1,r1,f⟩;rw[zHf w g i cur _ (0,0) b,<-BB l i hi,<-zBr,<-zBr,<-r4,zCo,zAl (by omega)]
def uO.form {w base v l}(h:uO w base v l)(hl:0<l.length):∃g cap,v=aJ (aA ⟨g,0,aB⟩) l.length cap:=by
 obtain⟨_,b⟩|⟨a,c,_,e,_⟩:=h.2
 .omega
 .exact⟨a,c,e⟩
def Uw {w:zW}{base g cap:Nat}{l:zB}(h:uO w base (aJ (aA ⟨g,0,aB⟩) l.length cap) l):(convert 50 9 (aJ (aA ⟨g,0,aB⟩) l.length cap)).run zq w= .ok (aK ⟨l.toArray⟩) w:=
 mE (P:=zq) w 50 9 5 g 0 cap l ((Qz.eH 50).trans underlying50) ((Qz.eH 5).trans underlying5) ((Qz.eH 9).trans underlying9) (λj a=>by rw[zAz];exact(h.cell a).1)
def CX (s):aHg ⟨s.toArray⟩=(iN s).toList:=by simp[aHg,iN]
def xG (l m):(iN (l++m)).toList=(iN l).toList++(iN m).toList:=by simp[iN]
def Gr (a:Nat)(D X)(va)(vc)(S)(w)(bh:a<=2)(hS:S.length<=256)(pe:∀x∈S,x.length<=32)(hX:X.length<=1000)(hD:D.length<=32)(kj:CK w va S):
  Calls zq 161 #[aC aD a,aJ va S.length vc,aK ⟨D.toArray⟩,aK ⟨X.toArray⟩] w λe w'=>e=aL (aK ⟨(kG D a S X).toArray⟩)/\zb w w':=by
 have gh:=hid kj;have Y:=hid pe;obtain⟨b,N⟩:∃b,(S.length+7)/8=b:=⟨_,rfl⟩;have R:=λW=>uM S.length W (by omega);rw[N]at R;have Fb:∀W,(Instr.makeSlice 50 (aC aD (3+(b:Int))) (aC aD (3+(b:Int)))).run zq W= .ok (aJ (aA ⟨W.heap.size,0,aB⟩) (3+b) (3+b)) (W.alloc (aI (AV (3+b)) 5)):=λW=>by have:=IU (3+b) (by omega) W;rw[show((3+b:Nat):Int)=3+(b:Int) by omega]at this;exact this
 go_enter (Qz.fn func161),ntmps161;go_wp2_with fail;refine(R w).mono ?_;rintro e w1 ⟨rfl,az⟩;obtain rfl:w=w1:=az.symm;go_upto_region 3 with(fail)
 have O2:Hid (uO (w.alloc (aI (AV (3+b)) 5)) w.heap.size (aJ (aA ⟨w.heap.size,0,aB⟩) (3+b) (3+b)) (List.replicate (3+b) 0)):=by refine⟨by simp[iN],aH ⟨w.heap.size,3+b,AV (3+b),by rw[zDj],zAa _,zGw w _,by rw[zDj];exact zAa _,by simp only[maxLen];omega,by simp[AV,iN],?_⟩⟩;rw[zDj,zEv];show List.take _ (iN (List.replicate (3+b) 0)).toList=_;rw[zBn (by simp[iN])]
 have B2:Hid (zb w (w.alloc (aI (AV (3+b)) 5))):=(zGn _ _).alloc (zAa _) _;generalize w.alloc (aI (AV (3+b)) 5)=w2 at*;have hz:∀i,i<3->w2.cell? ⟨w.heap.size,i,aB⟩=aA (aC aP 0)/\w2.frozen? ⟨w.heap.size,i,aB⟩=aF:=λi hi=>by have:=O2.out.cell (i:=i) (by rw[zDj];omega);refine⟨?_,this.2.1⟩;rw[this.1,zBe,zFv,zAl (by omega)];rfl
 obtain⟨z0,f0⟩:=hz 0 (by omega);obtain⟨z1,f1⟩:=hz 1 (by omega);obtain⟨z2,f2⟩:=hz 2 (by omega);have M:(0:Int)<3+(b:Int):=by omega
 have K:(1:Int)<3+(b:Int):=by omega
 have J:(2:Int)<3+(b:Int):=by omega
 clear hz Fb;go_upto_region 4 with(fail)
 have G:Hid (uO (((w2.setCell ⟨w.heap.size,0,aB⟩ (aC aP (a:Int))).setCell ⟨w.heap.size,1,aB⟩ (aC aP ((S.length:Int)/256))).setCell ⟨w.heap.size,2,aB⟩ (aC aP ((S.length:Int)%256))) w.heap.size (aJ (aA ⟨w.heap.size,0,aB⟩) (3+b) (3+b)) (wrote D a S 0)):=by
  have h1:=O2.out.set (i:=0) (by rw[zDj];omega) (aHd a);have h2:=h1.set (i:=1) (by rw[zEk,zDj];omega) (aHd (S.length/256));have h3:=h2.set (i:=2) (by rw[zEk,zEk,zDj];omega) (aHd (S.length%256));have e1:(((aHd a).toNat:Nat):Int)=(a:Int):=by{rw[zCv];omega};have e2:(((aHd (S.length/256)).toNat:Nat):Int)=(S.length:Int)/256:=by{rw[zCv];omega};have e3:(((aHd (S.length%256)).toNat:Nat):Int)=(S.length:Int)%256:=by rw[zCv];omega
  rw[e1,e2,e3]at h3;have e4:(((List.replicate (3+b) (0:UInt8)).set 0 (aHd a)).set 1 (aHd (S.length/256))).set 2 (aHd (S.length%256))=wrote D a S 0:=by rw[show 3+b=b+1+1+1 by omega,List.replicate_succ,List.replicate_succ,List.replicate_succ];unfold wrote wD;rw[zEy,eC,N];simp[eI]
  rw[e4]at h3;exact h3
 have B3:Hid (zb w (((w2.setCell ⟨w.heap.size,0,aB⟩ (aC aP (a:Int))).setCell ⟨w.heap.size,1,aB⟩ (aC aP ((S.length:Int)/256))).setCell ⟨w.heap.size,2,aB⟩ (aC aP ((S.length:Int)%256)))):=((B2.out.setCell (zAa _) _).setCell (zAa _) _).setCell (zAa _) _;generalize((w2.setCell ⟨w.heap.size,0,aB⟩ (aC aP (a:Int))).setCell ⟨w.heap.size,1,aB⟩ (aC aP ((S.length:Int)/256))).setCell ⟨w.heap.size,2,aB⟩ (aC aP ((S.length:Int)%256))=w3 at*;clear z0 z1 z2 f0 f1 f2 M K J O2 B2;have HW:Hid (kG D a S X=wrote D a S S.length++X):=by show _=_;unfold kG wrote;rw[zFl,zCf,zCf]
 have I:Hid (∀t,(wrote D a S t).length<=10000/\3+(S.length+7)/8<=(wrote D a S t).length):=λt=>by have h1:=Gp D a S t;have h2:=Hf D S t Y.out;omega
 have yn:Hid (∀t (ht:t<S.length),S[t]=D->wrote D a S (t+1)=wrote D a S t):=YT D a S;have HMK:Hid (∀t (ht:t<S.length),S[t]≠D->wrote D a S (t+1)=(wrote D a S t).set (3+t/8) (mS ((wrote D a S t).getD (3+t/8) 0) (t%8))++S[t]):=YU D a S;go_upto_region 5 with(fail)
 obtain⟨n,hn⟩:∃n,n=S.length:=⟨_,rfl⟩;go_loopg [10,34] S.length (λq x i wr=>∃t:Nat,t+q=S.length/\i=aC aD (t:Int)/\zb w wr/\uO wr w.heap.size x (wrote D a S t));case atStart=>exact⟨0,by omega,rfl,B3.out,G.out⟩
 case round=>
  obtain⟨t,ht,rfl,b1,o1⟩:=hrel
  have B1:=hid b1
  have A:=hid o1
  have Q:=b1.size
  clear b1 o1
  by_cases bX:t<S.length
  .have hu:=zAe (l:=S) (i:=t) bX;have E:=yn.out t bX;have C:=HMK.out t bX;have YO:=Y.out S[t] (zCt _);obtain⟨bg,hl2⟩:=I.out t;obtain⟨g,o,rfl,hg,j⟩:=gh.out.below B1.out (zAa _) (by omega);have q0:=j t S[t] hu;generalize S[t]=s at*;have Ug:¬((t:Int)<0):=by{omega};have Yd:(t:Int)<(S.length:Int):=by{omega};by_cases m:s=D
   .have Z:Hid (wrote D a S (t+1)=wrote D a S t):=E m;have T:(s==D)=aE:=by{rw[m];exact zEw _};clear E C j hu m;generalize wrote D a S t=L at*;go_wp2_with fail;go_roundg (S.length-(t+1));case measure=>omega
    case rel=>
     go_light
     exact⟨t+1,by omega,by go_num,B1.out,by rw[Z.out];exact A.out⟩
   .have Z:Hid (wrote D a S (t+1)=(wrote D a S t).set (3+t/8) (mS ((wrote D a S t).getD (3+t/8) 0) (t%8))++s):=C m;have T:(s==D)=aF:=zBy.2 m;clear E C j hu m;generalize wrote D a S t=L at*;have F:3+t/8<L.length:=by omega
    obtain⟨u,c,rfl⟩:∃u c,u10=aJ (aA ⟨u,0,aB⟩) L.length c:=by obtain⟨_,h0⟩|⟨g',v,_,e,_⟩:=A.out.2;{omega};{exact⟨g',v,e⟩}
    obtain⟨y0,y1,y2,y3,y4,_⟩:=A.out.cell F;have H:Hid (bits .or aP ((L.getD (3+t/8) 0).toNat:Int) (128/2^(t%8))=((mS (L.getD (3+t/8) 0) (t%8)).toNat:Int)):=aj _ _ (zFr _ (by omega));have hxr:=(L.getD (3+t/8) 0).toNat_lt;generalize L.getD (3+t/8) 0=B at*;obtain⟨r,hr⟩:∃r,t%8=r:=⟨_,rfl⟩;obtain⟨d,hd⟩:∃d,t/8=d:=⟨_,rfl⟩;have ht8:(t:Int)/8=(d:Int):=by{omega};have ht9:(t:Int)%8=(r:Int):=by{omega};have aCm:(t:Int).tdiv 8=(d:Int):=by{rw[Int.tdiv_eq_ediv_of_nonneg (by omega)];exact ht8};have aCl:(t:Int).tmod 8=(r:Int):=by{rw[aHi (by omega)];exact ht9};have hdi:(3:Int)+(d:Int)<(L.length:Int):=by{omega};have uo:r<8:=by{omega};rw[hd]at y0 y1 F Z;rw[hr]at H Z;clear hd hr;go_wp2_with fail;go_region;rw[H.out];have O4:Hid (uO (wr.setCell ⟨u,3+d,aB⟩ (aC aP ((mS B r).toNat:Int))).drew w.heap.size (aJ (aA ⟨u,0,aB⟩) L.length c) (L.set (3+d) (mS B r))):=A.out.set F (mS B r);have B4:Hid (zb w (wr.setCell ⟨u,3+d,aB⟩ (aC aP ((mS B r).toNat:Int))).drew):=fF (B1.out.setCell y2 _);generalize(wr.setCell ⟨u,3+d,aB⟩ (aC aP ((mS B r).toNat:Int))).drew=w4 at*;have z:w.heap.size<=w4.heap.size:=B4.out.size;clear y0 y1 H A B1 q0;obtain⟨ib,i1,i2,i3,i4⟩:=CH;have f:(⟨s.toArray⟩:ByteArray).size=s.length:=by show s.toArray.size=_;simp
    have U:(L.set (3+d) (mS B r)).length=L.length:=zEk ..;generalize L.set (3+d) (mS B r)=L2 at*;have O:=O4.out;unfold uO at O;rw[U]at O;go_wp2_with (at_builtin;refine aHh _ rfl _ _ 50 9 rfl w.heap.size 5 ib ((Qz.eH 50).trans underlying50) ((Qz.eH 9).trans underlying9) i1 i2 i3 i4 _ L.length _ rfl O ⟨s.toArray⟩ rfl (by rw[f];simp only[maxLen];omega) (by rw[f];omega) z ?_;intro v' w5 h p _);have HO:Hid (uO w5 w.heap.size v' (L2++s)):=by show w5.ownsRow _ _ _ _ _ _;rw[zAg,xG,U,<-f];rw[CX]at h;exact h
    have y:w4.grownBy w5 (aA u):=p;have B5:Hid (zb w w5):=B4.out.grown y z λk P=>by{injection P with P;omega};clear h p y O i1 i2 i3 i4;go_roundg (S.length-(t+1));case measure=>omega
    case rel=>
     go_light
     exact⟨t+1,by omega,by go_num,B5.out,by rw[Z.out];exact HO.out⟩
  .obtain rfl:t=S.length:=by omega
   have bg:=(I.out S.length).1;have hl3:=(I.out S.length).2;have bX:=bX;have V:=HW.out;generalize wrote D a S S.length=L at*;have HW3:=hid V;clear V;obtain⟨u,c,rfl⟩:∃u c,u10=aJ (aA ⟨u,0,aB⟩) L.length c:=by obtain⟨_,h0⟩|⟨g',v,_,e,_⟩:=A.out.2;{omega};{exact⟨g',v,e⟩}
   obtain⟨_,_,y2,y3,y4,_⟩:=A.out.cell (i:=0) (by omega);obtain⟨ib,i1,i2,i3,i4⟩:=CH;have f:(⟨X.toArray⟩:ByteArray).size=X.length:=by show X.toArray.size=_;simp
   have O:=A.out;unfold uO at O;go_wp2_with (first
    |(at_builtin;refine aHh _ rfl _ _ 50 9 rfl w.heap.size 5 ib ((Qz.eH 50).trans underlying50) ((Qz.eH 9).trans underlying9) i1 i2 i3 i4 _ L.length _ rfl O ⟨X.toArray⟩ rfl (by rw[f];simp only[maxLen];omega) (by rw[f];omega) Q ?_;intro v' w5 h p _;
      have HO:uO w5 w.heap.size v' (L++X):=(by show w5.ownsRow _ _ _ _ _ _;rw[zAg,xG,<-f];rw[CX]at h;exact h);
      obtain⟨gy,aEs,hvy⟩:=uO.form HO (by rw[zAg];omega);
      subst hvy;
      have Ye:=Uw HO;rw[zAg]at Ye;
      have B5:Hid (zb w w5):=B1.out.grown (show wr.grownBy w5 (aA u)from p) Q (λk P=>by injection P with P;omega);
      clear h p HO O i1 i2 i3 i4))
   go_ret;exact⟨by rw[HW3.out];simp,B5.out⟩
def Rt (k)(I)(T):gG k {AI k I []with bJ:=T}=kG (dg k [0]) 0 T []:=rfl
def Xc (k)(I)(e)(T)(h:e.1=I):gG k {AI k I [e]with bJ:=T}=kG (dg k [0]) 1 T e.2:=by rw[show AI k I [e]=⟨1,[],e.2,[],[]⟩from zAl h];rfl
def Xb (k)(I)(e)(T)(h:¬e.1=I):gG k {AI k I [e]with bJ:=T}=kG (dg k [0]) 2 T (e.1++dg k (4::e.2)):=by rw[show AI k I [e]=⟨2,[],[],e.1,dg k (4::e.2)⟩from zAj h];rfl
def jN (k:Nat)(I:zB)(us xs:List bZ)(d:Nat)(T:zLL):Prop:=eF k I 256 (bG us) 0={eF k I (256-d) (bG xs) d with bJ:=T++(eF k I (256-d) (bG xs) d).bJ}
def YD (k)(I)(us):jN k I us us 0 []:=rfl
def Mw (k)(I){xs d}(h:2<=xs.length)(c:d<256):eF k I (256-d) (bG xs) d={eF k I (256-(d+1)) (bG (bK d (bP I d) xs)) (d+1)with bJ:=gP k (bK d (1-bP I d) xs) (d+1)::(eF k I (256-(d+1)) (bG (bK d (bP I d) xs)) (d+1)).bJ}:=by
 rw[show 256-d=(256-(d+1))+1 by omega,fB];unfold gP kX;rw[fB];match xs,h with
 |a::b::xs,_=>rfl
def jN.step {k I us xs d T}(h:jN k I us xs d T)(c:2<=xs.length)(a:d<256):jN k I us (bK d (bP I d) xs) (d+1) (T++[gP k (bK d (1-bP I d) xs) (d+1)]):=by unfold jN at h⊢;rw[h,Mw k I c a];simp only[zCf,List.singleton_append]
def Mv (k)(I){xs}(f d)(h:xs.length<=1):eF k I f (bG xs) d=AI k I (bG xs):=by
 match xs,h with
 |[],_=>cases f<;>rfl
 |[a],_=>cases f<;>rfl
def Rs (k)(I)(l):(AI k I l).bJ=[]:=by
 match l with
 |[]=>rfl
 |e::l=>show(if e.1=I then(⟨1,[],e.2,[],[]⟩:PW)else⟨2,[],[],e.1,dg k (4::e.2)⟩).bJ=[];split<;>rfl
def jN.ends {k I us xs d T}(h:jN k I us xs d T)(a:xs.length<=1):eF k I 256 (bG us) 0={AI k I (bG xs)with bJ:=T}:=by rw[h,Mv k I _ _ a,Rs,zAy]
def Tg (w:zW)(base:Nat)(v:zY)(T:zLL):Prop:=Own w base 9 v T.length (T.map λx=>aK ⟨x.toArray⟩)
def Tg.strs {w base v T}(h:Tg w base v T):∃d c,v=aJ d T.length c/\CK w d T:=by
 by_cases j:0<T.length
 .obtain⟨g,cap,rfl⟩:=Own.form h j;refine⟨_,cap,rfl,λ_=>⟨g,0,rfl,(Own.base h).2.1,λi x f=> ?_⟩⟩;have hi:=(zAp.1 f).1;rw[zAz,Own.cell h i hi,zDr,f];rfl
 .obtain rfl:T=[]:=by
   cases T with
   |nil=>rfl
   |cons a T=>simp at j
  obtain⟨rfl,_⟩|⟨g,cap,cur,l,e,_⟩:=h.2;{exact⟨aB,0,rfl,λh=>absurd h (by simp)⟩};{exact⟨_,_,e,λh=>absurd h (by simp)⟩}
section
variable {w:zW}{t k room b cap:Nat}{S:List (List bZ)}
def Ja (h:dF w t k room b cap S){i:Nat}{us}(hi:S[i]? =aA us)(I)(hI:I.length=32):
  Calls zq 216 #[aN (aA ⟨t,0,aB⟩),aC aD i,aK ⟨I.toArray⟩] w (RF λx l=>x=aK ⟨(gG k (eF k I 256 (bG us) 0)).toArray⟩/\zb w l):=by
 obtain⟨C,cur,R,c,hM,vy,hTr,g1,g2,g3,g4,g5,g6⟩:=h.mem;obtain⟨p,fo,hr⟩:=hTr i us hi;have Ml:=h.k1;have U:=h.k2;have Qn:=h.st us (zCr hi);have HR:=hid hr;have HB:Hid (∀W (d:Nat),d<256->Calls zq 82 #[aK ⟨I.toArray⟩,aC aD d] W λe l=>e=aL (.bool (decide (bP I d=1)))/\l=W):=λW d hd=>(lE ⟨I.toArray⟩ d W (by show d/8<I.length;omega) (by show I.length<=_;omega) (by omega)).mono λe l h=>by simpa using h
 have bd:pC w t k:=⟨hM.tr.lt,(aZ hM.tr 0).trans rfl,(aZ hM.tr 2).trans rfl⟩;have nm:=hid bd;have yl:=hid hM.iP;have M:Hid (∀W x f d,zb w W->eU k w x f d->Calls zq 226 #[aN (aA ⟨t,0,aB⟩),ptr x] W λe l=>e=aL (aK ⟨(gP k f d).toArray⟩)/\l=W):=λW x f d P hx=>wV (bd.below P (zAa _)) (hx.hl Ml U (.below (t:=t) P (zAa _)));have A:Hid (∀W x f d,zb w W->eU k w x f d->Calls zq 225 #[ptr x] W λe l=>e=aL (.bool (decide (f.length<=1)))/\l=W):=λW x f d P hx=>(cY.done (hx.hl Ml U (.below (t:=t) P (zAa _))) (zAa 0)).ends;have F:Hid (∀(kd:Nat)(X:zB)(T:zLL) O c W,kd<=2->X.length<=1000->T.length<=256->(∀x∈T,x.length<=32)->CK W O T->Calls zq 161 #[aC aD kd,aJ O T.length c,aK ⟨(dg k [0]).toArray⟩,aK ⟨X.toArray⟩] W λe l=>e=aL (aK ⟨(kG (dg k [0]) kd T X).toArray⟩)/\zb W l):=λkd X T O c W h1 h2 h3 h4 h5=>
  Gr kd (dg k [0]) X O c T W h1 h3 h4 h2 (by have:=dW k [0] U;omega) h5
 have c3:=(aZ hM.tr 3).trans rfl;have d1:w.cell? ⟨b,i,aB⟩=aA (ptr p):=by rw[aZ hM.rL];exact fo
 have fq:=(zAp.1 hi).1;have Ug:¬((i:Int)<0):=by omega
 have Yd:(i:Int)<(S.length:Int):=by omega
 have gi:=hid Qn.1;have fj:=hM.tr.lt;obtain⟨WP,xd⟩:∃WP,WP=gG k (eF k I 256 (bG us) 0):=⟨_,rfl⟩;have yg:=hid xd;rw[<-xd];obtain⟨vp,ba⟩:∃vp,vp=ptr p:=⟨_,rfl⟩;have HVP:=hid ba;rw[<-ba]at d1;clear h hi hM vy hTr hr fo Qn bd xd ba;generalize S.length=n at*;go_enter (Qz.fn func216),ntmps216;go_wp2_with fail;go_loopg [7,8] 257 (λq x s wr=>∃(d:Nat)(p':Option Nat)(f:List bZ)(T:zLL),d+q=257/\d<=256/\x=ptr p'/\eU k w p' f d/\(∀u∈f,u∈us)/\T.length=d/\(∀y∈T,y.length<=32)/\Tg wr w.heap.size s T/\jN k I us f d T/\zb w wr);case atStart=>exact⟨0,p,us,[],rfl,by omega,HVP.out,HR.out,λ_ h=>h,rfl,λ_ h=>by simp at h,Own.nil _ _ _,YD k I us,zGn _ _⟩
 case round=>
  obtain⟨d,p',f,T,hd,hd2,rfl,r1,r2,r3,r4,r5,r6,r7⟩:=hrel
  subst r3
  have j:=hid r7
  have HA:=hid r6
  have HT:=hid r5
  have oa:=hid r4
  have ga:=hd2
  have Q:∀u∈f,u.idx.length=32/\u.val.length<=100:=λu hu=>⟨gi.out.sub.idx u (r2 u hu),gi.out.val u (r2 u hu)⟩
  have V:=A.out wr p' f T.length r7 r1
  have e2:=(nm.out.below j.out (zAa _)).emp
  have a:∀{b:Nat}{z o:Option Nat}{i v g:zB}{hs:Int},aX w b z o i v g hs->aX wr b z o i v g hs:=λhc=>⟨by rw[j.out.block _ hc.lt];exact hc.at'⟩
  clear r4 r5 r6 r7
  cases r1 with
  |nil=>
   have G:Hid (WP=kG (dg k [0]) 0 T []):=by rw[yg.out,HA.out.ends (by simp)];exact Rt k I T
   rw[zDf (by simp)]at V;obtain⟨O,cT,Z,hS⟩:=HT.out.strs;subst Z;have H:=F.out 0 [] T O cT wr (by omega) (by simp) ga oa.out hS;generalize kG (dg k [0]) 0 T []=WB at*;generalize T.length=nT at*;clear F A M HB hS HT HA;go_wp2_with fail;refine V.mono ?_;clear V;rintro e w2 ⟨rfl,rfl⟩;go_wp2_with fail;refine H.mono ?_;clear H;rintro e w3 ⟨rfl,E⟩;have B3:=hid (bD j.out E j.out.size);clear E e2;go_wp2;go_ret;exact .of ⟨by rw[G.out];rfl,B3.out⟩
  | @leaf b' u _ hs hc=>
   have hv:=(Q u (by simp)).2;have hix:=(Q u (by simp)).1;have m:=a hc;have k2:=m.c2;have k3:=m.c3;have Yf:=m.lt;rw[zDf (by simp)]at V;obtain⟨O,cT,Z,hS⟩:=HT.out.strs;subst Z;have gh:=hid hS;have kh:=zAc fj j.out.size;have e0:=(nm.out.below j.out (zAa _)).wid;by_cases r:u.idx=I
   .have G:Hid (WP=kG (dg k [0]) 1 T u.val):=by
     show WP=_;rw[yg.out,HA.out.ends (by simp)];exact Xc k I (u.idx,u.val) T r
    have lk:(u.idx==I)=aE:=by{rw[r];exact zEw _};have H:Hid (∀W,zb wr W->Calls zq 161 #[aC aD 1,aJ O T.length cT,aK ⟨(dg k [0]).toArray⟩,aK ⟨u.val.toArray⟩] W λe l=>e=aL (aK ⟨(kG (dg k [0]) 1 T u.val).toArray⟩)/\zb W l):=λW P=>F.out 1 u.val T O cT W (by omega) (by omega) ga oa.out (gh.out.below P (zAa _));rw[r]at k2;generalize kG (dg k [0]) 1 T u.val=WB at*;generalize T.length=nT at*;generalize u.val=uv at*;clear F A M HB hS HT HA gh hc m a Q r lk hix;go_wp2_with fail;refine V.mono ?_;clear V;rintro e w2 ⟨rfl,rfl⟩;go_upto_region 13 with(fail)
    go_quiet (fail);have J:Hid (zb w2 (w2.drewN nq)):=⟨rfl,rfl,rfl,zAa _,λ_ _=>rfl⟩;have e3:(w2.drewN nq).cell? ⟨t,2,aB⟩=aA (aK ⟨(dg k [0]).toArray⟩):=e2;generalize w2.drewN nq=wn at*;go_wp2_with fail;refine(H.out wn J.out).mono ?_;clear H;rintro e w3 ⟨rfl,E⟩;have B3:Hid (zb w w3):=bD (bD j.out J.out j.out.size).out E (zAv j.out.size J.out.size);clear E e2;go_wp2;go_ret;exact .of ⟨by rw[G.out];rfl,B3.out⟩
   .have G:Hid (WP=kG (dg k [0]) 2 T (u.idx++dg k (4::u.val))):=by
     show WP=_;rw[yg.out,HA.out.ends (by simp)];exact Xb k I (u.idx,u.val) T r
    have lk:(u.idx==I)=aF:=zBy.2 r;have hdv:=dW k (4::u.val) U;have H:Hid (∀W,zb wr W->Calls zq 161 #[aC aD 2,aJ O T.length cT,aK ⟨(dg k [0]).toArray⟩,aK ⟨(u.idx++dg k (4::u.val)).toArray⟩] W λe l=>e=aL (aK ⟨(kG (dg k [0]) 2 T (u.idx++dg k (4::u.val))).toArray⟩)/\zb W l):=λW P=>F.out 2 _ T O cT W (by omega) (by rw[zAg];omega) ga oa.out (gh.out.below P (zAa _));have HV:=quiet_of (w:=wr) λW P=>CJ k ⟨u.val.toArray⟩ W Ml U (by show u.val.toArray.size<=_;simp;omega) ((yl.out.below j.out (zAa _)).below P (zAa _));have yi:=hid HV.out;have q0:=eB k2 Yf;have q1:=eB k3 Yf;have q2:=eB e0 kh;generalize kG (dg k [0]) 2 T (u.idx++dg k (4::u.val))=WB at*;generalize T.length=nT at*;generalize dg k (4::u.val)=DV at*;clear F A M HB hS HT HA gh hc m a Q HV;generalize u.val=uv at*;generalize hui:u.idx=ui at*;clear hui;go_wp2_with fail;refine V.mono ?_;clear V;rintro e w2 ⟨rfl,rfl⟩;go_upto_region 10 with(fail)
    refine zHb (by kernel_rfl) (by kernel_rfl) ?_;(repeat (any_goals(first|go_big_quiet_step (exact yi.out _ _)|quiet_step (exact yi.out _ _))));refine zHj ?_;intro wn jz;obtain⟨q,hq⟩:=jz;have J:Hid (zb w2 wn):=by{rw[hq];exact zGu w2 q.d q.os};have e3:wn.cell? ⟨t,2,aB⟩=aA (aK ⟨(dg k [0]).toArray⟩):=by{rw[J.out.cell (p:=⟨t,2,aB⟩) kh];exact e2};clear hq yi q0 q1 q2;go_wp2_with fail;refine(H.out wn J.out).mono ?_;clear H;rintro e w3 ⟨rfl,E⟩;have B3:Hid (zb w w3):=bD (bD j.out J.out j.out.size).out E (zAv j.out.size J.out.size);clear E e2;go_wp2;go_ret;exact .of ⟨by rw[G.out];rfl,B3.out⟩
  | @node b' _ _ z o hs h2 qh hc hz ho=>
   rw[zBv (by omega)]at V;have m:=a hc;have k0:=m.c0;have k1:=m.c1;have bq:∀f:List bZ,(gP k f (T.length+1)).length<=32:=λf=>by{have:=AL (us:=f) (d:=T.length+1) U;omega};obtain⟨O,cT,Z,hS⟩:=HT.out.strs;subst Z;clear hS;obtain h0|h0:=jH I T.length
   .have yu:Hid (∀W,Calls zq 82 #[aK ⟨I.toArray⟩,aC aD (T.length:Int)] W λe l=>e=aL (.bool aF)/\l=W):=λW=>by
     have:=HB.out W T.length qh;rw[zBv (by omega)]at this;exact this
    have N:=HA.out.step h2 qh;rw[h0]at N;have dz:=hid N;have HN:Hid (∀W,zb w W->Calls zq 226 #[aN (aA ⟨t,0,aB⟩),ptr o] W λe l=>e=aL (aK ⟨(gP k (bK T.length 1 f) (T.length+1)).toArray⟩)/\l=W):=λW P=>M.out W o _ (T.length+1) P ho;have yk:=hid hz;have yo:Hid (∀u∈bK T.length 0 f,u∈us):=λu hu=>r2 u (zAx.1 hu).1;have vx:=bq (bK T.length 1 f);obtain⟨vz,K⟩:∃vz,vz=ptr z:=⟨_,rfl⟩;obtain⟨vo,L⟩:∃vo,vo=ptr o:=⟨_,rfl⟩;have yh:=hid K;rw[<-K]at k0;rw[<-L]at k1;rw[<-L]at HN;generalize gP k (bK T.length 1 f) (T.length+1)=DG at*;clear K L N HA HB M A F bq hc m a hz ho r2 Q HR h2 h0 e2;go_wp2_with fail;refine V.mono ?_;clear V;rintro e w2 ⟨rfl,rfl⟩;go_upto_region 4 with(fail)
    go_quiet (fail);have J:Hid (zb w (w2.drewN nq)):=⟨j.out.os,j.out.tape,j.out.output,j.out.size,j.out.block⟩;have O2:Hid (Own (w2.drewN nq) w.heap.size 9 (aJ O T.length cT) T.length (T.map λx=>aK ⟨x.toArray⟩)):=Own.kept HT.out λ_ _=>rfl;have vl:T.length+1<=1000000:=by omega
    generalize w2.drewN nq=wn at*;have lh:w.heap.size<=wn.heap.size:=J.out.size;go_wp2_with fail;refine(yu.out wn).mono ?_;rintro e w3 ⟨rfl,rfl⟩;go_wp2_with fail;refine(HN.out w3 J.out).mono ?_;rintro e w4 ⟨rfl,rfl⟩;go_wp2_with (first|(at_builtin;refine qB rfl _ _ rfl w.heap.size _ _ _ rfl O2.out [_] 1 rfl (by simp) (by simp[Value.oneCell']) vl lh ?_;intro v5 w5 D bk));have B5:Hid (zb w w5):=pY (B:=w.heap.size) J.out O2.out bk (zAa _) lh;have O5:Hid (Tg w5 w.heap.size v5 (T++[DG])):=by show Own _ _ _ _ _ _;rw[zAg,zDm];exact D
    have ec:Hid (∀y∈T++[DG],y.length<=32):=λy Y=>by obtain Y|Y:=zAh.1 Y;{exact oa.out y Y};{rw[zAn.1 Y];exact vx}
    clear D bk;go_roundg (257-(T.length+1));case measure=>omega
    case rel=>
     go_light
     exact⟨T.length+1,z,_,T++[DG],by omega,by omega,yh.out,yk.out,yo.out,by rw[zAg];rfl,ec.out,O5.out,dz.out,B5.out⟩
   .have yu:Hid (∀W,Calls zq 82 #[aK ⟨I.toArray⟩,aC aD (T.length:Int)] W λe l=>e=aL (.bool aE)/\l=W):=λW=>by
     have:=HB.out W T.length qh;rw[zDf h0]at this;exact this
    have N:=HA.out.step h2 qh;rw[h0]at N;have dz:=hid N;have HN:Hid (∀W,zb w W->Calls zq 226 #[aN (aA ⟨t,0,aB⟩),ptr z] W λe l=>e=aL (aK ⟨(gP k (bK T.length 0 f) (T.length+1)).toArray⟩)/\l=W):=λW P=>M.out W z _ (T.length+1) P hz;have yk:=hid ho;have yo:Hid (∀u∈bK T.length 1 f,u∈us):=λu hu=>r2 u (zAx.1 hu).1;have vx:=bq (bK T.length 0 f);obtain⟨vz,K⟩:∃vz,vz=ptr z:=⟨_,rfl⟩;obtain⟨vo,L⟩:∃vo,vo=ptr o:=⟨_,rfl⟩;have yh:=hid L;rw[<-K]at k0;rw[<-L]at k1;rw[<-K]at HN;generalize gP k (bK T.length 0 f) (T.length+1)=DG at*;clear K L N HA HB M A F bq hc m a hz ho r2 Q HR h2 h0 e2;go_wp2_with fail;refine V.mono ?_;clear V;rintro e w2 ⟨rfl,rfl⟩;go_upto_region 4 with(fail)
    go_quiet (fail);have J:Hid (zb w (w2.drewN nq)):=⟨j.out.os,j.out.tape,j.out.output,j.out.size,j.out.block⟩;have O2:Hid (Own (w2.drewN nq) w.heap.size 9 (aJ O T.length cT) T.length (T.map λx=>aK ⟨x.toArray⟩)):=Own.kept HT.out λ_ _=>rfl;have vl:T.length+1<=1000000:=by omega
    generalize w2.drewN nq=wn at*;have lh:w.heap.size<=wn.heap.size:=J.out.size;go_wp2_with fail;refine(yu.out wn).mono ?_;rintro e w3 ⟨rfl,rfl⟩;go_wp2_with fail;refine(HN.out w3 J.out).mono ?_;rintro e w4 ⟨rfl,rfl⟩;go_wp2_with (first|(at_builtin;refine qB rfl _ _ rfl w.heap.size _ _ _ rfl O2.out [_] 1 rfl (by simp) (by simp[Value.oneCell']) vl lh ?_;intro v5 w5 D bk));have B5:Hid (zb w w5):=pY (B:=w.heap.size) J.out O2.out bk (zAa _) lh;have O5:Hid (Tg w5 w.heap.size v5 (T++[DG])):=by show Own _ _ _ _ _ _;rw[zAg,zDm];exact D
    have ec:Hid (∀y∈T++[DG],y.length<=32):=λy Y=>by obtain Y|Y:=zAh.1 Y;{exact oa.out y Y};{rw[zAn.1 Y];exact vx}
    clear D bk;go_roundg (257-(T.length+1));case measure=>omega
    case rel=>
     go_light
     exact⟨T.length+1,o,_,T++[DG],by omega,by omega,yh.out,yk.out,yo.out,by rw[zAg];rfl,ec.out,O5.out,dz.out,B5.out⟩
end
def uE (e:qW):bZ:=⟨e.1,e.2,aF⟩
def OT (w:zW)(d:zY)(b:Int)(l:List qW):Prop:=∀W,zb w W->Calls zq 49 #[d,aC aD b] W λe a=>∃v,e=aL (.tuple #[v,aC aD 0])/\cM a W.heap.size v (l.map uE)/\zb W a
def kT (s:St)(k:Nat):Nat:=((List.range k).filterMap (dD s)).length
def Iw (s)(k):kT s (k+1)=kT s k+(if(s k).isSome then 1 else 0):=by
 unfold kT;rw[List.range_succ,zDs,zAg];congr 1;cases h:s k with
 |none=>simp[dD,h]
 |some v=>simp[dD,h]
def Vp (s)(k)(a:k<64)(v)(h:s k=aA v):(bQ s)[kT s k]? =aA (ix k,v)/\kT s k<(bQ s).length:=by
 have e:(bQ s)[kT s k]? =aA (ix k,v):=by unfold bQ;rw[range_split k a,zDs,zBx (show((List.range k).filterMap (dD s)).length<=kT s k from zAa _)];show(List.filterMap (dD s) _)[kT s k-kT s k]? =_;rw[zGf,zDz];simp[dD,h]
 exact⟨e,(zAp.1 e).1⟩
def IE (s):kT s 64=(bQ s).length:=rfl
def Eo (s):∀k,kT s k<=k:=λk=>by have:=zGj (dD s) (List.range k);rw[List.length_range]at this;exact this
def cM.len {w base v l}(h:cM w base v l):∃a c,v=aJ a l.length c/\(0<l.length->∃g,a=aA ⟨g,0,aB⟩/\base<=g/\g<w.heap.size):=by
 obtain⟨rfl,d⟩|⟨g,cap,cur,rfl,hb,b,_⟩:=h.2
 .exact⟨aB,0,by rw[d],λe=>by omega⟩
 .exact⟨_,cap,rfl,λ_=>⟨g,rfl,hb,(zAb.1 b).1⟩⟩
def cM.cellAt {w base g c l}(h:cM w base (aJ (aA ⟨g,0,aB⟩) l.length c) l)(i)(u)(a:l[i]? =aA u)(j)(b:j<3):w.cell? ⟨g,i*3+j,aB⟩=u.cells[j]? :=by have hi:=(zAp.1 a).1;rw[World.ownsRow.cellAt h (i*3+j) (by omega)];exact rK l i u a j b
def Jy (s)(d)(K)(w)(hE:OT w d K (bQ s)):
  Calls zq 31 #[.agg (dM s),d,aC aD K] w λe D=>e=aL (.bool aE)/\zb w D:=by
 have U:=hid hE;have m:Hid (dM s=nE (λk=>(s k).isSome) (λk=>(s k).getD [])):=rfl;have O:((bQ s).map uE).length<=64:=by rw[zDa,<-IE];exact Eo s 64
 have A:Hid (((bQ s).map uE).length=kT s 64):=by show _=_;rw[zDa,IE]
 have M:Hid (∀k v,k<64->s k=aA v->((bQ s).map uE)[kT s k]? =aA ⟨ix k,v,aF⟩/\kT s k<((bQ s).map uE).length):=λk v hk h=>by obtain⟨h1,h2⟩:=Vp s k hk v h;exact⟨by rw[zDr,h1];rfl,by rw[zDa];exact h2⟩
 have B:Hid (∀W,zb w W->Calls zq 49 #[d,aC aD K] W λe D=>∃v,e=aL (.tuple #[v,aC aD 0])/\cM D W.heap.size v ((bQ s).map uE)/\zb W D):=U.out;generalize(bQ s).map uE=L at*;clear U;generalize dM s=R at*;go_enter (Qz.fn func31),ntmps31;go_wp2_with fail;have F:Hid (zb w (w.alloc (aI R 43))):=(zGn _ _).alloc (zAa _) _;have K1:Hid (bW (w.alloc (aI R 43)) w.heap.size 43 R):=bW.new _ _ _;generalize w.alloc (aI R 43)=w1 at*;refine(B.out w1 F.out).mono ?_;rintro e w2 ⟨v,rfl,n,u⟩;have B2:=hid (F.out.trans (u.mono F.out.size));have T:=hid (K1.out.below u K1.out.lt);have S:=hid n;clear u F K1 n B;obtain⟨va,vc,rfl,r⟩:=S.out.len;go_upto_region 6 with(fail)
 go_loopg [9,10] 64 (λq a i wr=>∃t:Nat,t+q=64/\i=aC aD (t:Int)/\a=aC aD (kT s t:Nat)/\zb w wr/\zb w2 wr);case atStart=>exact⟨0,rfl,rfl,rfl,B2.out,zGn _ _⟩
 case round=>
  obtain⟨t,ht,rfl,rfl,Q,P⟩:=hrel
  have E:=hid Q
  have C:=hid P
  clear Q P
  by_cases bX:t<64
  .have K3:=hid (T.out.below C.out T.out.lt);have O3:=hid (S.out.below C.out (zAa _));have q0:wr.cell? ⟨w.heap.size,t,aB⟩=aA (.bool (s t).isSome):=by{rw[K3.out.cell,m.out];exact mH _ _ t bX};have Y:(t:Int)<64:=by{omega};have Z:(0:Int)<=(t:Int):=by{omega};have f:=Iw s t;cases l:s t with
   |none=>
    rw[l]at q0 f;dsimp only[aHA]at q0 f;have c:=f;have y:Hid (kT s (t+1)=kT s t):=c;clear f c;go_wp2_with fail;go_roundg (63-t);case measure=>omega
    case rel=>
     go_light
     exact⟨t+1,by omega,by go_num,by rw[y.out],E.out,C.out⟩
   |some V=>
    rw[l]at q0 f;dsimp only[aHA]at q0 f;have c:kT s (t+1)=kT s t+1:=f;have y:Hid (kT s (t+1)=kT s t+1):=c;obtain⟨ha,hb⟩:=M.out t V bX l;obtain⟨g,rfl,kx,vu⟩:=r (by omega);clear f c;have hrk:(kT s t:Int)<(L.length:Int):=by{omega};have hr0:(0:Int)<=(kT s t:Int):=by omega
    have HA:Hid (L[kT s t]? =aA ⟨ix t,V,aF⟩):=ha;have H:Hid (∀(b:Nat)(os:zJ)(j:Nat),j<3->(Go.Sort.grow (redrawn wr b) os).cell? ⟨g,kT s t*3+j,aB⟩=(⟨ix t,V,aF⟩:bZ).cells[j]?):=λb os j hj=>
     (O3.out.below (zGu wr b os) (zAa _)).cellAt _ _ HA.out j hj
    have o:Hid (∀(b:Nat)(os:zJ),(Go.Sort.grow (redrawn wr b) os).cell? ⟨w.heap.size,64+t,aB⟩=aA (aK ⟨V.toArray⟩)):=λb os=>by have:=K3.out.below (zGu wr b os) K3.out.lt;rw[this.cell,m.out,mG _ _ t bX,l];rfl
    have x:Hid (∀(b:Nat)(os:zJ),Calls zq 22 #[aC aD (t:Int)] (Go.Sort.grow (redrawn wr b) os) λe G=>e=aL (aK ⟨(ix t).toArray⟩)/\∃p:Regrown,G=Go.Sort.grow (redrawn wr p.d) p.os):=λb os=>
     zHi (pV (t:Int) (Go.Sort.grow (redrawn wr b) os) (by omega) (by omega))
    have cv:=o.out;have c0:∀(b:Nat)(os:zJ),(Go.Sort.grow (redrawn wr b) os).cell? ⟨g,kT s t*3,aB⟩=aA (aK ⟨(ix t).toArray⟩):=λb os=>H.out b os 0 (by omega);have c1:∀(b:Nat)(os:zJ),(Go.Sort.grow (redrawn wr b) os).cell? ⟨g,kT s t*3+1,aB⟩=aA (aK ⟨V.toArray⟩):=λb os=>H.out b os 1 (by omega);have c2:∀(b:Nat)(os:zJ),(Go.Sort.grow (redrawn wr b) os).cell? ⟨g,kT s t*3+2,aB⟩=aA (.bool aF):=λb os=>H.out b os 2 (by omega);generalize ix t=IX at*;generalize kT s t=X at*;go_wp2_with fail;refine zHb (by kernel_rfl) (by kernel_rfl) ?_;(repeat (any_goals(first|go_big_quiet_step ((exact x.out _ _))|quiet_step ((exact x.out _ _)))));have J:decide (L.length<=X)=aF:=by{rw[zEg];omega};rw[J];refine zHj ?_;intro W1 I;obtain⟨p,N⟩:=I;have z:Hid (zb wr W1):=by{rw[N];exact zGu wr p.d p.os};clear N x c0 c1 c2 cv H o;go_wp2_with fail;go_roundg (63-t);case measure=>omega
    case rel=>
     go_light
     exact⟨t+1,by omega,by go_num,by rw[y.out];go_num,E.out.trans (z.out.mono E.out.size),C.out.trans (z.out.mono C.out.size)⟩
  .obtain rfl:t=64:=by{omega};have hq:(kT s 64:Int)=(L.length:Int):=by{rw[A.out]};rw[hq];go_wp2_with fail;go_ret;exact⟨by simp,E.out⟩
def reaches {name f}(h:(zq.info? 146).bind (λi=>(i.methods.find? (·.name==name)).map λm=>(m.path,m.func))=aA (#[],aA (f,aE)))(a)(w):
  (method (zq.types.size+100) 146 (.pointer a) name).run zq w= .ok (f,.pointer a) w:=by
 cases hi:zq.info? 146 with
 |none=>rw[hi]at h;cases h
 |some i=>
  rw[hi]at h;simp only[zCz]at h;cases hm:i.methods.find? (·.name==name)with
  |none=>rw[hm]at h;cases h
  |some m=>rw[hm]at h;simp only[zBh,aGC,aHc]at h;rw[show zq.types.size+100=(zq.types.size+99)+1 from rfl];have c:=run_underlying ((Qz.eH 146).trans underlying146);have b:(typeInfo 146).run zq w= .ok i w:=by{simp[typeInfo,hi]};unfold method;simp only[Sem.run_bind,b,zHe,hm,h.1,h.2];simp[follow,receiverAt,c,Place.get]
def gW (S:zLL):zV:=S.map λx=>aK ⟨x.toArray⟩
def YH (x:zY):Prop:=∃s,x=aK s
structure dO (w:zW)(d k win first hb fE t room b cap:Nat)(S:List (List bZ)):Prop where
 EO:dF w t k room b cap S
 Lb:zq.globals.size<d
 qM:zq.globals.size<hb
 at':w.heap[d]? =aA (aI #[aC aD k,aC aD win,aC aD first,aJ (aA ⟨hb,0,aB⟩) S.length fE,.iface 146 (aN (aA ⟨t,0,aB⟩))] 86 (0,0))
 gJ:∃H:zLL,H.length=S.length/\(∀h∈H,h.length<=32)/\fA YH w hb 9 1 (aJ (aA ⟨hb,0,aB⟩) S.length fE) S.length (gW H)
 f1:first<=1000000
section
variable {w w':zW}{d k win first hb fE t room b cap:Nat}{S:List (List bZ)}
def dO.lt (h:dO w d k win first hb fE t room b cap S):d<w.heap.size:=(zAb.1 h.at').1
def dO.cell (h:dO w d k win first hb fE t room b cap S)(i):w.cell? ⟨d,i,aB⟩=(#[aC aD k,aC aD win,aC aD first,aJ (aA ⟨hb,0,aB⟩) S.length fE,.iface 146 (aN (aA ⟨t,0,aB⟩))]:zA)[i]? :=zHf w d i _ _ (0,0) h.at'
def dO.below {B}(h:dO w d k win first hb fE t room b cap S)(a:Below B w w')(c:w.heap.size<=B):dO w' d k win first hb fE t room b cap S:=by obtain⟨H,g,f,e⟩:=h.gJ;exact⟨h.EO.below a c,h.Lb,h.qM,by rw[a.block d (zAc h.lt c)];exact h.at',⟨H,g,f,e.below a c⟩,h.f1⟩
def VX (h:dO w d k win first hb fE t room b cap S):
  Calls zq 23 #[aN (aA ⟨d,0,aB⟩)] w λe w'=>e=aL (.tuple #[aC aD first,aC aD ((first)+(S.length:Int)-1)])/\zb w w':=by
 have g:=eB ((h.cell 2).trans (rfl:_=aA (Value.int aD first))) h.lt;have f:=eB ((h.cell 3).trans (rfl:_=aA (Value.slice (aA ⟨hb,0,aB⟩) S.length fE))) h.lt;have i:=h.f1;have hl:=h.EO.len;generalize S.length=n at*;go_enter (Qz.fn func23),ntmps23;go_upto_region 1 with(fail)
 refine zHb (by kernel_rfl) (by kernel_rfl) ?_;repeat (any_goals(first|go_big_quiet_step (fail)|quiet_step (fail)))
 refine zHj ?_;intro W a;obtain⟨q,c⟩:=a;have hb:Hid (zb w W):=by rw[c];exact zGu w q.d q.os
 go_wp2;go_ret2;exact⟨rfl,hb.out⟩
def BT (h:dO w d k win first hb fE t room b cap S){i}(hi:i<S.length):
  Calls zq 36 #[aN (aA ⟨d,0,aB⟩),aC aD ((first)+(i))] w λe w'=>e=aL (.bool aE)/\zb w w':=by
 have H:=VX h;have c:(first:Int)<=(first:Int)+(i:Int):=by omega
 have a:(first:Int)+(i:Int)<=(first:Int)+(S.length:Int)-1:=by omega
 generalize(first:Int)+(S.length:Int)-1=l at*;generalize(first:Int)+(i:Int)=f at*;go_enter (Qz.fn func36),ntmps36;go_wp2_with fail;refine H.mono ?_;rintro e w2 ⟨rfl,hb⟩;have B:=hid hb;go_wp2;go_ret;exact⟨by simp[c,a],B.out⟩
def JW (h:dO w d k win first hb fE t room b cap S){i:Nat}{us}(hi:S[i]? =aA us):
  Calls zq 49 #[aN (aA ⟨d,0,aB⟩),aC aD ((first)+(i))] w λe w'=>∃v,e=aL (.tuple #[v,aC aD 0])/\cM w' w.heap.size v us/\zb w w':=by
 have m:=(zAp.1 hi).1;have H:=BT h m;have x:=hid h;have D:=h.f1;have hl:=h.EO.len;have u:=hid hi;have C:∀W,(method (zq.types.size+100) 146 (aN (aA ⟨t,0,aB⟩)) "Entries").run zq W= .ok (213,aN (aA ⟨t,0,aB⟩)) W:=λW=>reaches (by kernel_rfl) _ W;have p:IntKind.i64.wrap (i:Int)=(i:Int):=by rw[zGs];omega
 have n:(first:Int)+(i:Int)-(first:Int)=(i:Int):=by omega
 go_enter (Qz.fn func49),ntmps49;go_wp2_with fail;refine H.mono ?_;rintro e w2 ⟨rfl,j⟩;have A:=hid j;have E:=hid (x.out.below j (zAa _));have o:=E.out.cell 2;have q:=E.out.cell 4;have y:Hid (dF w2.drew t k room b cap S):=E.out.EO.kept (zAa _) λ_ _=>rfl;have B:Hid (zb w w2.drew):=fF A.out;have a:=B.out.size;go_wp2_with fail;go_region_with (first
  |(go_at_call 213;refine(XD y.out u.out).mono ?_;rintro e w3 ⟨v3,rfl,c,f⟩;dsimp only))
 all_goals
  have z:Hid (zb w w3):=bD B.out f a
  have O:Hid (cM w3 w.heap.size v3 us):=by refine⟨c.1,?_⟩;obtain h|⟨g,l,cur,e,s,r⟩:=c.2;{exact aG h};{exact aH ⟨g,l,cur,e,zAv a s,r⟩}
  clear c f o q
  go_wp2
  go_ret2
  exact⟨v3,rfl,O.out,z.out⟩
def XH (h:dO w d k win first hb fE t room b cap S){i:Nat}{us}(hi:S[i]? =aA us):
  Calls zq 21 #[aN (aA ⟨d,0,aB⟩),aC aD ((first)+(i))] w (RF λx w'=>x= .tuple #[aK ⟨(kX k (bG us) 0).toArray⟩,aC aD 0]/\zb w w'):=by
 have j:=(zAp.1 hi).1;have H:=BT h j;have p:=hid h;have y:=h.f1;have hl:=h.EO.len;have o:=hid hi;have v:∀W,(method (zq.types.size+100) 146 (aN (aA ⟨t,0,aB⟩)) "Root").run zq W= .ok (217,aN (aA ⟨t,0,aB⟩)) W:=λW=>reaches (by kernel_rfl) _ W;have n:IntKind.i64.wrap (i:Int)=(i:Int):=by rw[zGs];omega
 have l:(first:Int)+(i:Int)-(first:Int)=(i:Int):=by omega
 go_enter (Qz.fn func21),ntmps21;go_wp2_with fail;refine H.mono ?_;rintro e w2 ⟨rfl,g⟩;have u:=hid g;have E:=hid (p.out.below g (zAa _));have m:=E.out.cell 2;have q:=E.out.cell 4;have r:Hid (dF w2.drew t k room b cap S):=E.out.EO.kept (zAa _) λ_ _=>rfl;have B:Hid (zb w w2.drew):=fF u.out;have a:=B.out.size;go_wp2_with fail;go_region_with (first
  |(go_at_call 217;refine(UH r.out o.out).mono ?_;rintro e w3 (⟨_,rfl,rfl,f⟩|⟨c,rfl,he⟩);rotate_left;exact⟨rfl,.told he⟩;dsimp only))
 all_goals
  have s:Hid (zb w w3):=bD B.out f a
  clear f m q
  go_wp2
  go_ret2
  exact .of ⟨rfl,s.out⟩
def QZ (h:dO w d k win first hb fE t room b cap S){i:Nat}{us}(hi:S[i]? =aA us)(I)(m:I.length=32):
  Calls zq 24 #[aN (aA ⟨d,0,aB⟩),aC aD ((first)+(i)),aK ⟨I.toArray⟩] w (RF λx w'=>x= .tuple #[aK ⟨(gG k (eF k I 256 (bG us) 0)).toArray⟩,aC aD 0]/\zb w w'):=by
 have p:(⟨I.toArray⟩:ByteArray).size=32:=by show I.toArray.size=32;simpa using m
 have j:=(zAp.1 hi).1;have H:=BT h j;have s:=hid h;have A:=h.f1;have hl:=h.EO.len;have r:=hid hi;have z:∀W,(method (zq.types.size+100) 146 (aN (aA ⟨t,0,aB⟩)) "Prove").run zq W= .ok (216,aN (aA ⟨t,0,aB⟩)) W:=λW=>reaches (by kernel_rfl) _ W;have o:IntKind.i64.wrap (i:Int)=(i:Int):=by rw[zGs];omega
 have l:(first:Int)+(i:Int)-(first:Int)=(i:Int):=by omega
 go_enter (Qz.fn func24),ntmps24;go_wp2_with fail;refine H.mono ?_;rintro e w2 ⟨rfl,g⟩;have y:=hid g;have E:=hid (s.out.below g (zAa _));have n:=E.out.cell 2;have q:=E.out.cell 4;have u:Hid (dF w2.drew t k room b cap S):=E.out.EO.kept (zAa _) λ_ _=>rfl;have B:Hid (zb w w2.drew):=fF y.out;have a:=B.out.size;go_wp2_with fail;go_region_with (first
  |(go_at_call 216;refine(Ja u.out r.out I m).mono ?_;rintro e w3 (⟨_,rfl,rfl,f⟩|⟨c,rfl,he⟩);rotate_left;exact⟨rfl,.told he⟩;dsimp only))
 all_goals
  have v:Hid (zb w w3):=bD B.out f a
  clear f n q
  go_wp2
  go_ret2
  exact .of ⟨rfl,v.out⟩
end
structure Base (w:zW):Prop where
 iH:nI w
 iP:fJ w
 low:zq.globals.size<w.heap.size
def Base.below {w w':zW}{B:Nat}(h:Base w)(a:Below B w w')(b:w.heap.size<=B):Base w':=
 ⟨h.iH.kept λx c=>a.block x (by have:=h.low;omega),h.iP.below a b,zAc h.low a.size⟩
def Wz {w}(h:Base w)(k room t c:Nat)(j:1<=k)(g:k<=32)(f:room<=1000000)(n:dK w t (aC aD k) (aC aD room) (aK ⟨(dg k [0]).toArray⟩) (aJ (aA ⟨c,0,aB⟩) 1 1) (aC aD 0) 0)(o:w.heap[c]? =aA (aI #[.pointer aB] 264 (0,0)))(d:zq.globals.size<t)(l:zq.globals.size<c):dF w t k room c 1 [[]]:=by
 refine⟨j,g,h.iH,h.iP,d,l,⟨room,0,n,by omega,f,by omega⟩,⟨λ_=>False,_,o,zAa _,by simp only[maxLen];omega,rfl,λx a=>a.elim,λx a=> ?_,λi us hi=> ?_⟩,λus m=> ?_,by simp,by simp⟩
 .simp only[zAf,zAr,zCb]at a;subst a;exact⟨aB,rfl,λb e=>by cases e⟩
 .match i,hi with
  |0,hi=>simp at hi;subst hi;exact⟨aB,rfl,.nil 0⟩
 .rw[zAn.1 m];exact⟨KV.nil,zBq _⟩
def Wa (k room:Nat)(w)(h:Base w)(c:1<=k)(b:k<=32)(f:room<=1000000):
  Calls zq 87 #[aC aD k,aC aD room] w λe g=>∃t i,e=aL (aN (aA ⟨t,0,aB⟩))/\dF g t k room i 1 [[]]/\w.heap.size<=t/\w.heap.size<=i/\zb w g:=by
 have H:=hid h;go_enter (Qz.fn func87),ntmps87;go_wp2_with fail;refine(OU k w c b H.out.iP).mono ?_;rintro e w1 ⟨rfl,d⟩;have B:=hid d;have H1:=hid (H.out.below d (zAa _));go_wp2_with fail;have a:∀(v:zW)(o:Obj),(v.alloc o).heap.size=v.heap.size+1:=λv o=>zBw ..;have k1:Hid (bW ((w1.alloc (aI #[.pointer aB] 264)).alloc (aI #[aC aD (k:Int),aC aD (room:Int),aK ⟨(dg k [0]).toArray⟩,aJ (aA ⟨w1.heap.size,0,aB⟩) 1 1,aC aD 0,aC aD 0] 168)) w1.heap.size 264 #[.pointer aB]):=(bW.new _ _ _).alloc _;have k2:Hid (bW ((w1.alloc (aI #[.pointer aB] 264)).alloc (aI #[aC aD (k:Int),aC aD (room:Int),aK ⟨(dg k [0]).toArray⟩,aJ (aA ⟨w1.heap.size,0,aB⟩) 1 1,aC aD 0,aC aD 0] 168)) (w1.heap.size+1) 168 #[aC aD (k:Int),aC aD (room:Int),aK ⟨(dg k [0]).toArray⟩,aJ (aA ⟨w1.heap.size,0,aB⟩) 1 1,aC aD 0,aC aD 0]):=by have:=bW.new (w1.alloc (aI #[.pointer aB] 264)) 168 #[aC aD (k:Int),aC aD (room:Int),aK ⟨(dg k [0]).toArray⟩,aJ (aA ⟨w1.heap.size,0,aB⟩) 1 1,aC aD 0,aC aD 0];rw[a]at this;exact this
 have j:Hid (zb w1 ((w1.alloc (aI #[.pointer aB] 264)).alloc (aI #[aC aD (k:Int),aC aD (room:Int),aK ⟨(dg k [0]).toArray⟩,aJ (aA ⟨w1.heap.size,0,aB⟩) 1 1,aC aD 0,aC aD 0] 168))):=((zGn _ _).alloc (zAa _) _).alloc (by rw[a];omega) _;generalize(w1.alloc (aI #[.pointer aB] 264)).alloc (aI #[aC aD (k:Int),aC aD (room:Int),aK ⟨(dg k [0]).toArray⟩,aJ (aA ⟨w1.heap.size,0,aB⟩) 1 1,aC aD 0,aC aD 0] 168)=w2 at*;have n:=hid (bD B.out j.out B.out.size);have hl:=H1.out.low;have l:=B.out.size;have m:=hid (Wz (H1.out.below j.out (zAa _)) k room _ _ c b f k2.out k1.out (by omega) hl);go_ret;exact⟨w1.heap.size+1,w1.heap.size,rfl,m.out,by omega,l,n.out⟩
def QP (k a cells:Nat)(w)(g:1<=k)(f:k<=32)(d:1<=a)(h:a<=50)(j:1<=cells)(i:cells<=100000):
  Calls zq 57 #[.agg #[aC aD 0,aC aD k,aC aD a,aC aD cells]] w λe c=>e=aL (.bool aE)/\zb w c:=by
 have r:Hid (zb w (w.alloc (aI #[aC aD 0,aC aD (k:Int),aC aD (a:Int),aC aD (cells:Int)] 23))):=(zGn _ _).alloc (zAa _) _;have b:Hid (bW (w.alloc (aI #[aC aD 0,aC aD (k:Int),aC aD (a:Int),aC aD (cells:Int)] 23)) w.heap.size 23 #[aC aD 0,aC aD (k:Int),aC aD (a:Int),aC aD (cells:Int)]):=bW.new _ _ _;have q:(1:Int)<=(k:Int):=by omega
 have p:(k:Int)<=32:=by omega
 have o:(1:Int)<=(a:Int):=by omega
 have n:(a:Int)<=50:=by omega
 have m:(1:Int)<=(cells:Int):=by omega
 have l:(cells:Int)<=100000:=by omega
 go_enter (Qz.fn func57),ntmps57;go_upto_region 1 with(fail)
 generalize w.alloc (aI #[aC aD 0,aC aD (k:Int),aC aD (a:Int),aC aD (cells:Int)] 23)=w0 at*;have c0:=(b.out.cell 0).trans rfl;have c1:=(b.out.cell 1).trans rfl;have c2:=(b.out.cell 2).trans rfl;have c3:=(b.out.cell 3).trans rfl;go_wp2;go_ret;exact⟨by simp[q,p,o,n,m,l],r.out⟩
def QY (k a room:Nat)(w)(h:Base w)(i:1<=k)(g:k<=32)(f:room<=1000000):
  Calls zq 59 #[.agg #[aC aD 0,aC aD k,aC aD a,aC aD room]] w λe l=>∃t b,e=aL (.iface 146 (aN (aA ⟨t,0,aB⟩)))/\dF l t k room b 1 [[]]/\w.heap.size<=t/\w.heap.size<=b/\zb w l:=by
 have c:Hid (zb w (w.alloc (aI #[aC aD 0,aC aD (k:Int),aC aD (a:Int),aC aD (room:Int)] 23))):=(zGn _ _).alloc (zAa _) _;have d:Hid (bW (w.alloc (aI #[aC aD 0,aC aD (k:Int),aC aD (a:Int),aC aD (room:Int)] 23)) w.heap.size 23 #[aC aD 0,aC aD (k:Int),aC aD (a:Int),aC aD (room:Int)]):=bW.new _ _ _;have H:=hid h;go_enter (Qz.fn func59),ntmps59;go_upto_region 1 with(fail)
 generalize w.alloc (aI #[aC aD 0,aC aD (k:Int),aC aD (a:Int),aC aD (room:Int)] 23)=w0 at*;have c0:=(d.out.cell 0).trans rfl;have c1:=(d.out.cell 1).trans rfl;have c3:=(d.out.cell 3).trans rfl;go_wp2_with fail;refine(Wa k room w0 (H.out.below c.out (zAa _)) i g f).mono ?_;rintro e w1 ⟨t,b,rfl,m,p,o,j⟩;have B:=hid (bD c.out j c.out.size);have E:=hid m;have n:=c.out.size;go_wp2;go_ret;exact⟨t,b,rfl,E.out,by omega,by omega,B.out⟩
def LQ (k:Nat)(w)(d:fJ w)(a:1<=k)(h:k<=32):
  Calls zq 58 #[aC aD k] w λe c=>e=aL (aK ⟨(dg k [3]).toArray⟩)/\zb w c:=by
 have f:=sK k ⟨#[3]⟩ w a h (by decide) d;have H:=hid f;go_enter (Qz.fn func58),ntmps58;go_wp2_with fail;refine H.out.mono ?_;rintro e w1 ⟨rfl,b⟩;have B:=hid b;go_wp2;go_ret;exact⟨rfl,B.out⟩
def Fq {w:zW}{d k a e t room b:Nat}{h:zB}(g:dF w t k room b 1 [[]])(f:w.heap[d]? =aA (aI #[aC aD k,aC aD a,aC aD 0,aJ (aA ⟨e,0,aB⟩) 1 1,.iface 146 (aN (aA ⟨t,0,aB⟩))] 86 (0,0)))(hh:w.heap[e]? =aA (aI #[aK ⟨h.toArray⟩] 9 (0,0)))(hl:h.length<=32)(j:zq.globals.size<d)(i:zq.globals.size<e):
  dO w d k a 0 e 1 t room b 1 [[]]:=
 ⟨g,j,i,f,⟨[h],rfl,λx c=>by rw[zAn.1 c];exact hl,fA.of _ hh (zAa _) (zAa _) (by simp only[maxLen];omega) rfl rfl (λx c=>by simp only[zAf,zAr,zCb]at c;exact⟨_,c⟩)⟩,zBq _⟩
def Cq (k a room:Nat)(w)(h:Base w)(r:1<=k)(n:k<=32)(G:1<=a)(F:a<=50)(J:1<=room)(I:room<=100000):
  Calls zq 35 #[.agg #[aC aD 0,aC aD k,aC aD a,aC aD room]] w λe j=>∃d S t i,e=aL (.tuple #[aN (aA ⟨d,0,aB⟩),aC aD 0])/\dO j d k a 0 S 1 t room i 1 [[]]/\w.heap.size<=d/\w.heap.size<=S/\w.heap.size<=t/\w.heap.size<=i/\zb w j:=by
 have L:Hid (zb w (w.alloc (aI #[aC aD 0,aC aD (k:Int),aC aD (a:Int),aC aD (room:Int)] 23))):=(zGn _ _).alloc (zAa _) _;have A:Hid (bW (w.alloc (aI #[aC aD 0,aC aD (k:Int),aC aD (a:Int),aC aD (room:Int)] 23)) w.heap.size 23 #[aC aD 0,aC aD (k:Int),aC aD (a:Int),aC aD (room:Int)]):=bW.new _ _ _;have HB:=hid h;have qM:=h.low;go_enter (Qz.fn func35),ntmps35;go_upto_region 1 with(fail)
 generalize w.alloc (aI #[aC aD 0,aC aD (k:Int),aC aD (a:Int),aC aD (room:Int)] 23)=w0 at*;go_wp2_with (refine zGv rfl 23 _ rfl w.heap.size rfl 23 _ (0,0) _ A.out ((Qz.eH 23).trans underlying23) rfl (by kernel_rfl) ?_);refine(QP k a room w0 r n G F J I).mono ?_;rintro e w1 ⟨rfl,u⟩;have C:=hid (bD L.out u L.out.size);have K1:=hid (A.out.below u A.out.lt);have H1:=hid (HB.out.below C.out (zAa _));have R:=C.out.size;clear u L A HB;go_upto_region 3 with(fail)
 have M:Hid (∀W,zb w1 W->W.cell? ⟨w.heap.size,0,aB⟩=aA (aC aD 0)/\W.cell? ⟨w.heap.size,1,aB⟩=aA (aC aD (k:Int))/\W.cell? ⟨w.heap.size,2,aB⟩=aA (aC aD (a:Int))/\W.cell? ⟨w.heap.size,3,aB⟩=aA (aC aD (room:Int))/\w.heap.size<W.heap.size):=λW o=>⟨((K1.out.below o K1.out.lt).cell 0).trans rfl,((K1.out.below o K1.out.lt).cell 1).trans rfl,((K1.out.below o K1.out.lt).cell 2).trans rfl,((K1.out.below o K1.out.lt).cell 3).trans rfl,(K1.out.below o K1.out.lt).lt⟩;obtain⟨c0,c1,c2,c3,c4⟩:=M.out w1 (zGn _ _);have y:(dg k [3]).length<=32:=by have:=dW k [3] n;omega
 have z:=hid y;have Z:Hid (∀W,zb w1 W->Calls zq 58 #[aC aD k] W λe j=>e=aL (aK ⟨(dg k [3]).toArray⟩)/\zb W j):=λW o=>LQ k W (H1.out.below o (zAa _)).iP r n;have N:Hid (∀W,zb w1 W->Calls zq 59 #[.agg #[aC aD 0,aC aD k,aC aD a,aC aD room]] W λe j=>∃t i,e=aL (.iface 146 (aN (aA ⟨t,0,aB⟩)))/\dF j t k room i 1 [[]]/\W.heap.size<=t/\W.heap.size<=i/\zb W j):=λW o=>QY k a room W (H1.out.below o (zAa _)) r n (by omega);generalize dg k [3]=m at*;clear y K1 H1;go_region_held3 (λj=>j.cell? ⟨w.heap.size,0,aB⟩=aA (aC aD 0)/\j.cell? ⟨w.heap.size,1,aB⟩=aA (aC aD (k:Int))/\j.cell? ⟨w.heap.size,2,aB⟩=aA (aC aD (a:Int))/\j.cell? ⟨w.heap.size,3,aB⟩=aA (aC aD (room:Int))) (go_keep) (first
  |(go_at_call 58;
    first
    |(refine(Z.out _ (fF (zGn _ w1))).mono ?_;rintro e wf ⟨rfl,l⟩;have c:Hid (zb w1 wf):=tE l)
    |(refine(Z.out _ f.out).mono ?_;rintro e wf ⟨rfl,l⟩;have c:Hid (zb w1 wf):=bD f.out l f.out.size);
    obtain⟨f0,f1,f2,f3,f4⟩:=M.out wf c.out;dsimp only)
  |(go_at_call 59;
    first
    |(refine(N.out _ (fF (zGn _ w1))).mono ?_;rintro e b ⟨t,i,rfl,B,x,v,g⟩;have f:Hid (zb w1 b):=tE g)
    |(refine(N.out _ c.out).mono ?_;rintro e b ⟨t,i,rfl,B,x,v,g⟩;have f:Hid (zb w1 b):=bD c.out g c.out.size)
    |(refine(N.out _ (c.out.alloc c.out.size _)).mono ?_;rintro e b ⟨t,i,rfl,B,x,v,g⟩;have f:Hid (zb w1 b):=bD (c.out.alloc c.out.size _) g (c.out.alloc c.out.size _).size);
    obtain⟨g0,V,U,T,g4⟩:=M.out b f.out;have H:Hid (dF b t k room i 1 [[]]):=B;have s:=g;clear B;dsimp only))
 .have q:bW (wf.alloc (aI #[aK ⟨m.toArray⟩] 9)) wf.heap.size 9 #[aK ⟨m.toArray⟩]:=bW.new _ _ _;have Y:=hid (q.below s q.lt);have D:=c.out.size;have p:(wf.alloc (aI #[aK ⟨m.toArray⟩] 9)).heap.size=wf.heap.size+1:=zBw ..;have E:=f.out.size;have P:Hid (zb w (b.alloc (aI #[aC aD (k:Int),aC aD (a:Int),aC aD 0,aJ (aA ⟨wf.heap.size,0,aB⟩) 1 1,.iface 146 (aN (aA ⟨t,0,aB⟩))] 86))):=(bD C.out f.out R).out.alloc (by omega) _;have K:Hid (bW (b.alloc (aI #[aC aD (k:Int),aC aD (a:Int),aC aD 0,aJ (aA ⟨wf.heap.size,0,aB⟩) 1 1,.iface 146 (aN (aA ⟨t,0,aB⟩))] 86)) b.heap.size 86 #[aC aD (k:Int),aC aD (a:Int),aC aD 0,aJ (aA ⟨wf.heap.size,0,aB⟩) 1 1,.iface 146 (aN (aA ⟨t,0,aB⟩))]):=bW.new _ _ _;have O:Hid (dO (b.alloc (aI #[aC aD (k:Int),aC aD (a:Int),aC aD 0,aJ (aA ⟨wf.heap.size,0,aB⟩) 1 1,.iface 146 (aN (aA ⟨t,0,aB⟩))] 86)) b.heap.size k a 0 wf.heap.size 1 t room i 1 [[]]):=Fq (H.out.below ((zGn _ _).alloc (zAa _) _) (zAa _)) K.out (Y.out.alloc _) z.out (by omega) (by omega);generalize b.alloc (aI #[aC aD (k:Int),aC aD (a:Int),aC aD 0,aJ (aA ⟨wf.heap.size,0,aB⟩) 1 1,.iface 146 (aN (aA ⟨t,0,aB⟩))] 86)=w9 at*;clear q s g l c0 c1 c2 c3 f0 f1 f2 f3 g0 V U T Y K;go_wp2;go_ret2;exact⟨b.heap.size,wf.heap.size,t,i,rfl,O.out,by omega,by omega,by omega,by omega,P.out⟩
 .have D:=c.out.size;have E:=f.out.size;have p:∀Q,(b.alloc Q).heap.size=b.heap.size+1:=λQ=>zBw ..;have X:Hid (bW ((b.alloc (aI #[aK ⟨m.toArray⟩] 9)).alloc (aI #[aC aD (k:Int),aC aD (a:Int),aC aD 0,aJ (aA ⟨b.heap.size,0,aB⟩) 1 1,.iface 146 (aN (aA ⟨t,0,aB⟩))] 86)) b.heap.size 9 #[aK ⟨m.toArray⟩]):=(bW.new _ _ _).alloc _;have K:Hid (bW ((b.alloc (aI #[aK ⟨m.toArray⟩] 9)).alloc (aI #[aC aD (k:Int),aC aD (a:Int),aC aD 0,aJ (aA ⟨b.heap.size,0,aB⟩) 1 1,.iface 146 (aN (aA ⟨t,0,aB⟩))] 86)) (b.heap.size+1) 86 #[aC aD (k:Int),aC aD (a:Int),aC aD 0,aJ (aA ⟨b.heap.size,0,aB⟩) 1 1,.iface 146 (aN (aA ⟨t,0,aB⟩))]):=by
   have:=bW.new (b.alloc (aI #[aK ⟨m.toArray⟩] 9)) 86 #[aC aD (k:Int),aC aD (a:Int),aC aD 0,aJ (aA ⟨b.heap.size,0,aB⟩) 1 1,.iface 146 (aN (aA ⟨t,0,aB⟩))];rw[p]at this;exact this
  have be:zb b ((b.alloc (aI #[aK ⟨m.toArray⟩] 9)).alloc (aI #[aC aD (k:Int),aC aD (a:Int),aC aD 0,aJ (aA ⟨b.heap.size,0,aB⟩) 1 1,.iface 146 (aN (aA ⟨t,0,aB⟩))] 86)):=((zGn _ _).alloc (zAa _) _).alloc (by rw[p];omega) _;have P:Hid (zb w ((b.alloc (aI #[aK ⟨m.toArray⟩] 9)).alloc (aI #[aC aD (k:Int),aC aD (a:Int),aC aD 0,aJ (aA ⟨b.heap.size,0,aB⟩) 1 1,.iface 146 (aN (aA ⟨t,0,aB⟩))] 86))):=bD (bD C.out f.out R).out be (by omega);have O:Hid (dO ((b.alloc (aI #[aK ⟨m.toArray⟩] 9)).alloc (aI #[aC aD (k:Int),aC aD (a:Int),aC aD 0,aJ (aA ⟨b.heap.size,0,aB⟩) 1 1,.iface 146 (aN (aA ⟨t,0,aB⟩))] 86)) (b.heap.size+1) k a 0 b.heap.size 1 t room i 1 [[]]):=Fq (H.out.below be (zAa _)) K.out X.out z.out (by omega) (by omega);generalize(b.alloc (aI #[aK ⟨m.toArray⟩] 9)).alloc (aI #[aC aD (k:Int),aC aD (a:Int),aC aD 0,aJ (aA ⟨b.heap.size,0,aB⟩) 1 1,.iface 146 (aN (aA ⟨t,0,aB⟩))] 86)=w9 at*;clear s g l c0 c1 c2 c3 f0 f1 f2 f3 g0 V U T X K be;go_wp2;go_ret2;exact⟨b.heap.size+1,b.heap.size,t,i,rfl,O.out,by omega,by omega,by omega,by omega,P.out⟩
def Qq (k c:Nat)(h r:zB)(w)(o:fJ w)(f:1<=k)(a:k<=32)(hh:h.length<=32)(u:r.length<=32)(j:c<=2000000):
  Calls zq 40 #[aC aD k,aK ⟨h.toArray⟩,aC aD c,aK ⟨r.toArray⟩] w λe w'=>∃H:zB,e=aL (aK ⟨H.toArray⟩)/\H.length<=32/\zb w w':=by
 have p:=hid o;have q:Hid (∀W (m:ByteArray),m.size<=1000->fJ W->Calls zq 53 #[aC aD k,aK m] W λe w'=>(∃H:zB,e=aL (aK ⟨H.toArray⟩)/\H.length<=32)/\zb W w'):=λW m v n=>(sK k m W f a (by omega) n).mono λe w' h=>⟨⟨_,h.1,by have:=dW k m.data.toList a;show(dg k m.data.toList).length<=32;omega⟩,h.2⟩;have l:(eight c).length=8:=by simp[eight]
 go_enter (Qz.fn func40),ntmps40;go_wp2_with fail;refine(uH c w).mono ?_;rintro e w1 ⟨rfl,i⟩;have B:=hid i;generalize eight c=E at*;go_wp2_with fail;refine(q.out w1 _ ?_ (p.out.below B.out (zAa _))).mono ?_
 .simp only[ByteArray.size_append];show 1+h.toArray.size+E.toArray.size+r.toArray.size<=1000;simp only[zAq];omega
 rintro e w2 ⟨⟨H,rfl,hl⟩,g⟩;have s:=hid (bD B.out g B.out.size);go_wp2;go_ret;exact⟨H,rfl,hl,s.out⟩
def oV (w:zW)(d hb t b:Nat):zP:=λx=>x=d\/x=hb\/kW w t b x
def eR.four {w w1 w' d hb c t b b'}(h:eR (oV w d hb t b) w w1)(j:eR (oV w1 d c t b') w1 w')(i:c=hb\/w.heap.size<=c)(g:b'=b\/w.heap.size<=b'):eR (oV w d hb t b) w w':=h.then j λx a bX f e=>by
 obtain a|a|a|a|a:=a
 .exact f (aG a)
 .obtain i|i:=i
  .exact f (aH (aG (a.trans i)))
  .omega
 .exact f (aH (aH (aG a)))
 .obtain g|g:=g
  .exact f (aH (aH (aH (aG (a.trans g)))))
  .omega
 .exact f (aH (aH (aH (aH (a.same e.symm)))))
section
variable {w w':zW}{d k win first hb fE t room b cap:Nat}{S:List (List bZ)}
def oL {x y:Nat}{cs cs' c ty j i}(g:w.heap[x]? =aA (aI cs c j))(h:w.heap[y]? =aA (aI cs' ty i))(a:c≠ty):x≠y:=λe=>by subst e;rw[g]at h;injection h with h;injection h with _ f;exact a f
def dO.ne (h:dO w d k win first hb fE t room b cap S):d≠hb/\d≠t/\d≠b/\hb≠t/\hb≠b:=by obtain⟨f,c1⟩:=h.EO.mz;obtain⟨ct,t1⟩:=h.EO.ig;obtain⟨H,_,_,a⟩:=h.gJ;obtain⟨c,e,_⟩:=fA.row a;exact⟨oL h.at' e (by decide),oL h.at' t1 (by decide),oL h.at' c1 (by decide),oL e t1 (by decide),oL e c1 (by decide)⟩
def dO.two (h:dO w d k win first hb fE t room b cap S):¬kW w t b d/\¬kW w t b hb:=by
 obtain⟨j,f,n3,e,n⟩:=h.ne;obtain⟨H,_,_,g⟩:=h.gJ;obtain⟨c,i,_⟩:=fA.row g;refine⟨λa=> ?_,λa=> ?_⟩
 .obtain a|a|a:=a
  .exact f a
  .exact n3 a
  .exact a.ne h.at' (by decide) rfl
 .obtain a|a|a:=a
  .exact e a
  .exact n a
  .exact a.ne i (by decide) rfl
def dO.less {r}(h:dO w d k win first hb fE t room b cap S)(a:r<=room):dO w d k win first hb fE t r b cap S:=⟨h.EO.less a,h.Lb,h.qM,h.at',h.gJ,h.f1⟩
def dO.bX (h:dO w d k win first hb fE t room b cap S):hb<w.heap.size:=by obtain⟨H,_,_,a⟩:=h.gJ;obtain⟨c,e,_⟩:=fA.row a;exact(zAb.1 e).1
def LV (h:dO w d k win first hb fE t (room+1) b cap S)(K:1<S.length):
  Calls zq 41 #[aN (aA ⟨d,0,aB⟩),aC aD 1] w λe w'=>e=aL (.tuple #[])/\(first+1<=1000000->dO w' d k win (first+1) hb fE t room b cap (S.drop 1))/\eR (oV w d hb t b) w w':=by
 obtain⟨A,Q,n3,P,N⟩:=h.ne;have z:=Ci h.EO K;have J:∀W,(method (zq.types.size+100) 146 (aN (aA ⟨t,0,aB⟩)) "Forget").run zq W= .ok (214,aN (aA ⟨t,0,aB⟩)) W:=λW=>reaches (by kernel_rfl) _ W;have G:=h.cell 4;have a:=hid h;have B:=h.EO.len;have R:=h.f1;go_enter (Qz.fn func41),ntmps41;go_wp2_with fail;refine z.mono ?_;rintro e w1 ⟨rfl,p,f⟩;have F:=hid p;have V:=hid f;have D1:Hid (bW w1 d 86 #[aC aD k,aC aD win,aC aD first,aJ (aA ⟨hb,0,aB⟩) S.length fE,.iface 146 (aN (aA ⟨t,0,aB⟩))]):=(f.block d a.out.lt a.out.two.1).trans a.out.at';obtain⟨H,y,v,o⟩:=a.out.gJ;have O:Hid (fA YH w1 hb 9 1 (aJ (aA ⟨hb,0,aB⟩) S.length fE) S.length (gW H)):=o.kept λg r=>by have e:=zAm r;subst e;exact f.block hb a.out.bX a.out.two.2
 clear p f o G J;have I:=(D1.out.cell 3).trans rfl;have E:=Sb (λx i=>by obtain⟨s,rfl⟩:=i;rfl) (λx i=>by simp[Value.cells]at i;exact⟨_,i⟩) hb hb S.length fE 0 (gW H) w1 O.out (by omega) (by omega);go_wp2_with fail;refine E.mono ?_;clear E;rintro e w2 ⟨rfl,l,c⟩;have D2:Hid (bW w2 d 86 #[aC aD k,aC aD win,aC aD first,aJ (aA ⟨hb,0,aB⟩) S.length fE,.iface 146 (aN (aA ⟨t,0,aB⟩))]):=D1.out.grown c (λe=>by injection e with e;exact A e);obtain⟨C,q,_⟩:=fA.row O.out;have M:=hid (F.out.other c q (by decide) a.out.qM);have L:Hid (eR (oV w d hb t b) w w2):=(V.out.mono λx i=>aH (aH i)).trans (eR.grown c (aH (aG rfl)));have D:Hid (fA YH w2 hb 9 1 (aJ (aA ⟨hb,0,aB⟩) (S.length-1) fE) (S.length-1) (gW (H.drop 1))):=by
  have e:List.take (0*1) (gW H)++List.drop ((0+1)*1) (gW H)=gW (H.drop 1):=by simp[gW]
  rw[e]at l;exact l
 have p3:=(D2.out.cell 3).trans rfl;have p2:=(D2.out.cell 2).trans rfl;have f3:=D2.out.frozen 3;have f2:=D2.out.frozen 2;clear l c q I F V O D1;go_wp2_with fail;go_end0;have m:(w2.setCell ⟨d,3,aB⟩ (aJ (aA ⟨hb,0,aB⟩) (S.length-1) fE)).setCell ⟨d,2,aB⟩ (aC aD ((first:Int)+1))=w2.setRow d (#[aC aD k,aC aD win,aC aD ((first:Int)+1),aJ (aA ⟨hb,0,aB⟩) (S.length-1) fE,.iface 146 (aN (aA ⟨t,0,aB⟩))]:zA):=by rw[setCell_eq_setRow w2 d 3 _ _ (0,0) _ D2.out,setCell_eq_setRow _ d 2 _ _ (0,0) _ (D2.out.dB _),setRow_setRow];rfl
 have j:=iW w2 d (#[aC aD k,aC aD win,aC aD ((first:Int)+1),aJ (aA ⟨hb,0,aB⟩) (S.length-1) fE,.iface 146 (aN (aA ⟨t,0,aB⟩))]:zA);have n:=D2.out.dB (#[aC aD k,aC aD win,aC aD ((first:Int)+1),aJ (aA ⟨hb,0,aB⟩) (S.length-1) fE,.iface 146 (aN (aA ⟨t,0,aB⟩))]:zA);rw[m];refine⟨rfl,λu=>⟨M.out.other j D2.out (by decide) a.out.Lb,a.out.Lb,a.out.qM,by rw[zCk];exact n,⟨H.drop 1,by rw[zCk,zCk,y],λx i=>v x (zEr i),?_⟩,u⟩,L.out.trans (eR.grown j (aG rfl))⟩;rw[zCk];exact D.out.kept λg r=>by have e:=zAm r;subst e;exact j.block hb ((fA.lt D.out hb rfl).2) (λe=>by injection e with e;exact A e.symm)
end
end Go.Proofs.Zq
