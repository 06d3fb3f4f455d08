import Derived.Shelf.Strconv.Clone
import Derived.Lib.Bytealg
import Derived.Defers
import Derived.Maps.AppendAt
import Derived.Laws.CopyRow
import Derived.Lib.AppendStr
import Derived.Test.YtghpcgagijhlaaaGreatDoorT06
set_option linter.all false
set_option maxRecDepth 100000
set_option maxHeartbeats 16000000
open Option renaming some->aA,none->aB
open Bool renaming true->aE,false->aF
open Or renaming inl->aG,inr->aH
open Go.Ending renaming returned->aL
open Go.Obj renaming cells->aI
open Go.IntKind renaming i64->aD,u8->aP
open Go.Value renaming slice->aJ,string->aK,pointer->aN,int->aC
open Bool renaming eq_iff_iff->aFG
open Go.Lib renaming compareBytes->aFH,strCells->aFI,wpList_append_own_string->aFJ
open Go.Result renaming andThen_ok->aFK
open Int renaming tmod_eq_emod_of_nonneg->aFL
open Nat renaming succ_mul->aFM,mul_add->aFN,mul_le_mul_left->aFO,add_le_add->aFP,pow_succ->aFQ,pow_zero->aFR,div_one->aFS,mul_comm->aFT,div_div_eq_div_mul->aFU,le_of_eq->aFV,add_mul->aFW,mul_le_mul_right->aFX,min_eq_left->aFY,sub_self->aFZ
open Option.some renaming injEq->aE1
open Prod.mk renaming injEq->aFE
open UInt8 renaming ofNat->aFF,lt_irrefl->aF0,toNat_lt->aF1
open Go.Proofs.Tryz
namespace Go.Proofs
open Go.Shelf
def Qz.OQ:Go.Shelf.Ren:=⟨λ|316=>100|n=>n,λ|9=>9|3=>3|4=>4|37=>50|0=>0|127=>184|5=>5|n=>n,λ|n=>n⟩
def Qz.Nc:Go.Proofs.LaysM.n316 zq Qz.OQ:={
 mixed:=by kernel_rfl
 f316:=(Qz.fn func100).trans (congrArg aA (by kernel_rfl))
 t0:=((Qz.eO 0).trans Tryz.underlying0)
 a0:=(λw=>(Qz.isAgg w 0).trans (Tryz.isAgg0 w))
 z0:=(λw=>(Qz.sizeOf w 0).trans (Tryz.sizeOf0 w))
 v0:=(λw=>(Qz.zeroValue w 0).trans (Tryz.zeroValue0 w))
 t3:=((Qz.eO 3).trans Tryz.underlying3)
 a3:=(λw=>(Qz.isAgg w 3).trans (Tryz.isAgg3 w))
 z3:=(λw=>(Qz.sizeOf w 3).trans (Tryz.sizeOf3 w))
 v3:=(λw=>(Qz.zeroValue w 3).trans (Tryz.zeroValue3 w))
 t4:=((Qz.eO 4).trans Tryz.underlying4)
 a4:=(λw=>(Qz.isAgg w 4).trans (Tryz.isAgg4 w))
 z4:=(λw=>(Qz.sizeOf w 4).trans (Tryz.sizeOf4 w))
 v4:=(λw=>(Qz.zeroValue w 4).trans (Tryz.zeroValue4 w))
 t9:=((Qz.eO 9).trans Tryz.underlying9)
 a9:=(λw=>(Qz.isAgg w 9).trans (Tryz.isAgg9 w))
 z9:=(λw=>(Qz.sizeOf w 9).trans (Tryz.sizeOf9 w))
 v9:=(λw=>(Qz.zeroValue w 9).trans (Tryz.zeroValue9 w))
 t37:=((Qz.eO 50).trans Tryz.underlying50)
 a37:=(λw=>(Qz.isAgg w 50).trans (Tryz.isAgg50 w))
 z37:=(λw=>(Qz.sizeOf w 50).trans (Tryz.sizeOf50 w))
 v37:=(λw=>(Qz.zeroValue w 50).trans (Tryz.zeroValue50 w))
 t127:=((Qz.eO 184).trans Tryz.underlying184)
 a127:=(λw=>(Qz.isAgg w 184).trans (Tryz.isAgg184 w))
 z127:=(λw=>(Qz.sizeOf w 184).trans (Tryz.sizeOf184 w))
 v127:=(λw=>(Qz.zeroValue w 184).trans (Tryz.zeroValue184 w))
 t5:=((Qz.eO 5).trans Tryz.underlying5)
 a5:=(λw=>(Qz.isAgg w 5).trans (Tryz.isAgg5 w))
 z5:=(λw=>(Qz.sizeOf w 5).trans (Tryz.sizeOf5 w))
 v5:=(λw=>(Qz.zeroValue w 5).trans (Tryz.zeroValue5 w))
 i0:=by kernel_rfl
 i3:=by kernel_rfl
 i4:=by kernel_rfl
 i5:=by kernel_rfl
 i9:=by kernel_rfl
 i37:=by kernel_rfl
 i127:=by kernel_rfl}
open Go.RowKit in
def Qz.stringslite_Clone (s:ByteArray)(w:zW)(h:s.size<=281474976710656):
  Calls zq 100 #[aK s] w λe a=>e=aL (aK s)/\zb w a:=Any.stringslite_Clone Qz.Nc s w h
end Go.Proofs
namespace Go.Proofs.Zq
open Go.RowKit Sha
def YZ (r idx)(w)(d:1<=r.size)(c:r.size<=32)(b:idx.size=32):Calls zq 54 #[aK r,aK idx] w λe a=>e=aL (.bool aE)/\a=w:=by go_enter (Qz.fn func54),ntmps54;go_wp2_with fail;refine(tC _ w (by omega) (by omega)).mono ?_;rintro e w2 ⟨rfl,h⟩;obtain rfl:w=w2:=h.symm;go_wp2;go_ret;exact⟨rfl,rfl⟩
def Hg (r idx)(w)(c:r.size<=140737488351232)(h:r.size<1\/32<r.size\/idx.size≠32):Calls zq 54 #[aK r,aK idx] w λe b=>e=aL (.bool aF)/\b=w:=by
 by_cases g:r.size<1\/32<r.size
 .go_enter (Qz.fn func54),ntmps54;go_wp2_with fail;refine(ZP _ w (by omega)).mono ?_;rintro e w2 ⟨rfl,a⟩;obtain rfl:w=w2:=a.symm;go_wp2;go_ret;exact⟨rfl,rfl⟩
 .have f:idx.size≠32:=by{omega};have d:((idx.size:Int)==32)=aF:=by{rw[zBw];omega};go_enter (Qz.fn func54),ntmps54;go_wp2_with fail;refine(tC _ w (by omega) (by omega)).mono ?_;rintro e w2 ⟨rfl,a⟩;obtain rfl:w=w2:=a.symm;go_wp2;go_ret;exact⟨rfl,rfl⟩
def AV (s)(w)(h:s.size<=1000):Calls zq 85 #[aK s] w λe a=>e=aL (aK s)/\zb w a:=by go_enter (Qz.fn func85),ntmps85;go_wp2_with fail;refine(Qz.stringslite_Clone s w (by omega)).mono ?_;rintro e w2 ⟨rfl,hb⟩;have H:=hid hb;go_wp2;go_ret;exact⟨rfl,H.out⟩
def Gi (k)(p:PW)(v)(w)(o:p.value.length<=100):
  Calls zq 56 #[.agg (bG k p.kind v p.value p.other p.eK)] w λe n=>e=aL (.agg (kL p.said.1 p.said.2))/\zb w n:=by
 obtain⟨d,S,a,b,c⟩:=p;dsimp only at o⊢;have i:Hid (d=1->PW.said ⟨d,S,a,b,c⟩=(1,a)):=λh=>by rw[PW.said];exact zAq h
 have g:Hid (d≠1->PW.said ⟨d,S,a,b,c⟩=(2,[])):=λh=>by rw[PW.said];exact zAn h
 go_enter (Qz.fn func56),ntmps56;go_upto_region 1 with(fail)
 have m:Hid (cD ((w.alloc (aI (bG k d v a b c) 112)).alloc (aI cP 76)) w.heap.size 112 (bG k d v a b c)):=(cD.new _ _ _).alloc _;have z0:Hid (cD ((w.alloc (aI (bG k d v a b c) 112)).alloc (aI cP 76)) (w.heap.size+1) 76 cP):=by have:=cD.new (w.alloc (aI (bG k d v a b c) 112)) 76 cP;rw[size_alloc]at this;exact this
 have j:Hid (zb w ((w.alloc (aI (bG k d v a b c) 112)).alloc (aI cP 76))):=((zGe _ _).alloc (zAb _) _).alloc (by simp) _;rw[show((w.alloc (aI (bG k d v a b c) 112)).alloc (aI #[aC aD 0,aK ⟨#[]⟩] 76))=((w.alloc (aI (bG k d v a b c) 112)).alloc (aI cP 76))from rfl];generalize(w.alloc (aI (bG k d v a b c) 112)).alloc (aI cP 76)=W at*;have t:W.cell? ⟨w.heap.size,1,aB⟩=aA (aC aD (d:Int)):=by rw[m.out.cell];rfl
 have s:W.cell? ⟨w.heap.size,3,aB⟩=aA (aK ⟨a.toArray⟩):=by rw[m.out.cell];rfl
 by_cases h:d=1
 .have H:=i.out h;have q:((d:Int)==1)=aE:=by{rw[zCo];omega};have l:=hid H;go_wp2_with fail;refine(AV ⟨a.toArray⟩ W (by show a.length<=1000;omega)).mono ?_;rintro e w2 ⟨rfl,f⟩;have z:=hid (z0.out.below f z0.out.lt);have r:=bE j.out f j.out.size;go_wp2_with (refine zGk rfl 76 _ _ rfl (w.heap.size+1) _ rfl rfl _ _ z.out (by kernel_rfl) rfl (by simp[Value.oneCell']) ?_);refine zGs (results_cell_row results56 _ _ (w.heap.size+1) _ _ _ _ rfl (z.out.dV _) ((Qz.eO 76).trans underlying76) rfl (by kernel_rfl)) rfl ⟨?_,cA r.out (by omega) _⟩;rw[l.out];rfl
 .have H:=g.out h;have q:((d:Int)==1)=aF:=by{rw[zBw];omega};have l:=hid H;go_wp2_with (refine zGk rfl 76 _ _ rfl (w.heap.size+1) _ rfl rfl _ _ z0.out (by kernel_rfl) rfl (by kernel_rfl) ?_);refine zGs (results_cell_row results56 _ _ (w.heap.size+1) _ _ _ _ rfl (z0.out.dV _) ((Qz.eO 76).trans underlying76) rfl (by kernel_rfl)) rfl ⟨?_,cA j.out (by omega) _⟩;rw[l.out];rfl
def TA (root idx s)(w)(hs:s.size<=140737488351232)(A:root.size<=140737488351232)(E:fF w):
  Calls zq 34 #[aK root,aK idx,aK s] w λe x=>zb w x/\
   e=aL (.tuple #[.agg (kL (verdict root.data.toList idx.data.toList s.data.toList).1 (verdict root.data.toList idx.data.toList s.data.toList).2.1),aC aD ((verdict root.data.toList idx.data.toList s.data.toList).2.2:Nat)]):=by
 have d:root.data.toList.length=root.size:=by simp
 have q:idx.data.toList.length=idx.size:=by simp
 have F:=hid E;have z0:Hid (cD (w.alloc (aI cP 76)) w.heap.size 76 cP):=cD.new _ _ _;have l:Hid (zb w (w.alloc (aI cP 76))):=(zGe _ _).alloc (zAb _) _;go_enter (Qz.fn func34),ntmps34;go_wp2_with fail;by_cases g:root.size<1\/32<root.size\/idx.size≠32
 .have H:Hid (verdict root.data.toList idx.data.toList s.data.toList=(0,[],1)):=by{show _=_;rw[verdict,zAq (by rw[d,q];exact g)]};refine(Hg root idx _ A g).mono ?_;rintro e w2 ⟨rfl,h⟩;obtain rfl:=h.symm;clear h;go_wp2_with (refine zGk rfl 76 _ _ rfl w.heap.size cP rfl rfl _ _ z0.out (by kernel_rfl) rfl (by kernel_rfl) ?_);refine zGs (eW results34 _ _ w.heap.size _ _ _ _ rfl (z0.out.dV _) ((Qz.eO 76).trans underlying76) rfl (by kernel_rfl) _ rfl) rfl ⟨cA l.out (zAb _) _,?_⟩;rw[H.out];rfl
 refine(YZ root idx _ (by omega) (by omega) (by omega)).mono ?_;rintro e w2 ⟨rfl,h⟩;obtain rfl:=h.symm;clear h;go_wp2_with fail;refine(Gk root idx s (w.alloc (aI cP 76)) hs (by omega) (by omega) (by omega) (F.out.below l.out (zAb _))).mono ?_;rintro e w1 ⟨hb,b⟩;have B:Hid (zb w w1):=l.out.trans (hb.mono (by rw[size_alloc];omega));have r:=hid (z0.out.below hb z0.out.lt);have z:=r.out.lt;have y:Hid (cD (w1.alloc (aI cU 112)) w1.heap.size 112 cU):=cD.new _ _ _;rw[size_alloc]at b;clear hb l z0;obtain⟨i,rfl⟩|⟨p,v,i,o,a,rfl,c⟩:=b
 .have H:=hid (QU i);have D:=ZE root.data.toList idx.data.toList s.data.toList;generalize bR root.data.toList idx.data.toList s.data.toList=n at*;have C:((n:Int)!=0)=aE:=by rw[bne_iff_ne];omega
  have Z:Hid (cD ((w1.alloc (aI cU 112)).setRow w1.heap.size cU) w.heap.size 76 cP):=(r.out.alloc _).zM _ (by omega);have j:Hid (zb w ((w1.alloc (aI cU 112)).setRow w1.heap.size cU)):=cA (B.out.alloc B.out.size _) B.out.size _;clear i;go_wp2_with (first
   |refine zGk rfl 112 _ _ rfl w1.heap.size cU rfl rfl _ _ y.out (by kernel_rfl) rfl (by kernel_rfl) ?_
   |refine zGk rfl 76 _ _ rfl w.heap.size cP rfl rfl _ _ Z.out (by kernel_rfl) rfl (by kernel_rfl) ?_)
  refine zGs (eW results34 _ _ w.heap.size _ _ _ _ rfl (Z.out.dV _) ((Qz.eO 76).trans underlying76) rfl (by kernel_rfl) _ rfl) rfl ⟨cA j.out (zAb _) _,?_⟩;rw[H.out];rfl
 .have H:Hid (verdict root.data.toList idx.data.toList s.data.toList=(p.said.1,p.said.2,0)):=WY i o a;have G:=hid c;have m:p.value.length<=100:=(xG (by rw[d];omega) o).value;rw[d];obtain⟨k,t⟩:∃k,k=root.size:=⟨_,rfl⟩;rw[<-t];clear t;have K:Hid (cD ((w1.alloc (aI cU 112)).setRow w1.heap.size (bG k p.kind v p.value p.other p.eK)) w1.heap.size 112 (bG k p.kind v p.value p.other p.eK)):=y.out.dV _;have Z:Hid (cD ((w1.alloc (aI cU 112)).setRow w1.heap.size (bG k p.kind v p.value p.other p.eK)) w.heap.size 76 cP):=(r.out.alloc _).zM _ (by omega);have j:Hid (zb w ((w1.alloc (aI cU 112)).setRow w1.heap.size (bG k p.kind v p.value p.other p.eK))):=cA (B.out.alloc B.out.size _) B.out.size _;clear i o a c;go_wp2_with (first
   |refine zGk rfl 112 _ _ rfl w1.heap.size (bG _ _ _ _ _ _) rfl rfl _ _ y.out (by kernel_rfl) rfl (OG G.out) ?_
   |refine zGm rfl 112 _ rfl w1.heap.size rfl _ _ _ _ K.out ((Qz.eO 112).trans underlying112) rfl (by kernel_rfl) ?_)
  refine(Gi k p v ((w1.alloc (aI cU 112)).setRow w1.heap.size (bG k p.kind v p.value p.other p.eK)) m).mono ?_;rintro e w2 ⟨rfl,f⟩;have I:=Bb j.out f j.out.size;have u:Hid (cD w2 w.heap.size 76 cP):=Z.out.below f Z.out.lt;clear f j Z K;go_wp2_with (refine zGk rfl 76 _ _ rfl w.heap.size (kL _ _) rfl rfl _ _ u.out (by kernel_rfl) rfl (by simp[kL,Value.oneCell']) ?_);refine zGs (eW results34 _ _ w.heap.size _ _ _ _ rfl (u.out.dV _) ((Qz.eO 76).trans underlying76) rfl (by kernel_rfl) _ rfl) rfl ⟨cA I.out (zAb _) _,?_⟩;rw[H.out];rfl
def eP (c:Int)(n:Int):Int:=(if c<0 then-(c+1)else c)%n
def SS (c)(n)(h:0<n):0<=eP c n/\eP c n<n:=⟨Int.emod_nonneg _ (by omega),Int.emod_lt_of_pos _ h⟩
def iQ (c)(n:Nat)(h:0<n):∃m:Nat,eP c (n)=(m)/\m<n:=by obtain⟨b,a⟩:=SS c n (by omega);exact⟨(eP c n).toNat,by omega,by omega⟩
def qA (c n)(w)(i: -9223372036854775808<=c)(g:c<=9223372036854775807)(f:1<=n)(d:n<=256):
  Calls zq 15 #[aC aD c,aC aD n] w λe b=>e=aL (aC aD (eP c n))/\b=w:=by
 by_cases a:c<0
 .have h:Hid (eP c n= -(c+1).tmod n):=by{show _=_;rw[eP,zAq a,<-Int.neg_tmod,aFL (by omega)]};go_enter (Qz.fn func15),ntmps15;go_wp2;go_ret;exact⟨by rw[h.out];rfl,rfl⟩
 .have h:Hid (eP c n=c%n):=by{show _=_;rw[eP,zAn a]};go_enter (Qz.fn func15),ntmps15;go_wp2;go_ret;exact⟨by rw[h.out];rfl,rfl⟩
def iC (l:zB):zA:=(l.map λb=>Value.int aP (b.toNat:Int)).toArray
def yT (l)(i)(h:i<l.length):(iC l)[i]? =aA (aC aP ((l.getD i 0).toNat:Int)):=by simp[iC,h]
def yS (l)(i)(b:UInt8):(iC l).setIfInBounds i (aC aP (b.toNat:Int))=iC (l.set i b):=by apply zCk.1;rw[zDu];simp[iC,List.map_set]
def yP (n:Nat):zA:=iC (List.replicate n 0)
def FY (n:Nat)(e:n<=1000)(W):(Instr.makeSlice 50 (aC aD (n)) (aC aD (n))).run zq W= .ok (aJ (aA ⟨W.heap.size,0,aB⟩) n n) (W.alloc (aI (yP n) 5)):=by
 obtain⟨i,d,c,b,a⟩:=AX;have:=run_make W 50 5 i (aC aP 0) ((Qz.eO 50).trans underlying50) d c aD aD (n:Int) (n:Int) (by omega) (Int.le_refl _) (by rw[a];omega) (by omega);have h:(madeCells (Value.int aP 0).cells n)=yP n:=by apply zCk.1;rw[show(Value.int aP 0).cells= #[Value.int aP 0]from rfl,toList_madeCells_one];simp[yP,iC]
 rw[this,b,zDv,show((n:Int)).toNat=n from by omega,h]
def Cf {W:zW}{g:Nat}{l:zB}(h:cD W g 5 (iC l))(c:Nat):(convert 50 9 (aJ (aA ⟨g,0,aB⟩) l.length c)).run zq W= .ok (aK ⟨l.toArray⟩) W:=
 lR (P:=zq) W 50 9 5 g 0 c l ((Qz.eO 50).trans underlying50) ((Qz.eO 5).trans underlying5) ((Qz.eO 9).trans underlying9) (λj a=>by rw[zAx,h.cell j];exact yT l j a)
def idxOf (n:Int):zB:=((List.replicate 32 0).set 0 (aFF ((eP n 64).toNat/2*8))).set 31 (aFF ((eP n 64).toNat%2))
def iS (n):(idxOf n).length=32:=by simp[idxOf]
def tD (n)(w)(q: -9223372036854775808<=n)(p:n<=9223372036854775807):
  Calls zq 22 #[aC aD n] w λe d=>e=aL (aK ⟨(idxOf n).toArray⟩)/\zb w d:=by
 have a:∀W,(Instr.makeSlice 50 (aC aD 32) (aC aD 32)).run zq W= .ok (aJ (aA ⟨W.heap.size,0,aB⟩) 32 32) (W.alloc (aI (yP 32) 5)):=FY 32 (by omega);have r:Hid (zb w (w.alloc (aI (yP 32) 5))):=(zGe _ _).alloc (zAb _) _;have k:Hid (cD (w.alloc (aI (yP 32) 5)) w.heap.size 5 (iC (List.replicate 32 0))):=cD.new _ _ _;go_enter (Qz.fn func22),ntmps22;go_wp2_with fail;generalize w.alloc (aI (yP 32) 5)=w0 at*;refine(qA n 64 w0 q p (by omega) (by omega)).mono ?_;rintro e w2 ⟨rfl,h⟩;obtain rfl:w0=w2:=h.symm;clear h a;obtain⟨m,b,c⟩:=iQ n 64 (by omega);have H:Hid (eP n 64=(m:Int)):=b;rw[show eP n 64=(m:Int)from b];clear b;have l:((m:Int)/2*8)=((aFF (m/2*8)).toNat:Int):=by rw[zDr];omega
 have j:((m:Int)%2)=((aFF (m%2)).toNat:Int):=by rw[zDr];omega
 have o:Hid (idxOf n=((List.replicate 32 0).set 0 (aFF (m/2*8))).set 31 (aFF (m%2))):=by rw[idxOf,H.out];rfl
 have i:=(aFF (m/2*8)).toNat_lt;have g:=(aFF (m%2)).toNat_lt;generalize aFF (m/2*8)=x at*;generalize aFF (m%2)=y at*;have t:w0.cell? ⟨w.heap.size,0,aB⟩=aA (aC aP 0):=by rw[k.out.cell];rfl
 have f0:=k.out.frozen 0;have k1:Hid (cD (w0.setCell ⟨w.heap.size,0,aB⟩ (aC aP (x.toNat:Int))) w.heap.size 5 (iC ((List.replicate 32 0).set 0 x))):=by have:=k.out.dL 0 (aC aP (x.toNat:Int));rw[yS]at this;exact this
 have s:(w0.setCell ⟨w.heap.size,0,aB⟩ (aC aP (x.toNat:Int))).cell? ⟨w.heap.size,31,aB⟩=aA (aC aP 0):=by rw[k1.out.cell,yT _ _ (by simp)];rfl
 have f1:=k1.out.frozen 31;have k2:Hid (cD ((w0.setCell ⟨w.heap.size,0,aB⟩ (aC aP (x.toNat:Int))).setCell ⟨w.heap.size,31,aB⟩ (aC aP (y.toNat:Int))) w.heap.size 5 (iC (idxOf n))):=by have:=k1.out.dL 31 (aC aP (y.toNat:Int));rw[yS,<-o.out]at this;exact this
 have f:(convert 50 9 (aJ (aA ⟨w.heap.size,0,aB⟩) 32 32)).run zq ((w0.setCell ⟨w.heap.size,0,aB⟩ (aC aP (x.toNat:Int))).setCell ⟨w.heap.size,31,aB⟩ (aC aP (y.toNat:Int)))= .ok (aK ⟨(idxOf n).toArray⟩) ((w0.setCell ⟨w.heap.size,0,aB⟩ (aC aP (x.toNat:Int))).setCell ⟨w.heap.size,31,aB⟩ (aC aP (y.toNat:Int))):=by have:=Cf k2.out 32;rw[iS]at this;exact this
 have i1:(0:Int)<=(m:Int)/2*8:=by omega
 have i2:(m:Int)/2*8<256:=by omega
 go_wp2;go_ret;exact⟨rfl,(r.out.setCell (by simp) _).setCell (by simp) _⟩
def valOf (n:Int):zB:=List.replicate ((eP n 30).toNat%5) (aFF (97+(eP n 30).toNat))
def wA (n):(valOf n).length<=4:=by rw[valOf,zDe];omega
def QV (n)(w)(z: -9223372036854775808<=n)(y:n<=9223372036854775807):
  Calls zq 37 #[aC aD n] w λe g=>e=aL (aK ⟨(valOf n).toArray⟩)/\zb w g:=by
 go_enter (Qz.fn func37),ntmps37;go_wp2_with fail;refine(qA n 30 w z y (by omega) (by omega)).mono ?_;rintro e w2 ⟨rfl,h⟩;obtain rfl:w=w2:=h.symm;obtain⟨m,d,c⟩:=iQ n 30 (by omega);have A:Hid (eP n 30=(m:Int)):=d;rw[show eP n 30=(m:Int)from d];have H:Hid (valOf n=List.replicate (m%5) (aFF (97+m))):=by show _=_;rw[valOf,A.out];rfl
 have f:(97:Int)+(m:Int)=((aFF (97+m)).toNat:Int):=by rw[zDr];omega
 have B:=hid f;clear f;obtain⟨r,a⟩:∃r:Nat,r=m%5:=⟨_,rfl⟩;have p:(m:Int)%5=(r:Int):=by omega
 have s:r<5:=by omega
 rw[<-a]at H;clear a;generalize aFF (97+m)=b at*;have t:=b.toNat_lt;go_wp2;go_loopg [4,5] r (λq x i wr=>∃j:Nat,j+q=r/\i=aC aD (j:Int)/\x=aK ⟨(List.replicate j b).toArray⟩/\zb w wr);case atStart=>exact⟨0,by omega,rfl,rfl,zGe _ _⟩
 case round=>
  obtain⟨j,D,rfl,rfl,c1⟩:=hrel
  have C:=hid c1
  clear c1
  by_cases bW:j<r
  .have k:(⟨(List.replicate j b).toArray⟩:ByteArray).size=j:=by show(List.replicate j b).length=j;simp
   have o:(convert 50 9 (aJ (aA ⟨wr.heap.size,0,aB⟩) 1 1)).run zq (wr.alloc (aI #[aC aP (b.toNat:Int)] 5))= .ok (aK ⟨#[b]⟩) (wr.alloc (aI #[aC aP (b.toNat:Int)] 5)):=Cf (l:=[b]) (cD.new _ _ _) 1;have v:Hid ((⟨(List.replicate j b).toArray⟩:ByteArray)++⟨#[b]⟩=⟨(List.replicate (j+1) b).toArray⟩):=by apply zDs;apply zCk.1;simp[zEl,List.replicate_succ']
   have u:=B.out;generalize(⟨(List.replicate j b).toArray⟩:ByteArray)=X at*;go_wp2;go_roundg (r-(j+1));case measure=>omega
   case rel=>
    go_light
    exact⟨j+1,by omega,by go_num,by rw[<-v.out],C.out.alloc C.out.size _⟩
  .obtain rfl:j=r:=by{omega};go_wp2;go_ret;exact⟨by rw[H.out];rfl,C.out⟩
structure bS where
 idx:zB
 val:zB
 gone:Bool
def bS.cells (u:bS):zV:=[aK ⟨u.idx.toArray⟩,aK ⟨u.val.toArray⟩,.bool u.gone]
def cI (l:List bS):zV:=l.flatMap bS.cells
def uO (u)(l):cI (u::l)=u.cells++cI l:=rfl
def JF (l)(u):cI (l++[u])=cI l++u.cells:=by simp[cI]
def mK (l):(cI l).length=l.length*3:=by
 induction l with
 |nil=>rfl
 |cons u l i=>rw[uO,zAi,i,zAh];show 3+_=_;omega
def qK (l):∀(i)(u),l[i]? =aA u->∀j,j<3->(cI l)[i*3+j]? =u.cells[j]? :=by
 induction l with
 |nil=>intro i u h;cases h
 |cons a l b=>
  intro i u h j c;rw[uO];cases i with
  |zero=>simp only[zCw,aE1]at h;subst h;rw[zCz (by show _<3;omega)];simp
  |succ i=>rw[zCu (by show 3<=_;omega),show(i+1)*3+j-a.cells.length=i*3+j by show(i+1)*3+j-3=_;omega];exact b i u (by simpa using h) j c
def NF (u:bS):∀x∈u.cells,x.oneCell'=aE:=by intro x h;simp only[bS.cells,zAe,zAo,zCa]at h;obtain rfl|rfl|rfl:=h<;>rfl
def dE (w:zW)(base:Nat)(v:zY)(l:List bS):Prop:=w.ownsRow base 53 3 v l.length (cI l)
def dE.nil (w)(base):dE w base (aJ aB 0 0) []:=World.ownsRow_nil _ _ _ _
def dE.alloc {w base v l}(h:dE w base v l)(o):dE (w.alloc o) base v l:=World.ownsRow.alloc h o
def dE.lt {w base v l}(h:dE w base v l):∀k,v.ownBlock=aA k->base<=k/\k<w.heap.size:=World.ownsRow.lt h
def dE.kept {w w' base v l}(h:dE w base v l)(b:∀g,v.ownBlock=aA g->w'.heap[g]? =w.heap[g]?):dE w' base v l:=by
 obtain⟨d,a⟩:=h;refine⟨d,?_⟩;obtain a|⟨g,cap,cur,rfl,hb,c,r⟩:=a
 .exact aG a
 .exact aH ⟨g,cap,cur,rfl,hb,by rw[b g rfl];exact c,r⟩
def dE.below {w w':zW}{B base:Nat}{v:zY}{l:List bS}(h:dE w base v l)(b:Below B w w')(c:w.heap.size<=B):dE w' base v l:=
 h.kept λg a=>b.block g (zAc (h.lt g a).2 c)
def QW:∃i,zq.info? 53=aA i/\i.zero=aA (.agg #[aK ⟨#[]⟩,aK ⟨#[]⟩,.bool aF])/\i.size=3/\i.bytes=40:=by
 have h:(zq.info? 53).map (λi=>(i.zero,i.size,i.bytes))=aA (aA (.agg #[aK ⟨#[]⟩,aK ⟨#[]⟩,.bool aF]),3,40):=by kernel_rfl
 cases a:zq.info? 53 with
 |none=>rw[a]at h;cases h
 |some i=>rw[a]at h;simp only[zBe,aE1,aFE]at h;exact⟨i,rfl,h.1,h.2.1,h.2.2⟩
def jZ {W ops rest o a Q}(f:o.guard=aB)(s x)
  (r:o.op= .call {callee:= .builtin .append,args:= #[s,x],argTypes:= #[48,48]})
  (base) (v) (l) (hs:a.eval s=v) (b:dE W base v l) (u) (c) (q:a.eval x=aJ (aA ⟨W.heap.size,0,aB⟩) 1 c)
  (z:l.length<=1000000) (m:base<=W.heap.size)
  (h:∀g cap w',dE w' base (aJ (aA ⟨g,0,aB⟩) (l.length+1) cap) (l++[u])->W.grownBy w' v.ownBlock->wpList zq ops Q rest (a.put o.dst (aJ (aA ⟨g,0,aB⟩) (l.length+1) cap)) w'):wpList zq ops Q (o::rest) a (W.alloc (aI #[aK ⟨u.idx.toArray⟩,aK ⟨u.val.toArray⟩,.bool u.gone] 53)):=by
 obtain⟨i,hi,n,e,k⟩:=QW;refine wpList_append_lies _ f s x 48 r base 53 i _ 3 40 ((Qz.eO 48).trans underlying48) hi n e k rfl (by omega) v l.length (cI l) hs (World.ownsRow.alloc b _) ⟨W.heap.size,0,aB⟩ 1 c u.cells q rfl (λj y p=> ?_) (NF u) (by omega) (by simp only[maxLen];omega) (by omega) (by rw[size_alloc];omega) _ rfl (λg cap w' w t _ _=>h g cap w' ?_ (kV t))
 .have d:(⟨W.heap.size,0,aB⟩:Addr).add j=⟨W.heap.size,j,aB⟩:=by{unfold Addr.add;split<;>simp_all};rw[d];show(W.alloc (aI u.cells.toArray 53)).cell? _=_;rw[(cD.new W 53 u.cells.toArray).cell j];simpa using p
 .unfold dE;rw[JF,zAi];exact w
def eZ {w0 w w':zW}{B base:Nat}{v:zY}{l:List bS}(d:Below B w0 w)(h:dE w base v l)(c:w.grownBy w' v.ownBlock)(e:B<=base)(a:B<=w.heap.size):Below B w0 w':=
 d.grown c a λk b=>zAw e (h.lt k b).1
def dR (r:Int×Int):bS:=if r.2%7=0 then⟨idxOf r.1,[],aE⟩else⟨idxOf r.1,valOf r.2,aF⟩
structure tO (w:zW)(v:zY)(l:zII):Prop where
 fits:∀r∈l,-9223372036854775808<=r.1/\r.1<=9223372036854775807/\-9223372036854775808<=r.2/\r.2<=9223372036854775807
 OP:(l=[]/\∃a c,v=aJ a 0 c)\/∃g o c,v=aJ (aA ⟨g,o,aB⟩) l.length c/\g<w.heap.size/\∀i r,l[i]? =aA r->w.cell? ⟨g,o+i*2,aB⟩=aA (aC aD r.1)/\w.cell? ⟨g,o+i*2+1,aB⟩=aA (aC aD r.2)
def tO.below {w w' B v l}(h:tO w v l)(a:Below B w w')(e:w.heap.size<=B):tO w' v l:=by
 refine⟨h.fits,?_⟩;obtain d|⟨g,o,c,d,b,j⟩:=h.OP
 .exact aG d
 .refine aH ⟨g,o,c,d,zAc b a.size,λi r f=> ?_⟩;rw[a.cell (zAc b e),a.cell (zAc b e)];exact j i r f
def eQ:∀a:zB,Lib.compareBytes a a=0
 |[]=>rfl
 |x::a=>by rw[aFH,zAn (aF0 x),zAn (aF0 x)];exact eQ a
def kY:∀{a b:zB},aFH a b=0->a=b
 |[],[],_=>rfl
 |[],_::_,h=>by simp[aFH]at h
 |_::_,[],h=>by simp[aFH]at h
 |x::a,y::b,h=>by
  rw[aFH]at h;by_cases d:x<y;{rw[zAq d]at h;cases h}
  .rw[zAn d]at h;by_cases c:y<x
   .rw[zAq c]at h;cases h
   .rw[zAn c]at h;have e:=zFy (zEw.1 c) (zEw.1 d);rw[e,kY h]
def iT:∀a b:zB,aFH a b= -1\/aFH a b=0\/aFH a b=1
 |[],[]=>aH (aG rfl)
 |[],_::_=>aG rfl
 |_::_,[]=>aH (aH rfl)
 |x::a,y::b=>by
  rw[aFH];by_cases c:x<y;{rw[zAq c];exact aG rfl}
  .rw[zAn c];by_cases h:y<x
   .rw[zAq h];exact aH (aH rfl)
   .rw[zAn h];exact iT a b
def gT:∀a b:zB,aFH b a= -aFH a b
 |[],[]=>rfl
 |[],_::_=>rfl
 |_::_,[]=>rfl
 |x::a,y::b=>by
  rw[aFH,aFH];by_cases h:x<y;{rw[zAq h,zAn (zEw.2 (UInt8.le_of_lt h)),zAq h];rfl}
  .by_cases c:y<x
   .simp only[zAq c,zAn h]
   .simp only[zAn c,zAn h];exact gT a b
def nM:∀{a b c:zB},aFH a b= -1->aFH b c= -1->aFH a c= -1
 |[],[],_,h,_=>by simp[aFH]at h
 |_::_,[],_,h,_=>by simp[aFH]at h
 |[],_::_,[],_,h=>by simp[aFH]at h
 |[],_::_,_::_,_,_=>rfl
 |_::_,_::_,[],_,h=>by simp[aFH]at h
 |x::a,y::b,z::c,k,i=>by
  rw[aFH]at k i⊢;by_cases g:x<y
  .by_cases d:y<z
   .rw[zAq (UInt8.lt_trans g d)]
   .rw[zAn d]at i;by_cases f:z<y
    .rw[zAq f]at i;simp at i
    .have e:=zFy (zEw.1 f) (zEw.1 d);rw[<-e,zAq g]
  .rw[zAn g]at k;by_cases j:y<x
   .rw[zAq j]at k;simp at k
   .rw[zAn j]at k;have e:=zFy (zEw.1 j) (zEw.1 g);subst e;by_cases d:x<z
    .rw[zAq d]
    .rw[zAn d]at i⊢;by_cases f:z<x
     .rw[zAq f]at i;simp at i
     .rw[zAn f]at i⊢;exact nM k i
def gQ (l:List rU):Prop:=l.Pairwise λa b=>aFH a.1 b.1= -1
def xC (l:List rU)(u:bS):List rU:=
 l.filter (λe=>decide (aFH e.1 u.idx= -1))++((if u.gone then []else [(u.idx,u.val)])++l.filter (λe=>decide (aFH e.1 u.idx=1)))
def cY (l:List rU)(us:List bS):List rU:=us.foldl xC l
def vO {l u}(h:gQ l):gQ (xC l u):=by
 unfold xC gQ;rw[List.pairwise_append,List.pairwise_append];refine⟨h.filter _,⟨?_,h.filter _,?_⟩,?_⟩
 .split<;>simp
 .intro a d b c;split at d
  .cases d
  .rw[zAm]at d;subst d;have:=of_decide_eq_true (zBa.1 c).2;rw[gT b.1 u.idx,this]
 .intro a d b c;have e:=of_decide_eq_true (zBa.1 d).2;obtain c|c:=zAg.1 c
  .split at c
   .cases c
   .rw[zAm]at c;subst c;exact e
  .have f:=of_decide_eq_true (zBa.1 c).2;exact nM e (by rw[gT b.1 u.idx,f])
def xD {us}:∀{l},gQ l->gQ (cY l us):=by
 induction us with
 |nil=>intro l h;exact h
 |cons u us i=>intro l h;exact i (vO h)
def ix (k:Nat):zB:=idxOf (k:Int)
def UI (n):idxOf n=ix (eP n 64).toNat:=by
 unfold ix idxOf;obtain⟨m,h,hl⟩:=iQ n 64 (by omega);have e:eP n 64=(m:Int):=h;rw[e,zGa];have a:eP (m:Int) 64=(m:Int):=by unfold eP;rw[zAn (by omega)];omega
 rw[a,zGa]
def LF (n):(eP n 64).toNat<64:=by obtain⟨m,h,hl⟩:=iQ n 64 (by omega);have e:eP n 64=(m:Int):=h;rw[e,zGa];exact hl
def Ht (k):(ix k).length=32:=iS _
def GH (j k)(a:j<64)(h:k<64):aFH (ix j) (ix k)=if j<k then-1 else if k<j then 1 else 0:=by
 have H:∀j k:Fin 64,aFH (ix j.val) (ix k.val)=if j.val<k.val then-1 else if k.val<j.val then 1 else 0:=by decide+kernel
 exact H ⟨j,a⟩ ⟨k,h⟩
abbrev St:=Nat->Option (zB)
def St.put (s:St)(m:Nat)(v:Option (zB)):St:=λk=>if k=m then v else s k
def dW (s:St)(k:Nat):Option rU:=(s k).map λv=>(ix k,v)
def dG (s:St):List rU:=(List.range 64).filterMap (dW s)
def range_split (m)(b:m<64):List.range 64=List.range m++(m::(List.range (63-m)).map (·+(m+1))):=by
 apply List.ext_getElem (by simp;omega);intro i d c;simp only[List.getElem_range];by_cases h:i<m
 .rw[List.getElem_append_left (by simpa using h)];simp
 .rw[List.getElem_append_right (by simpa using zEy.1 h)];simp only[List.length_range];by_cases a:i=m
  .subst a;simp
  .obtain⟨j,rfl⟩:∃j,i=m+1+j:=⟨i-(m+1),by omega⟩;simp[show m+1+j-m=j+1 by omega];omega
def oA {s s':St}{l:List Nat}(h:∀k∈l,s k=s' k):l.filterMap (dW s)=l.filterMap (dW s'):=
 by
 induction l with
 |nil=>rfl
 |cons a l i=>have e:dW s a=dW s' a:=by{unfold dW;rw[h a (zBk ..)]};rw[zEf,zEf,e,i λk b=>h k (zBh _ b)]
def filter_all {s}{l:List Nat}{p}(h:∀k∈l,∀v,p (ix k,v)=aE):(l.filterMap (dW s)).filter p=l.filterMap (dW s):=by
 rw[zFi];intro e d;obtain⟨k,c,a⟩:=zFx.1 d;unfold dW at a;cases b:s k with
 |none=>rw[b]at a;cases a
 |some v=>rw[b]at a;simp only[zBe,aE1]at a;subst a;exact h k c v
def filter_none {s}{l:List Nat}{p}(h:∀k∈l,∀v,p (ix k,v)=aF):(l.filterMap (dW s)).filter p=[]:=by
 rw[zFm];intro e d;obtain⟨k,c,a⟩:=zFx.1 d;unfold dW at a;cases b:s k with
 |none=>rw[b]at a;cases a
 |some v=>rw[b]at a;simp only[zBe,aE1]at a;subst a;rw[h k c v];decide
def Lx (s)(m)(d:m<64)(v)(g):xC (dG s) ⟨ix m,v,g⟩=dG (s.put m (if g then aB else aA v)):=by
 unfold dG xC;have a:∀k∈List.range m,k<m:=λk h=>zBu.1 h;have b:∀k∈(List.range (63-m)).map (·+(m+1)),m<k/\k<64:=λk h=>by obtain⟨j,u,rfl⟩:=zCg.1 h;have:=zBu.1 u;omega
 rw[range_split m d];simp only[zEk,zEf,zDh];generalize List.range m=A at*;generalize(List.range (63-m)).map (·+(m+1))=C at*;have q:(A.filterMap (dW s)).filter (λe=>decide (aFH e.1 (ix m)= -1))=A.filterMap (dW s):=filter_all λk h v=>by have:=a k h;rw[show((ix k,v):rU).1=ix k from rfl,GH k m (by omega) d,zAq this];decide
 have p:(A.filterMap (dW s)).filter (λe=>decide (aFH e.1 (ix m)=1))=[]:=filter_none λk h v=>by have:=a k h;rw[show((ix k,v):rU).1=ix k from rfl,GH k m (by omega) d,zAq this];decide
 have i:(C.filterMap (dW s)).filter (λe=>decide (aFH e.1 (ix m)= -1))=[]:=filter_none λk h v=>by have:=b k h;rw[show((ix k,v):rU).1=ix k from rfl,GH k m (by omega) d,zAn (by omega),zAq (by omega)];decide
 have f:(C.filterMap (dW s)).filter (λe=>decide (aFH e.1 (ix m)=1))=C.filterMap (dW s):=filter_all λk h v=>by have:=b k h;rw[show((ix k,v):rU).1=ix k from rfl,GH k m (by omega) d,zAn (by omega),zAq (by omega)];decide
 have o:A.filterMap (dW (s.put m (if g then aB else aA v)))=A.filterMap (dW s):=oA λk h=>by have:=a k h;unfold St.put;rw[zAn (by omega)]
 have n:C.filterMap (dW (s.put m (if g then aB else aA v)))=C.filterMap (dW s):=oA λk h=>by have:=b k h;unfold St.put;rw[zAn (by omega)]
 have l:dW (s.put m (if g then aB else aA v)) m=if g then aB else aA (ix m,v):=by unfold dW St.put;rw[zAq rfl];cases g<;>rfl
 rw[o,n,l,q,p];cases c:dW s m with
 |none=>rw[i,f];cases g<;>simp
 |some e=>
  have t:aFH e.1 (ix m)=0:=by
   unfold dW at c;cases r:s m with
   |none=>rw[r]at c;cases c
   |some x=>rw[r]at c;simp only[zBe,aE1]at c;rw[<-c];exact eQ _
  rw[zAs (by rw[t];decide),zAs (by rw[t];decide),i,f];cases g<;>simp
def St.with (s:St)(l:zII):St:=(l.take 20).foldl (λs r=>s.put (eP r.1 64).toNat (if r.2%7=0 then aB else aA (valOf r.2))) s
def Ei (s)(l):cY (dG s) ((l.take 20).map dR)=dG (s.with l):=by
 unfold cY St.with;generalize l.take 20=r;induction r generalizing s with
 |nil=>rfl
 |cons x r i=>rw[zDw,zEx,zEx,<-i];congr 1;unfold dR;by_cases h:x.2%7=0;{rw[zAq h,zAq h,UI,Lx _ _ (LF _)];rfl};{rw[zAn h,zAn h,UI,Lx _ _ (LF _)];rfl}
def Ku {s e}(h:e∈dG s):∃k,k<64/\e.1=ix k/\s k=aA e.2:=by
 obtain⟨k,c,a⟩:=zFx.1 h;unfold dW at a;cases b:s k with
 |none=>rw[b]at a;cases a
 |some v=>rw[b]at a;simp only[zBe,aE1]at a;subst a;exact⟨k,zBu.1 c,rfl,b⟩
def Jy {s:St}(a:∀k v,s k=aA v->v.length<=100)(l):∀k v,s.with l k=aA v->v.length<=100:=by
 unfold St.with;generalize l.take 20=r;induction r generalizing s with
 |nil=>exact a
 |cons x r i=>
  rw[zEx];refine i λk v h=> ?_;unfold St.put at h;split at h
  .split at h
   .cases h
   .have:=wA x.2;simp only[aE1]at h;subst h;omega
  .exact a k v h
def RM (s):gQ (dG s):=by
 unfold dG gQ;have h:(List.range 64).Pairwise (·<·):=List.pairwise_lt_range;rw[List.pairwise_filterMap];refine h.imp_of_mem λ{j k} i g f=> ?_;intro a d b c;have m:a.1=ix j:=by
  unfold dW at d;cases e:s j with
  |none=>rw[e]at d;cases d
  |some v=>rw[e]at d;simp only[zBe,aE1]at d;rw[<-d]
 have l:b.1=ix k:=by
  unfold dW at c;cases e:s k with
  |none=>rw[e]at c;cases c
  |some v=>rw[e]at c;simp only[zBe,aE1]at c;rw[<-c]
 rw[m,l,GH j k (zBu.1 i) (zBu.1 g),zAq f]
def JG {α β:Type}(l:List α)(f:α->β)(t)(h:t<l.length):(l.take (t+1)).map f=(l.take t).map f++[f l[t]]:=by rw[zCp h,zDi];rfl
def tO.at {w w' v vc l}(h:tO w (aJ v l.length vc) l)(d:zb w w')(t)(b:t<l.length):
  ∃g o,v=aA ⟨g,o,aB⟩/\w'.cell? ⟨g,o+t*2,aB⟩=aA (aC aD l[t].1)/\w'.cell? ⟨g,o+t*2+1,aB⟩=aA (aC aD l[t].2):=by
 obtain⟨rfl,_⟩|⟨g,o,c,a,e,f⟩:=h.OP
 .simp at b
 .injection a with a _ _;have:=f t l[t] (zAf b);refine⟨g,o,a,?_,?_⟩
  .rw[d.cell e];exact this.1
  .rw[d.cell e];exact this.2
def MS (v)(l)(w)(hl:tO w v l)(hlen:l.length<=4611686018427387904):
  Calls zq 20 #[v] w λe G=>∃U,e=aL U/\dE G w.heap.size U ((l.take 20).map dR)/\zb w G:=by
 obtain⟨T,S,hv⟩:∃T S,v=aJ T l.length S:=by obtain⟨rfl,a,c,rfl⟩|⟨g,o,c,rfl,_⟩:=hl.OP;{exact⟨a,c,rfl⟩};{exact⟨_,c,rfl⟩}
 subst hv;have Q:=hid hl;go_enter (Qz.fn func20),ntmps20;go_wp2;go_loopg [3,4] 20 (λq out i wr=>∃t:Nat,t+q=20/\t<=l.length/\i=aC aD (t:Int)/\zb w wr/\dE wr w.heap.size out ((l.take t).map dR));case atStart=>exact⟨0,rfl,zBr _,rfl,zGe _ _,dE.nil _ _⟩
 case round=>
  obtain⟨t,ht,dq,rfl,b1,b2⟩:=hrel
  have B:=hid b1
  have K:=hid b2
  by_cases L:t<l.length/\t<20
  .obtain⟨bW,kz⟩:=L;have dt:(t:Int)<(l.length:Int):=by{omega};have Y:(t:Int)<20:=by omega
   obtain⟨g,o,rfl,c1,_⟩:=Q.out.at B.out t bW;have d:=Q.out.fits l[t] (zCx _);have E:Hid (∀W,zb w W->W.cell? ⟨g,o+t*2+1,aB⟩=aA (aC aD l[t].2)):=λW hW=>by obtain⟨g',o',e,_,Z⟩:=Q.out.at hW t bW;injection e with e;injection e with O N;subst O;subst N;exact Z
   have Hs:=hid (JG l dR t bW);generalize l[t]=r at*;obtain⟨r1,r2⟩:=r;dsimp only at*;go_wp2_with fail;refine(tD r1 wr d.1 d.2.1).mono ?_;rintro e w2 ⟨rfl,x⟩;have k:=hid (B.out.trans (x.mono B.out.size));have R:=hid (K.out.below x (zAb _));clear x c1 B K;go_upto_region 6 with(fail)
   have A:Hid (cD (w2.alloc (aI #[aK ⟨(idxOf r1).toArray⟩,aK ⟨#[]⟩,.bool aF] 53)) w2.heap.size 53 #[aK ⟨(idxOf r1).toArray⟩,aK ⟨#[]⟩,.bool aF]):=cD.new _ _ _;have f:Hid (zb w (w2.alloc (aI #[aK ⟨(idxOf r1).toArray⟩,aK ⟨#[]⟩,.bool aF] 53))):=k.out.alloc k.out.size _;have J:Hid (dE (w2.alloc (aI #[aK ⟨(idxOf r1).toArray⟩,aK ⟨#[]⟩,.bool aF] 53)) w.heap.size u3 ((l.take t).map dR)):=R.out.alloc _;have X:=k.out.size;have HN:Hid (∀g,u3.ownBlock=aA g->g<w2.heap.size):=λg C=>(R.out.lt g C).2;generalize w2.alloc (aI #[aK ⟨(idxOf r1).toArray⟩,aK ⟨#[]⟩,.bool aF] 53)=w3 at*;clear k R;have c3:=E.out w3 f.out;by_cases I:r2%7=0
   .have M:=Int.tmod_eq_zero_of_dvd (Int.dvd_of_emod_eq_zero I);have N:w3.cell? ⟨w2.heap.size,2,aB⟩=aA (.bool aF):=by{rw[A.out.cell];rfl};have f2:=A.out.frozen 2;have P:dR (r1,r2)=⟨idxOf r1,[],aE⟩:=zAq I;go_upto_region 9 with(fail)
    have z:Hid (cD (w3.setCell ⟨w2.heap.size,2,aB⟩ (.bool aE)) w2.heap.size 53 #[aK ⟨(idxOf r1).toArray⟩,aK ⟨#[]⟩,.bool aE]):=A.out.dL 2 _;have H:Hid (zb w (w3.setCell ⟨w2.heap.size,2,aB⟩ (.bool aE))):=f.out.setCell X _;have C4:Hid (dE (w3.setCell ⟨w2.heap.size,2,aB⟩ (.bool aE)) w.heap.size u3 ((l.take t).map dR)):=J.out.kept λg C=>zGh _ _ _ _ (by have:=HN.out g C;simp only;omega);generalize w3.setCell ⟨w2.heap.size,2,aB⟩ (.bool aE)=w4 at*;clear A f J N f2 c3;have u:=H.out.size;have j:((l.take t).map dR).length=t:=by{rw[zDj,zBj];omega};have p:((l.take t).map dR).length<=1000000:=by{omega};have y:=hid j;clear j;go_wp2_with (first|(refine zGm rfl 53 _ rfl w2.heap.size rfl 53 _ (0,0) _ z.out ((Qz.eO 53).trans underlying53) rfl (by kernel_rfl) ?_)|(at_builtin;refine jZ rfl _ _ rfl w.heap.size _ _ rfl C4.out ⟨idxOf r1,[],aE⟩ 1 rfl p u ?_;intro g' D G b s));go_roundg (19-t);case measure=>omega
    case rel=>
     go_light
     refine⟨t+1,by omega,by omega,by go_num,eZ H.out C4.out s (zAb _) H.out.size,?_⟩
     rw[Hs.out,show dR (r1,r2)=⟨idxOf r1,[],aE⟩from P]
     rw[y.out]at b
     exact b
   .have M:¬r2.tmod 7=0:=λh=>I (Int.emod_eq_zero_of_dvd (Int.dvd_of_tmod_eq_zero h));have P:dR (r1,r2)=⟨idxOf r1,valOf r2,aF⟩:=zAn I;go_wp2_with fail;refine(QV r2 w3 d.2.2.1 d.2.2.2).mono ?_;rintro e w5 ⟨rfl,m⟩;have n:Hid (cD w5 w2.heap.size 53 #[aK ⟨(idxOf r1).toArray⟩,aK ⟨#[]⟩,.bool aF]):=A.out.below m A.out.lt;have F:Hid (zb w w5):=f.out.trans (m.mono f.out.size);have C5:Hid (dE w5 w.heap.size u3 ((l.take t).map dR)):=J.out.below m (zAb _);have O:w5.cell? ⟨w2.heap.size,1,aB⟩=aA (aK ⟨#[]⟩):=by{rw[n.out.cell];rfl};have f1:w5.frozen? ⟨w2.heap.size,1,aB⟩=aF:=n.out.frozen 1;clear m A f J c3;go_upto_region 9 with(fail)
    have z:Hid (cD (w5.setCell ⟨w2.heap.size,1,aB⟩ (aK ⟨(valOf r2).toArray⟩)) w2.heap.size 53 #[aK ⟨(idxOf r1).toArray⟩,aK ⟨(valOf r2).toArray⟩,.bool aF]):=n.out.dL 1 _;have H:Hid (zb w (w5.setCell ⟨w2.heap.size,1,aB⟩ (aK ⟨(valOf r2).toArray⟩))):=F.out.setCell X _;have C4:Hid (dE (w5.setCell ⟨w2.heap.size,1,aB⟩ (aK ⟨(valOf r2).toArray⟩)) w.heap.size u3 ((l.take t).map dR)):=C5.out.kept λg C=>zGh _ _ _ _ (by have:=HN.out g C;simp only;omega);generalize w5.setCell ⟨w2.heap.size,1,aB⟩ (aK ⟨(valOf r2).toArray⟩)=w4 at*;clear n F C5 O f1;have u:=H.out.size;have j:((l.take t).map dR).length=t:=by{rw[zDj,zBj];omega};have p:((l.take t).map dR).length<=1000000:=by{omega};have y:=hid j;clear j;go_wp2_with (first|(refine zGm rfl 53 _ rfl w2.heap.size rfl 53 _ (0,0) _ z.out ((Qz.eO 53).trans underlying53) rfl (by kernel_rfl) ?_)|(at_builtin;refine jZ rfl _ _ rfl w.heap.size _ _ rfl C4.out ⟨idxOf r1,valOf r2,aF⟩ 1 rfl p u ?_;intro g' D G b s));go_roundg (19-t);case measure=>omega
    case rel=>
     go_light
     refine⟨t+1,by omega,by omega,by go_num,eZ H.out C4.out s (zAb _) H.out.size,?_⟩
     rw[Hs.out,show dR (r1,r2)=⟨idxOf r1,valOf r2,aF⟩from P]
     rw[y.out]at b
     exact b
  .have V:(l.take t).map dR=(l.take 20).map dR:=by
    by_cases h:t<l.length;{obtain rfl:t=20:=by{omega};rfl};{rw[zBv (by omega),zBv (by omega)]}
   have Hq:=hid V;clear V;by_cases h:t<l.length;{have h1:(t:Int)<(l.length:Int):=by{omega};have Z:¬(t:Int)<20:=by{omega};go_wp2;go_ret;exact⟨u3,rfl,by rw[<-List.map_take,<-Hq.out];exact K.out,B.out⟩};{have h1:¬(t:Int)<(l.length:Int):=by{omega};go_wp2;go_ret;exact⟨u3,rfl,by rw[<-List.map_take,<-Hq.out];exact K.out,B.out⟩}
def St.one (s:St)(r:Int×Int):St:=s.put (eP r.1 64).toNat (if r.2%7=0 then aB else aA (valOf r.2))
def KL (s)(l:zII):s.with l=(l.take 20).foldl St.one s:=rfl
def fM:Nat->List rU->List rU->Nat->Nat
 |0,_,_,_=>0
 |f+1,l,w,d=>if l.length<2\/l=w then 0 else 1+(fM f (cV l d 0) (cV w d 0) (d+1)+fM f (cV l d 1) (cV w d 1) (d+1))
def TS (l w:List rU):Nat:=(l.filter λe=> !w.contains e).length+fM 256 l w 0
def GL (l)(d):(cV l d 0).length+(cV l d 1).length=l.length:=by
 unfold cV;induction l with
 |nil=>rfl
 |cons e l i=>obtain h|h:=jQ e.1 d;{rw[zBd (by rw[h];rfl),zAs (by rw[h];decide),zAh,zAh];omega};{rw[zAs (by rw[h];decide),zBd (by rw[h];rfl),zAh,zAh];omega}
def sU:∀(f:Nat)(l w:List rU)(d:Nat),fM f l w d<=f*(l.length-1)
 |0,_,_,_=>zBr _
 |f+1,l,w,d=>by rw[fM];split;{exact zBr _};{rename_i h;have i:=sU f (cV l d 0) (cV w d 0) (d+1);have g:=sU f (cV l d 1) (cV w d 1) (d+1);have hl:=GL l d;have c:2<=l.length:=by{omega};generalize(cV l d 0).length=a at*;generalize(cV l d 1).length=b at*;generalize l.length=n at*;subst hl;have e:(f+1)*(a+b-1)=f*(a+b-1)+(a+b-1):=by{rw[aFM]};have j:f*(a-1)+f*(b-1)<=f*(a+b-1):=by{rw[<-aFN];exact aFO _ (by omega)};rw[e];omega}
def YX (f)(l)(d):fM f l l d=0:=by
 cases f with
 |zero=>rfl
 |succ f=>rw[fM,zAq (aH rfl)]
def YW (f)(l w)(d):fM (f+1) l w d<=1+(fM f (cV l d 0) (cV w d 0) (d+1)+fM f (cV l d 1) (cV w d 1) (d+1)):=by
 rw[fM];split
 .exact zBr _
 .exact zAb _
def iW (l:List rU):Nat->Nat->List rU
 |0,_=>l
 |n+1,p=>cV (iW l n (p/2)) n (p%2)
def sumTo (f:Nat->Nat):Nat->Nat
 |0=>0
 |n+1=>sumTo f n+f n
def sumTo_le {f g:Nat->Nat}:∀n,(∀i,i<n->f i<=g i)->sumTo f n<=sumTo g n
 |0,_=>zAb _
 |n+1,h=>aFP (sumTo_le n λi hi=>h i (by omega)) (h n (by omega))
def KR (f:Nat->Nat):∀n,sumTo f (2*n)=sumTo (λp=>f (2*p)+f (2*p+1)) n
 |0=>rfl
 |n+1=>by rw[show 2*(n+1)=2*n+1+1 by omega,sumTo,sumTo,KR f n,sumTo];omega
def TL (l w)(f):∀n,fM (n+f) l w 0<=(2^n-1)+sumTo (λp=>fM f (iW l n p) (iW w n p) n) (2^n):=by
 intro n;induction n generalizing f with
 |zero=>simp[sumTo,iW]
 |succ n b=>
  have h:=b (f+1);rw[show n+1+f=n+(f+1) by omega];have d:sumTo (λp=>fM (f+1) (iW l n p) (iW w n p) n) (2^n)<=sumTo (λp=>1+(fM f (iW l (n+1) (2*p)) (iW w (n+1) (2*p)) (n+1)+fM f (iW l (n+1) (2*p+1)) (iW w (n+1) (2*p+1)) (n+1))) (2^n):=sumTo_le _ λp _=>by have:=YW f (iW l n p) (iW w n p) n;rw[iW,iW,iW,iW,show 2*p/2=p by omega,show(2*p+1)/2=p by omega,show 2*p%2=0 by omega,show(2*p+1)%2=1 by omega];exact this
  have c:∀(g:Nat->Nat) m,sumTo (λp=>1+g p) m=m+sumTo g m:=by
   intro g m;induction m with
   |zero=>rfl
   |succ m i=>rw[sumTo,sumTo,i];omega
  rw[c]at d;have a:=KR (λp=>fM f (iW l (n+1) p) (iW w (n+1) p) (n+1)) (2^n);rw[show 2*2^n=2^(n+1) by rw[aFQ];omega]at a;have j:2^(n+1)=2*2^n:=by{rw[aFQ];omega};have e:=Nat.two_pow_pos n;rw[a];omega
def cR (s:St)(p:Nat):List rU:=[2*p,2*p+1].filterMap (dW s)
def Cx (k)(h:k<64)(i)(hi:i<5):bZ (ix k) i=k/2/2^(4-i)%2:=by
 have H:∀k:Fin 64,∀i:Fin 5,bZ (ix k.val) i.val=k.val/2/2^(4-i.val)%2:=by decide+kernel
 exact H ⟨k,h⟩ ⟨i,hi⟩
def ig (p q)(b:p<32)(a:q<32)(h:∀i,i<5->p/2^(4-i)%2=q/2^(4-i)%2):p=q:=by
 have H:∀p q:Fin 32,(∀i:Fin 5,p.val/2^(4-i.val)%2=q.val/2^(4-i.val)%2)->p=q:=by decide+kernel
 exact congrArg Fin.val (H ⟨p,b⟩ ⟨q,a⟩ λi=>h i.val i.isLt)
def OW (n p:Nat)(x:zB):Bool:=decide (∀i,i<n->bZ x i=p/2^(n-1-i)%2)
def qW (n p)(x):OW n p x=aE↔∀i,i<n->bZ x i=p/2^(n-1-i)%2:=by unfold OW;exact decide_eq_true_iff
def SW (l):∀n p,iW l n p=l.filter λe=>OW n p e.1:=by
 intro n;induction n with
 |zero=>intro p;rw[iW,zFi.2];intro e _;rw[qW];intro i hi;omega
 |succ n b=>
  intro p;rw[iW,cV,b,zEj];apply List.filter_congr;intro e _;rw[aFG,zBc,qW,qW,zCo];constructor
  .rintro⟨c,a⟩ i hi;by_cases h:i=n
   .subst h;rw[show i+1-1-i=0 by omega,aFR,aFS];exact c
   .rw[a i (by omega),show n+1-1-i=(n-1-i)+1 by omega,aFQ,aFT,aFU]
  .intro a;refine⟨?_,λi hi=> ?_⟩
   .have:=a n (by omega);rw[show n+1-1-n=0 by omega,aFR,aFS]at this;exact this
   .rw[a i (by omega),show n+1-1-i=(n-1-i)+1 by omega,aFQ,aFT,aFU]
def LI (s)(p)(e:p<32):iW (dG s) 5 p=cR s p:=by
 rw[SW];have c:∀k,k<64->OW 5 p (ix k)=decide (k/2=p):=λk b=>by rw[aFG,qW,zBl];constructor;{intro h;exact ig _ _ (by omega) e λi hi=>by rw[<-Cx k b i hi];exact h i hi};{intro h i hi;rw[Cx k b i hi,h]}
 unfold dG cR;rw[range_split (2*p) (by omega)];have d:(List.range (63-2*p)).map (·+(2*p+1))=(2*p+1)::(List.range (62-2*p)).map (·+(2*p+2)):=by rw[show 63-2*p=(62-2*p)+1 by omega,List.range_succ_eq_map,zDw,zEh];congr 1;{omega};{apply zFh;intro a _;show a+1+(2*p+1)=a+(2*p+2);omega}
 rw[d,show List.range (2*p)++2*p::(2*p+1)::(List.range (62-2*p)).map (·+(2*p+2))=List.range (2*p)++([2*p,2*p+1]++(List.range (62-2*p)).map (·+(2*p+2)))from rfl];rw[zEk,zEk,zDh,zDh];rw[filter_none (λk b v=>by have:=zBu.1 b;refine(c k (by omega)).trans ?_;rw[zEr];omega)]
 rw[filter_all (λk b v=>by
   have:k=2*p\/k=2*p+1:=by simpa using b
   refine(c k (by omega)).trans ?_;rw[zBl];omega)]
 rw[filter_none (λk b v=>by obtain⟨j,f,rfl⟩:=zCg.1 b;have:=zBu.1 f;refine(c (j+(2*p+2)) (by omega)).trans ?_;rw[zEr];omega)]
 simp
def Mh (s)(p):(cR s p).length<=2:=by have:=zFz (dW s) [2*p,2*p+1];exact this
def cnt (b:Nat->Bool)(n:Nat):Nat:=sumTo (λp=>if b p then 1 else 0) n
def Ao {a b c:Nat->Bool}:∀n,(∀p,p<n->c p=aE->a p=aE\/b p=aE)->cnt c n<=cnt a n+cnt b n
 |0,_=>zAb _
 |n+1,h=>by
  have i:=Ao (a:=a) (b:=b) (c:=c) n λp g=>h p (by omega);have d:=h n (by omega);unfold cnt at i⊢;rw[sumTo,sumTo,sumTo];cases e:c n with
  |false=>simp only[zAz,zDc];omega
  |true=>obtain f|hb:=d e;{rw[f];simp only[zCq];omega};{rw[hb];simp only[zCq];omega}
def PL {b:Nat->Bool}(p0:Nat):∀n,(∀p,p≠p0->b p=aF)->cnt b n<=if p0<n then 1 else 0
 |0,_=>zBr _
 |n+1,h=>by
  have i:=PL p0 n h;unfold cnt at i⊢;rw[sumTo];by_cases e:n=p0;{subst e;rw[zAn (show¬n<n by omega)]at i;rw[zAq (show n<n+1 by omega)];split<;>omega}
  .rw[h n e];simp only[zAz,zDc];split at i
   .rename_i a;rw[zAq (show p0<n+1 by omega)];omega
   .omega
def VK {b}(n)(h:∀p,p<n->b p=aF):cnt b n=0:=by
 induction n with
 |zero=>rfl
 |succ n i=>unfold cnt at*;rw[sumTo,i λp a=>h p (by omega),h n (by omega)];rfl
def NM (c:Nat)(b:Nat->Bool):∀n,sumTo (λp=>if b p then c else 0) n=c*cnt b n
 |0=>rfl
 |n+1=>by unfold cnt;rw[sumTo,sumTo,NM c b n,aFN];unfold cnt;split<;>simp
def fD (s s':St)(p:Nat):Bool:=decide (cR s' p≠cR s p)
def lM (s:St)(p:Nat):Bool:=decide ((cR s p).length=2)
def jN (s s':St)(k:Nat):Bool:=decide (s' k≠s k)
def TK (s s'):fM 256 (dG s') (dG s) 0<=31+251*cnt (λp=>fD s s' p&&lM s' p) 32:=by
 have h:=TL (dG s') (dG s) 251 5;rw[<-NM];refine zAw h (Nat.add_le_add_left (sumTo_le _ λp b=> ?_) _);rw[LI s' p b,LI s p b];have a:=sU 251 (cR s' p) (cR s p) 5;have e:=Mh s' p;by_cases c:cR s' p=cR s p
 .rw[c,YX];exact zBr _
 .by_cases d:(cR s' p).length=2
  .rw[zAq (by simp[fD,lM,c,d])];rw[d]at a;exact a
  .have:(cR s' p).length-1=0:=by{omega};rw[this]at a;omega
def MA (s s'):((dG s').filter λe=> !(dG s).contains e).length<=cnt (jN s s') 64:=by
 have c:∀k,k<64->∀v,s' k=aA v->(!(dG s).contains (ix k,v))=aE->jN s s' k=aE:=λk d v b a=>by unfold jN;rw[zBl];intro h;rw[b]at h;have:(dG s).contains (ix k,v)=aE:=List.elem_iff.2 (zFx.2 ⟨k,zBu.2 d,by unfold dW;rw[<-h];rfl⟩);rw[this]at a;cases a
 have H:∀n,n<=64->(((List.range n).filterMap (dW s')).filter λe=> !(dG s).contains e).length<=cnt (jN s s') n:=by
  intro n;induction n with
  |zero=>intro _;exact zAb _
  |succ n i=>
   intro f;have i:=i (by omega);unfold cnt at i⊢;rw[List.range_succ,zEk,zDh,zAi,sumTo];refine aFP i ?_;cases b:s' n with
   |none=>simp[dW,b]
   |some v=>have e:[n].filterMap (dW s')=[(ix n,v)]:=by{simp[dW,b]};rw[e];by_cases a:(!(dG s).contains (ix n,v))=aE;{rw[zBd (p:=λe=> !(dG s).contains e) a,c n (by omega) v b a];exact zAb _};{rw[zAs (p:=λe=> !(dG s).contains e) a];exact zBr _}
 exact H 64 (zAb _)
def SY (s)(m p)(v)(h:p≠m/2):cR (s.put m v) p=cR s p:=by
 exact oA λk a=>by have:k=2*p\/k=2*p+1:=by{simpa using a};unfold St.put;rw[zAn (by omega)]
def GQ (r:zII):∀s:St,cnt (fD s (r.foldl St.one s)) 32<=r.length/\cnt (jN s (r.foldl St.one s)) 64<=r.length:=by
 induction r with
 |nil=>intro s;exact⟨aFV (VK _ λp _=>by simp[fD]),aFV (VK _ λp _=>by simp[jN])⟩
 |cons x r i=>
  intro s;obtain⟨k,j⟩:=i (s.one x);rw[zEx,zAh];constructor
  .have g:=Ao (a:=fD (s.one x) (r.foldl St.one (s.one x))) (b:=fD s (s.one x)) (c:=fD s (r.foldl St.one (s.one x))) 32 λp _ h=>by
    unfold fD at*;rw[zBl]at*;rw[zBl];by_cases e:cR (s.one x) p=cR s p;{exact aG (by rw[e];exact h)};{exact aH e}
   have f:=PL (b:=fD s (s.one x)) ((eP x.1 64).toNat/2) 32 λp d=>by unfold fD;rw[zEr,Decidable.not_not];exact SY s _ p _ d
   split at f<;>omega
  .have g:=Ao (a:=jN (s.one x) (r.foldl St.one (s.one x))) (b:=jN s (s.one x)) (c:=jN s (r.foldl St.one (s.one x))) 64 λp _ h=>by
    unfold jN at*;rw[zBl]at*;rw[zBl];by_cases e:(s.one x) p=s p;{exact aG (by rw[e];exact h)};{exact aH e}
   have f:=PL (b:=jN s (s.one x)) (eP x.1 64).toNat 64 λp d=>by unfold jN St.one St.put;rw[zEr,Decidable.not_not,zAn d]
   split at f<;>omega
def Wu (s:St):Nat:=sumTo (λp=>(cR s p).length) 32
def Ce {f g:Nat->Nat}(p0:Nat):∀n,(∀p,p≠p0->f p=g p)->f p0<=g p0+1->sumTo f n<=sumTo g n+if p0<n then 1 else 0
 |0,_,_=>zBr _
 |n+1,h,a=>by
  have i:=Ce p0 n h a;rw[sumTo,sumTo];by_cases e:n=p0;{subst e;rw[zAn (show¬n<n by omega)]at i;rw[zAq (show n<n+1 by omega)];omega}
  .rw[h n e];split at i
   .rename_i b;rw[zAq (show p0<n+1 by omega)];omega
   .omega
def OJ (s)(m)(v)(p):(cR (s.put m v) p).length<=(cR s p).length+1:=by
 have hl:∀t:St,(cR t p).length=(if(t (2*p)).isSome then 1 else 0)+(if(t (2*p+1)).isSome then 1 else 0):=λt=>by
  unfold cR;rw[zEf,zEf,List.filterMap_nil];cases a:t (2*p)with
  |none=>
   cases h:t (2*p+1)with
   |none=>simp[dW,a,h]
   |some x=>simp[dW,a,h]
  |some y=>
   cases h:t (2*p+1)with
   |none=>simp[dW,a,h]
   |some x=>simp[dW,a,h]
 rw[hl,hl];unfold St.put;by_cases a:2*p=m
 .rw[zAq a,zAn (show¬2*p+1=m by omega)];split<;>split<;>split<;>omega
 .rw[zAn a];by_cases h:2*p+1=m
  .rw[zAq h];split<;>split<;>split<;>omega
  .rw[zAn h];omega
def Kl (r:zII):∀s:St,Wu (r.foldl St.one s)<=Wu s+r.length:=by
 induction r with
 |nil=>intro s;exact zAb _
 |cons x r i=>
  intro s;have c:=i (s.one x);have a:=Ce (f:=λp=>(cR (s.one x) p).length) ((eP x.1 64).toNat/2) 32 (λp h=>by show(cR (s.put _ _) p).length=_;rw[SY s _ p _ h]) (OJ s _ _ _)
  rw[zEx,zAh];have b:Wu (s.one x)<=Wu s+1:=by unfold Wu;split at a<;>omega
  omega
def Pp (s):2*cnt (lM s) 32<=Wu s:=by
 rw[<-NM];refine sumTo_le _ λp _=> ?_;unfold lM;by_cases h:(cR s p).length=2
 .rw[zAq (by rw[h];rfl),h];exact zAb _
 .rw[zAn (by rw[zBl];exact h)];exact zBr _
def cnt_mono {a b}(n)(h:∀p,p<n->a p=aE->b p=aE):cnt a n<=cnt b n:=by
 refine sumTo_le _ λp c=> ?_;cases d:a p with
 |false=>simp
 |true=>rw[h p c d];exact zAb _
def Hf (s)(l):TS (dG (s.with l)) (dG s)<=5071:=by
 obtain⟨b,a⟩:=GQ (l.take 20) s;have f:=TK s (s.with l);have e:=MA s (s.with l);have d:cnt (λp=>fD s (s.with l) p&&lM (s.with l) p) 32<=cnt (fD s (s.with l)) 32:=cnt_mono 32 λp _ h=>(zBc _ _▸h).1;have c:(l.take 20).length<=20:=by rw[zBj];omega
 rw[<-KL]at b a;unfold TS;omega
def YY (l):TS (dG (St.with (λ_=>aB) l)) []<=2561:=by
 obtain⟨f,e⟩:=GQ (l.take 20) (λ_=>aB);have d:=TK (λ_=>aB) (St.with (λ_=>aB) l);have c:=MA (λ_=>aB) (St.with (λ_=>aB) l);have k:cnt (λp=>fD (λ_=>aB) (St.with (λ_=>aB) l) p&&lM (St.with (λ_=>aB) l) p) 32<=cnt (lM (St.with (λ_=>aB) l)) 32:=cnt_mono 32 λp _ h=>(zBc _ _▸h).2;have j:(l.take 20).length<=20:=by rw[zBj];omega
 have i:=Pp (St.with (λ_=>aB) l);have b:=Kl (l.take 20) (λ_=>aB);have g:Wu (λ_=>aB)=0:=by decide+kernel
 rw[<-KL]at f e b;have a:dG (λ_=>aB)=[]:=by decide+kernel
 rw[a]at d c;unfold TS;omega
def mL (rs:Nat->zII):Nat->St
 |0=>λ_=>aB
 |j+1=>(mL rs j).with (rs j)
open Go Go.RowKit Sha Go.Ga Go.Ren
abbrev ptr:Option Nat->zY
 |none=> .pointer aB
 |some b=>aN (aA ⟨b,0,aB⟩)
def mH (z o:Option Nat)(i v g:zB)(hs:Int):zA:= #[ptr z,ptr o,aK ⟨i.toArray⟩,aK ⟨v.toArray⟩,aK ⟨g.toArray⟩,aC aD hs]
structure aX (w:zW)(b:Nat)(z o:Option Nat)(i v g:zB)(hs:Int):Prop where
 at':∃fr,w.heap[b]? =aA (aI (mH z o i v g hs) 272 fr)
section
variable {w:zW}{b:Nat}{z o:Option Nat}{i v g:zB}{hs:Int}
def aX.lt (h:aX w b z o i v g hs):b<w.heap.size:=by obtain⟨fr,h⟩:=h.at';exact(zAa.1 h).1
def aX.c0 (h:aX w b z o i v g hs):w.cell? ⟨b,0,aB⟩=aA (ptr z):=by obtain⟨fr,h⟩:=h.at';exact(aZ h 0).trans rfl
def aX.c1 (h:aX w b z o i v g hs):w.cell? ⟨b,1,aB⟩=aA (ptr o):=by obtain⟨fr,h⟩:=h.at';exact(aZ h 1).trans rfl
def aX.c2 (h:aX w b z o i v g hs):w.cell? ⟨b,2,aB⟩=aA (aK ⟨i.toArray⟩):=by obtain⟨fr,h⟩:=h.at';exact(aZ h 2).trans rfl
def aX.c3 (h:aX w b z o i v g hs):w.cell? ⟨b,3,aB⟩=aA (aK ⟨v.toArray⟩):=by obtain⟨fr,h⟩:=h.at';exact(aZ h 3).trans rfl
def aX.c4 (h:aX w b z o i v g hs):w.cell? ⟨b,4,aB⟩=aA (aK ⟨g.toArray⟩):=by obtain⟨fr,h⟩:=h.at';exact(aZ h 4).trans rfl
def aX.c5 (h:aX w b z o i v g hs):w.cell? ⟨b,5,aB⟩=aA (aC aD hs):=by obtain⟨fr,h⟩:=h.at';exact(aZ h 5).trans rfl
def dZ (w:zW)(b:Nat):Prop:=∃c,w.heap[b]? =aA (aI c 272 (0,0))
def dZ.f (h:dZ w b)(j):w.frozen? ⟨b,j,aB⟩=aF:=by obtain⟨c,h⟩:=h;exact cW h j
def lG (h:aX w b z o i v g hs):Calls zq 227 #[ptr (aA b)] w λe a=>e=aL (.bool (z.isNone&&o.isNone))/\a=w:=by
 have k:=h.c0;have k1:=h.c1;cases z with
 |none=>
  cases o with
  |none=>go_enter (Qz.fn func227),ntmps227;go_wp2;go_ret;exact⟨rfl,rfl⟩
  |some o=>go_enter (Qz.fn func227),ntmps227;go_wp2;go_ret;exact⟨rfl,rfl⟩
 |some z=>go_enter (Qz.fn func227),ntmps227;go_wp2;go_ret;exact⟨rfl,rfl⟩
def MH (w):Calls zq 225 #[ptr aB] w λe a=>e=aL (.bool aE)/\a=w:=by go_enter (Qz.fn func225),ntmps225;go_wp2;go_ret;exact⟨rfl,rfl⟩
def yE (h:aX w b z o i v g hs):Calls zq 225 #[ptr (aA b)] w λe a=>e=aL (.bool (z.isNone&&o.isNone))/\a=w:=by have H:=hid h;go_enter (Qz.fn func225),ntmps225;go_wp2_with fail;refine(lG H.out).mono ?_;rintro e a ⟨rfl,rfl⟩;go_wp2;go_ret;exact⟨rfl,rfl⟩
def xV (w):Calls zq 246 #[ptr aB] w λe a=>e=aL (.bool aF)/\a=w:=by go_enter (Qz.fn func246),ntmps246;go_wp2;go_ret;exact⟨rfl,rfl⟩
def mE (h:aX w b z o i v g hs):Calls zq 246 #[ptr (aA b)] w λe a=>e=aL (.bool g.isEmpty)/\a=w:=by have k:=h.c4;go_enter (Qz.fn func246),ntmps246;go_wp2;go_ret;exact⟨rfl,rfl⟩
def Hy (w):Calls zq 222 #[ptr aB] w λe a=>e=aL (ptr aB)/\a=w:=by go_enter (Qz.fn func222),ntmps222;go_wp2;go_ret;exact⟨rfl,rfl⟩
def Hx (h:aX w b z o i v g hs)(c:dZ w b):Calls zq 222 #[ptr (aA b)] w λe a=>e=aL (ptr (aA b))/\∃m,a=w.setCell ⟨b,5,aB⟩ (aC aD m):=by have k:=h.c5;have f5:=c.f 5;go_enter (Qz.fn func222),ntmps222;go_wp2;go_ret;exact⟨rfl,_,rfl⟩
end
def fA (w:zW)(v:zO)(us:List bS):Prop:=0<us.length->∃g o,v=aA ⟨g,o,aB⟩/\g<w.heap.size/\∀j u,(cI us)[j]? =aA u->w.cell? ⟨g,o+j,aB⟩=aA u
def fA.below {w w' B v us}(h:fA w v us)(a:Below B w w')(i:w.heap.size<=B):fA w' v us:=λf=>by obtain⟨g,o,e,c,d⟩:=h f;exact⟨g,o,e,zAc c a.size,λj u b=>by rw[<-d j u b];exact a.cell (p:=⟨g,o+j,aB⟩) (by simp only;omega)⟩
def fA.idx {w v us}(h:fA w v us)(i)(u)(b:us[i]? =aA u):∃g o,v=aA ⟨g,o,aB⟩/\g<w.heap.size/\w.cell? ⟨g,o+i*3,aB⟩=aA (aK ⟨u.idx.toArray⟩)/\w.cell? ⟨g,o+i*3+1,aB⟩=aA (aK ⟨u.val.toArray⟩)/\w.cell? ⟨g,o+i*3+2,aB⟩=aA (.bool u.gone):=by
 have hi:=(zAu.1 b).1;obtain⟨g,o,e,d,a⟩:=h (by omega);have k:=λj (c:j<3)=>qK us i u b j c;refine⟨g,o,e,d,?_,?_,?_⟩
 .exact a (i*3) _ ((k 0 (by decide)).trans rfl)
 .rw[zCc];exact a (i*3+1) _ ((k 1 (by decide)).trans rfl)
 .rw[zCc];exact a (i*3+2) _ ((k 2 (by decide)).trans rfl)
structure Cut (us:List bS)(d m:Nat):Prop where
 le:m<=us.length
 zero:∀i u,i<m->us[i]? =aA u->bZ u.idx d=0
 one:∀i u,m<=i->us[i]? =aA u->bZ u.idx d=1
def MK:∀{a b:zB},a.length=b.length->aFH a b= -1->∃j,j<a.length/\(∀i,i<j->a.getD i 0=b.getD i 0)/\(a.getD j 0).toNat<(b.getD j 0).toNat
 |[],[],_,h=>by simp[aFH]at h
 |[],_::_,h,_=>by simp at h
 |_::_,[],h,_=>by simp at h
 |x::a,y::b,hl,h=>by
  rw[aFH]at h;by_cases d:x<y;{exact⟨0,by simp,λi hi=>by omega,by simpa using UInt8.lt_iff_toNat_lt.1 d⟩}
  .rw[zAn d]at h;by_cases c:y<x
   .rw[zAq c]at h;simp at h
   .rw[zAn c]at h;have e:=zFy (zEw.1 c) (zEw.1 d);obtain⟨j,k,f,g⟩:=MK (by simpa using hl) h;refine⟨j+1,by simp;omega,λi hi=> ?_,by simpa using g⟩;cases i with
    |zero=>simpa using e
    |succ i=>simpa using f i (by omega)
def It (x y r)(j:x<256)(g:y<256)(a:r<8)(h:∀i,i<r->x/2^(7-i)%2=y/2^(7-i)%2)(l:x/2^(7-r)%2=1)(m:y/2^(7-r)%2=0):y<x:=by
 have k:=h;have f:=k 0;have k1:=k 1;have k2:=k 2;have e:=k 3;have d:=k 4;have c:=k 5;have b:=k 6;match r,a with
 |0,_=>simp at*;omega
 |1,_=>simp at*;omega
 |2,_=>simp at*;omega
 |3,_=>simp at*;omega
 |4,_=>simp at*;omega
 |5,_=>simp at*;omega
 |6,_=>simp at*;omega
 |7,_=>simp at*;omega
def Is (x y)(g:x<256)(f:y<256)(h:∀i,i<8->x/2^(7-i)%2=y/2^(7-i)%2):x=y:=by have e:=h 0;have k1:=h 1;have k2:=h 2;have d:=h 3;have c:=h 4;have b:=h 5;have a:=h 6;have k:=h 7;simp at*;omega
def Iy {a b}(o:a.length=32)(n:b.length=32)(h:aFH a b= -1){d}(c:∀i,i<d->bZ a i=bZ b i)(g:bZ a d=1):bZ b d=1:=by
 obtain f|f:=jQ b d
 .exfalso;obtain⟨j,m,l,p⟩:=MK (by omega) h;obtain bW|rfl|k:=Nat.lt_trichotomy (d/8) j
  .have:=l (d/8) bW;unfold bZ at f g;rw[this]at g;omega
  .have e:∀i,i<d%8->(a.getD (d/8) 0).toNat/2^(7-i)%2=(b.getD (d/8) 0).toNat/2^(7-i)%2:=λi hi=>by
    have:=c (8*(d/8)+i) (by omega);unfold bZ at this;rw[show(8*(d/8)+i)/8=d/8 by omega,show(8*(d/8)+i)%8=i by omega]at this;exact this
   have:=It _ _ (d%8) (aF1 _) (aF1 _) (by omega) e g f;omega
  .have e:∀i,i<8->(a.getD j 0).toNat/2^(7-i)%2=(b.getD j 0).toNat/2^(7-i)%2:=λi hi=>by
    have:=c (8*j+i) (by omega);unfold bZ at this;rw[show(8*j+i)/8=j by omega,show(8*j+i)%8=i by omega]at this;exact this
   have:=Is _ _ (aF1 _) (aF1 _) e;omega
 .exact f
def bC (us:List bS):List rU:=us.map λu=>(u.idx,u.val)
def gN (us):(bC us).length=us.length:=zDj ..
structure Sub (us:List bS)(d:Nat):Prop where
 order:us.Pairwise λa b=>aFH a.idx b.idx= -1
 idx:∀u∈us,u.idx.length=32
 bits:∀a∈us,∀b∈us,∀i,i<d->bZ a.idx i=bZ b.idx i
def bK (d b:Nat)(us:List bS):List bS:=us.filter λu=>bZ u.idx d==b
def eU (us)(d b):bC (bK d b us)=cV (bC us) d b:=by unfold bC bK cV;rw[List.filter_map];rfl
def Pf (d:Nat):∀us:List bS,(us.Pairwise λa b=>bZ a.idx d=1->bZ b.idx d=1)->∃m,Cut us d m/\us.take m=bK d 0 us/\us.drop m=bK d 1 us
 |[],_=>⟨0,⟨zAb _,λi u hi=>by omega,λi u _ h=>by simp at h⟩,rfl,rfl⟩
 |u::us,h=>by
  obtain⟨k,j⟩:=zCm.1 h;obtain f|f:=jQ u.idx d
  .obtain⟨m,g,n,l⟩:=Pf d us j;refine⟨m+1,⟨by have:=g.le;simp;omega,λi v hi c=> ?_,λi v hi c=> ?_⟩,?_,?_⟩
   .cases i with
    |zero=>simp at c;rw[<-c];exact f
    |succ i=>exact g.zero i v (by omega) (by simpa using c)
   .cases i with
    |zero=>omega
    |succ i=>exact g.one i v (by omega) (by simpa using c)
   .rw[zFg,n,bK,bK,zBd (by rw[f];rfl)]
   .rw[zFj,l,bK,bK,zAs (by rw[f];decide)]
  .have e:∀v∈u::us,bZ v.idx d=1:=λv c=>by
    obtain rfl|c:=zAe.1 c;{exact f};{exact k v c f}
   refine⟨0,⟨zBr _,λi v hi=>by omega,λi v _ c=>e v (zDb c)⟩,?_,?_⟩;{rw[zFb,bK,zFm.2];intro v c;rw[e v c];decide};{rw[zEs,bK,zFi.2];intro v c;rw[e v c];rfl}
def Sub.cut {us:List bS}{d:Nat}(h:Sub us d):∃m,Cut us d m/\us.take m=bK d 0 us/\us.drop m=bK d 1 us:=
 Pf d us (h.order.imp_of_mem λ{a b} e hb c f=>Iy (h.idx a e) (h.idx b hb) c (h.bits a e b hb) f)
def Sub.deep {us d}(h:Sub us d)(f:2<=us.length):d<256:=by
 match us,f with
 |a::b::us,_=>obtain c|c:=zDf d 256;{exact c};{exfalso;have e:=Dx (h.idx a (by simp)) (h.idx b (by simp)) λi hi=>h.bits a (by simp) b (by simp) i (by omega);have:=(zCm.1 h.order).1 b (by simp);rw[e,eQ]at this;cases this}
def Sub.zero {us}(h:us.Pairwise λa b=>aFH a.idx b.idx= -1)(hi:∀u∈us,u.idx.length=32):Sub us 0:=⟨h,hi,λ_ _ _ _ i hi=>by omega⟩
def oE (us)(d):(bK d 0 us).length+(bK d 1 us).length=us.length:=by have:=GL (bC us) d;rw[<-eU,<-eU,gN,gN,gN]at this;exact this
def En (k d):jE k [] d=dg k [0]:=by unfold jE;cases 256-d<;>rfl
def yU (k d)(e):jE k [e] d=dg k (GC k e):=by unfold jE;cases 256-d<;>rfl
def XE (k d)(l)(h:2<=l.length)(c:d<256):jE k l d=dg k (2::(jE k (cV l d 0) (d+1)++jE k (cV l d 1) (d+1))):=by
 unfold jE;rw[show 256-d=(256-(d+1))+1 by omega];match l,h with
 |a::b::l,_=>rfl
def wD (k d)(l)(h:k<=32):(jE k l d).length=k:=fE k _ h
def addr_add (g o j):(⟨g,o,aB⟩:Addr).add j=⟨g,o+j,aB⟩:=by unfold Addr.add;split<;>simp_all
def fA.part {w v us}(h:fA w v us)(m):fA w v (us.take m):=λd=>by
 obtain⟨g,o,e,b,c⟩:=h (by rw[zBj]at d;omega);refine⟨g,o,e,b,λj u a=>c j u ?_⟩;have f:cI us=cI (us.take m)++cI (us.drop m):=by rw[cI,cI,cI,<-List.flatMap_append,zFn]
 rw[f,zCz (zAu.1 a).1];exact a
def fA.rest {w v vb us}(h:fA w v us)(m)(d:m<us.length->vb=v.map λx=>x.add (m*3)):fA w vb (us.drop m):=λf=>by
 rw[zCh]at f;obtain⟨g,o,e,b,c⟩:=h (by omega);subst e;refine⟨g,o+m*3,(d (by omega)).trans (by rw[zBe,addr_add]),b,λj u a=> ?_⟩;rw[zCc];refine c (m*3+j) u ?_;have i:cI us=cI (us.take m)++cI (us.drop m):=by rw[cI,cI,cI,<-List.flatMap_append,zFn]
 rw[i,zCu (by rw[mK,zBj];omega),mK,zBj,show m*3+j-min m us.length*3=j by omega];exact a
abbrev gE (k:Nat)(us:List bS)(d:Nat):zB:=jE k (bC us) d
inductive eL (k:Nat)(w:zW):Option Nat->List bS->zP
 |nil (d:Nat):eL k w aB [] d
 |leaf {b:Nat} {u:bS} {d:Nat} {hs:Int} (h:aX w b aB aB u.idx u.val (gE k [u] d) hs):eL k w (aA b) [u] d
 |node {b:Nat} {us:List bS} {d:Nat} {z o:Option Nat} {hs:Int} (h2:2<=us.length) (hd:d<256) (h:aX w b z o [] [] (gE k us d) hs) (hz:eL k w z (bK d 0 us) (d+1)) (ho:eL k w o (bK d 1 us) (d+1)):eL k w (aA b) us d
inductive cS (k:Nat)(w:zW):Option Nat->List bS->Nat->Nat->Nat->List (Nat×ByteArray)->Prop
 |done {p:Option Nat} {us:List bS} {d lo hi:Nat} (h:eL k w p us d) (hl:lo<=hi):cS k w p us d lo hi []
 |leaf {b:Nat} {u:bS} {d lo hi:Nat} {hs:Int} (h1:lo<=b) (h2:b<hi) (h:aX w b aB aB u.idx u.val [] hs):cS k w (aA b) [u] d lo hi [(b,⟨(gE k [u] d).toArray⟩)]
 |node {b:Nat} {us:List bS} {d lo m hi:Nat} {z o:Option Nat} {hs:Int} {rz ro:List (Nat×ByteArray)} (h2:2<=us.length) (hd:d<256) (h:aX w b z o [] [] [] hs) (hz:cS k w z (bK d 0 us) (d+1) lo m rz) (ho:cS k w o (bK d 1 us) (d+1) m b ro) (hb:b<hi):cS k w (aA b) us d lo hi (rz++ro++[(b,⟨(gE k us d).toArray⟩)])
section
variable {k:Nat}{w w':zW}{p:Option Nat}{us:List bS}{d lo hi:Nat}{rows:List (Nat×ByteArray)}
def gF {b z o c f i v g i' v' l hs a}(h:aX w b z o i v g hs)(m:aX w b c f i' v' l a):z=c/\o=f/\i=i'/\v=v'/\g=l/\hs=a:=by
 obtain⟨fr,e⟩:=h.at';obtain⟨n,B⟩:=m.at';rw[B]at e;injection e with e;injection e with e _ _;have e:=congrArg Array.toList e;simp only[mH,List.cons.injEq,and_true]at e;obtain⟨A,u,t,s,r,q⟩:=e;have j:∀{x y:Option Nat},ptr x=ptr y->y=x:=λ{x y} h=>by cases x<;>cases y<;>simp_all [ptr]
 refine⟨j A,j u,?_,?_,?_,?_⟩
 .simpa using t.symm
 .simpa using s.symm
 .simpa using r.symm
 .simpa using q.symm
def yG (h:k<=32):(gE k us d).length=k:=wD k d _ h
def rB (a:1<=k)(h:k<=32):gE k us d≠[]:=λe=>by have:=yG (us:=us) (d:=d) h;rw[e]at this;simp at this;omega
def ID (k d a)(u):gE k [u] d=gE k [u] a:=by unfold gE bC;rw[List.map_singleton,yU,yU]
def eL.iH (h:eL k w p us d):p=aB↔us=[]:=by
 cases h with
 |nil=>simp
 |leaf=>simp
 |node a=>constructor;{intro e;cases e};{rintro rfl;simp at a}
def cS.iH (h:cS k w p us d lo hi rows):p=aB↔us=[]:=by
 cases h with
 |done h=>exact h.iH
 |leaf=>simp
 |node a=>constructor;{intro e;cases e};{rintro rfl;simp at a}
def cS.Hi (h:cS k w p us d lo hi rows):lo<=hi:=by
 induction h with
 |done _ h=>exact h
 |leaf c b _=>omega
 |node _ _ _ _ _ hb a i=>omega
def cS.wide {l a}(h:cS k w p us d lo hi rows)(c:l<=lo)(f:hi<=a):cS k w p us d l a rows:=by
 induction h generalizing l a with
 |done h hl=>exact .done h (by omega)
 |leaf k1 k2 h=>exact .leaf (by omega) (by omega) h
 |node g2 e g j go m i b=>exact .node g2 e g (i c (zAb _)) go (by omega)
def eL.keep (m:1<=k)(j:k<=32)(l:∀b z o i v g hs,g≠[]->aX w b z o i v g hs->∃a,aX w' b z o i v g a)(h:eL k w p us d):eL k w' p us d:=by
 induction h with
 |nil d=>exact .nil d
 |leaf h=>obtain⟨a,f⟩:=l _ _ _ _ _ _ _ (rB m j) h;exact .leaf f
 |node q n h _ _ e c=>obtain⟨a,f⟩:=l _ _ _ _ _ _ _ (rB m j) h;exact .node q n f e c
def cS.keep (q:1<=k)(l:k<=32)(f:∀b z o i v g hs,aX w b z o i v g hs->∃a,aX w' b z o i v g a)(h:cS k w p us d lo hi rows):cS k w' p us d lo hi rows:=by
 induction h with
 |done h hl=>exact .done (h.keep q l λb z o i v g hs _=>f b z o i v g hs) hl
 |leaf k1 k2 h=>obtain⟨a,j⟩:=f _ _ _ _ _ _ _ h;exact .leaf k1 k2 j
 |node n m h _ _ hb e c=>obtain⟨a,j⟩:=f _ _ _ _ _ _ _ h;exact .node n m j e c hb
def cS.each (h:cS k w p us d lo hi rows):(∀x∈rows,lo<=x.1/\x.1<hi/\∃z o i v r,aX w x.1 z o i v [] r)/\(rows.map (·.1)).Nodup:=by
 induction h with
 |done=>exact⟨λx b=>by simp at b,by simp⟩
 |leaf t m h=>refine⟨λx b=> ?_,by simp⟩;rw[zAm]at b;subst b;exact⟨t,m,_,_,_,_,_,h⟩
 |node m B h n s hb g f=>
  have A:=n.Hi;have u:=s.Hi;refine⟨λx b=> ?_,?_⟩
  .obtain b|b:=zAg.1 b
   .obtain b|b:=zAg.1 b
    .have:=g.1 x b;exact⟨this.1,by omega,this.2.2⟩
    .have:=f.1 x b;exact⟨by omega,by omega,this.2.2⟩
   .rw[zAm]at b;subst b;exact⟨by omega,hb,_,_,_,_,_,h⟩
  .rw[zDi,zDi,List.nodup_append,List.nodup_append];refine⟨⟨g.2,f.2,λa j c l e=> ?_⟩,by simp,λa j c l e=> ?_⟩
   .obtain⟨x,b,rfl⟩:=zCg.1 j;obtain⟨y,q,rfl⟩:=zCg.1 l;have:=g.1 x b;have:=f.1 y q;omega
   .simp only[zDw,List.map_nil,zAm]at l;subst l;obtain j|j:=zAg.1 j
    .obtain⟨x,b,rfl⟩:=zCg.1 j;have:=g.1 x b;omega
    .obtain⟨x,b,rfl⟩:=zCg.1 j;have:=f.1 x b;omega
def cS.part (P:1<=k)(M:k<=32){S:zP}{all:List (Nat×ByteArray)}(O:∀b,S b->∃z o i v hs,aX w b z o i v [] hs)(l:∀b z o i v hs,S b->aX w b z o i v [] hs->∀c,z=aA c\/o=aA c->(∃z o i v hs,aX w c z o i v [] hs)->S c)
  (t:∀b s,S b->(b,s)∈all->∀z o i v hs,aX w b z o i v [] hs->∃e,aX w' b z o i v s.data.toList e) (j:∀b,¬S b->∀z o i v g hs,aX w b z o i v g hs->∃e,aX w' b z o i v g e)
  (h:cS k w p us d lo hi rows) (A:∀x∈rows,x∈all):(∃cO,cS k w' p us d lo hi cO/\(∀x∈cO,x∈rows/\¬S x.1)/\cO.length<=rows.length)/\((∀b,p=aA b->(∃z o i v hs,aX w b z o i v [] hs)->S b)->eL k w' p us d):=by
 have hold:∀b z o i v g hs,g≠[]->aX w b z o i v g hs->∃e,aX w' b z o i v g e:=λb z o i v g hs N h=>j b (λr=>by obtain⟨R,V,i',T,e,n⟩:=O b r;exact N (gF h n).2.2.2.2.1) z o i v g hs h
 induction h with
 |done h hl=>have q:=h.keep P M hold;exact⟨⟨[],.done q hl,λx a=>by simp at a,zBr _⟩,λ_=>q⟩
 | @leaf b u d lo hi hs k1 k2 h=>by_cases r:S b;{obtain⟨e,n⟩:=t b ⟨(gE k [u] d).toArray⟩ r (A _ (by simp)) _ _ _ _ _ h;have q:eL k w' (aA b) [u] d:= .leaf (by simpa using n);exact⟨⟨[],.done q (by omega),λx a=>by simp at a,zBr _⟩,λ_=>q⟩};{obtain⟨e,n⟩:=j b r _ _ _ _ _ _ h;refine⟨⟨_,.leaf k1 k2 n,λx a=>⟨a,?_⟩,zAb _⟩,λa=>absurd (a b rfl ⟨_,_,_,_,_,h⟩) r⟩;rw[zAm]at a;subst a;exact r}
 | @node b us d lo m hi z o hs U ro H q h K L r C B=>
  have G:=C λx a=>A x (zAg.2 (aG (zAg.2 (aG a))));have F:=B λx a=>A x (zAg.2 (aG (zAg.2 (aH a))));by_cases f:S b;{obtain⟨e,n⟩:=t b ⟨(gE k us d).toArray⟩ f (A _ (by simp)) _ _ _ _ _ h;have d1:=G.2 λc E D=>l b _ _ _ _ _ f h c (aG E) D;have Q:=F.2 λc E D=>l b _ _ _ _ _ f h c (aH E) D;have y:eL k w' (aA b) us d:= .node H q (by simpa using n) d1 Q;have Z:=K.Hi;have Y:=L.Hi;exact⟨⟨[],.done y (by omega),λx a=>by simp at a,zBr _⟩,λ_=>y⟩}
  .obtain⟨e,n⟩:=j b f _ _ _ _ _ _ h;obtain⟨⟨r1,f1,J,X⟩,_⟩:=G;obtain⟨⟨r2,f2,I,W⟩,_⟩:=F;refine⟨⟨_,.node H q n f1 f2 r,λx a=> ?_,by simp only[zAi,zAh,zBb];omega⟩,λa=>absurd (a b rfl ⟨_,_,_,_,_,h⟩) f⟩;obtain a|a:=zAg.1 a
   .obtain a|a:=zAg.1 a
    .exact⟨zAg.2 (aG (zAg.2 (aG (J x a).1))),(J x a).2⟩
    .exact⟨zAg.2 (aG (zAg.2 (aH (I x a).1))),(I x a).2⟩
   .rw[zAm]at a;subst a;exact⟨by simp,f⟩
end
structure oF (w:zW)(t k:Nat):Prop where
 lt:t<w.heap.size
 wid:w.cell? ⟨t,0,aB⟩=aA (aC aD k)
 emp:w.cell? ⟨t,2,aB⟩=aA (aK ⟨(dg k [0]).toArray⟩)
def oF.below {w w':zW}{B t k:Nat}(h:oF w t k)(a:Below B w w')(b:w.heap.size<=B):oF w' t k:=
 ⟨zAc h.lt a.size,by rw[a.cell (p:=⟨t,0,aB⟩) (zAc h.lt b)];exact h.wid,by rw[a.cell (p:=⟨t,2,aB⟩) (zAc h.lt b)];exact h.emp⟩
def quiet_of {P:zZ}{f:zN}{args:zA}{v:zY}{w:zW}(h:∀W,zb w W->Calls P f args W λe w'=>e=aL v/\zb W w'):
  Hid (∀(b:Nat)(os:zJ),Calls P f args (Go.Sort.grow (redrawn w b) os) λe a=>e=aL v/\∃p:Regrown,a=Go.Sort.grow (redrawn w p.d) p.os):=λb os=>Calls.regrown_of (h _ (zGl w b os))
def cX {w p v}(h:w.cell? p=aA v)(b:p.block<w.heap.size):∀(a)(os),(Go.Sort.grow (redrawn w a) os).cell? p=aA v:=λa os=>by rw[(zGl w a os).cell (p:=p) b];exact h
def FH (p:Nat×ByteArray):zV:=[aN (aA ⟨p.1,0,aB⟩),aK p.2]
def nR (l:List (Nat×ByteArray)):zV:=l.flatMap FH
def JP (l)(p:Nat×ByteArray):nR (l++[p])=nR l++FH p:=by simp[nR]
def Lq (p:Nat×ByteArray):∀x∈FH p,x.oneCell'=aE:=by intro x h;simp only[FH,zAe,zAo,zCa]at h;obtain rfl|rfl:=h<;>rfl
def OD (l):∀(i)(p:Nat×ByteArray),l[i]? =aA p->∀j,j<2->(nR l)[i*2+j]? =(FH p)[j]? :=by
 induction l with
 |nil=>intro i u h;cases h
 |cons a l b=>
  intro i u h j c;show(FH a++nR l)[i*2+j]? =_;cases i with
  |zero=>simp only[zCw,aE1]at h;subst h;rw[zCz (by show _<2;omega)];simp
  |succ i=>rw[zCu (by show 2<=_;omega),show(i+1)*2+j-(FH a).length=i*2+j by show(i+1)*2+j-2=_;omega];exact b i u (by simpa using h) j c
def rG (w:zW)(base:Nat)(v:zY)(l:List (Nat×ByteArray)):Prop:=w.ownsRow base 292 2 v l.length (nR l)
def rG.nil (w)(base):rG w base (aJ aB 0 0) []:=World.ownsRow_nil _ _ _ _
def rG.lt {w base v l}(h:rG w base v l):∀k,v.ownBlock=aA k->base<=k/\k<w.heap.size:=World.ownsRow.lt h
def rG.kept {w w' base v l}(h:rG w base v l)(b:∀g,v.ownBlock=aA g->w'.heap[g]? =w.heap[g]?):rG w' base v l:=by
 obtain⟨e,a⟩:=h;refine⟨e,?_⟩;obtain a|⟨g,cap,cur,rfl,hb,c,r⟩:=a
 .exact aG a
 .exact aH ⟨g,cap,cur,rfl,hb,by rw[b g rfl];exact c,r⟩
def rG.below {w w':zW}{B base:Nat}{v:zY}{l:List (Nat×ByteArray)}(h:rG w base v l)(b:Below B w w')(c:w.heap.size<=B):rG w' base v l:=
 h.kept λg a=>b.block g (zAc (h.lt g a).2 c)
def Lp:∃i,zq.info? 292=aA i/\i.zero=aA (.agg #[.pointer aB,aK ⟨#[]⟩])/\i.size=2/\i.bytes=24:=by
 have h:(zq.info? 292).map (λi=>(i.zero,i.size,i.bytes))=aA (aA (.agg #[.pointer aB,aK ⟨#[]⟩]),2,24):=by kernel_rfl
 cases a:zq.info? 292 with
 |none=>rw[a]at h;cases h
 |some i=>rw[a]at h;simp only[zBe,aE1,aFE]at h;exact⟨i,rfl,h.1,h.2.1,h.2.2⟩
def IL {W ops rest o a Q}(m:o.guard=aB)(s x)
  (B:o.op= .call {callee:= .builtin .append,args:= #[s,x],argTypes:= #[283,283]})
  (base) (v) (l) (hs:a.eval s=v) (b:rG W base v l) (u:Nat×ByteArray) (c) (A:a.eval x=aJ (aA ⟨W.heap.size,0,aB⟩) 1 c)
  (E:l.length<=1000000) (q:base<=W.heap.size)
  (h:∀g cap w',rG w' base (aJ (aA ⟨g,0,aB⟩) (l.length+1) cap) (l++[u])->W.grownBy w' v.ownBlock->wpList zq ops Q rest (a.put o.dst (aJ (aA ⟨g,0,aB⟩) (l.length+1) cap)) w'):wpList zq ops Q (o::rest) a (W.alloc (aI #[aN (aA ⟨u.1,0,aB⟩),aK u.2] 292)):=by
 obtain⟨i,hi,r,f,n⟩:=Lp;refine wpList_append_lies _ m s x 283 B base 292 i _ 2 24 ((Qz.eO 283).trans underlying283) hi r f n rfl (by omega) v l.length (nR l) hs (World.ownsRow.alloc b _) ⟨W.heap.size,0,aB⟩ 1 c (FH u) A rfl (λj y z=> ?_) (Lq u) (by omega) (by simp only[maxLen];omega) (by omega) (by rw[size_alloc];omega) _ rfl (λg cap w' D C _ _=>h g cap w' ?_ (kV C))
 .have e:(⟨W.heap.size,0,aB⟩:Addr).add j=⟨W.heap.size,j,aB⟩:=by{unfold Addr.add;split<;>simp_all};rw[e];show(W.alloc (aI (FH u).toArray 292)).cell? _=_;rw[(cD.new W 292 (FH u).toArray).cell j];simpa using z
 .unfold rG;rw[JP,zAi];exact D
def yM {w0 w w':zW}{B base:Nat}{v:zY}{l:List (Nat×ByteArray)}(e:Below B w0 w)(h:rG w base v l)(c:w.grownBy w' v.ownBlock)(f:B<=base)(a:B<=w.heap.size):Below B w0 w':=
 e.grown c a λk b=>zAw f (h.lt k b).1
def rG.rows {w base v l}(h:rG w base v l):∃q c,v=aJ q l.length c/\l.length<=c/\fO l q l.length w/\∀a,q=aA a->base<=a.block:=by
 obtain⟨y,f⟩:=h;obtain⟨rfl,f⟩|⟨g,cap,cur,rfl,hb,o,r,_,s,n⟩:=f
 .have:l=[]:=zFl.1 f;subst this;exact⟨aB,0,rfl,zAb _,⟨rfl,λx=>absurd rfl x⟩,λa e=>by cases e⟩
 .refine⟨aA ⟨g,0,aB⟩,cap,rfl,r,⟨rfl,λ_=>⟨g,0,rfl,λj p m=> ?_⟩⟩,λa e=>by cases e;exact hb⟩;have b:∀i,i<2->w.cell? ⟨g,0+(j*2+i),aB⟩=(FH p)[i]? :=λi hi=>by
   have u:=(zAu.1 m).1;rw[zAx,aZ o,<-OD l j p m i hi,<-n,List.getElem?_take_of_lt (by omega),zBp]
  exact⟨b 0 (by omega),by have:=b 1 (by omega);rwa [<-zCc]at this⟩
section
variable {k t:Nat}{w w':zW}{p:Option Nat}{us:List bS}{d lo hi:Nat}{rows:List (Nat×ByteArray)}
def ZM (h:oF w t k):Calls zq 226 #[aN (aA ⟨t,0,aB⟩),ptr aB] w λe w'=>e=aL (aK ⟨(dg k [0]).toArray⟩)/\w'=w:=by have p2:=h.emp;go_enter (Qz.fn func226),ntmps226;go_wp2;go_ret;exact⟨rfl,rfl⟩
def GG {b z o i v g hs}(h:aX w b z o i v g hs):Calls zq 226 #[aN (aA ⟨t,0,aB⟩),ptr (aA b)] w λe w'=>e=aL (aK ⟨g.toArray⟩)/\w'=w:=by have c4:=h.c4;go_enter (Qz.fn func226),ntmps226;go_wp2;go_ret;exact⟨rfl,rfl⟩
def vQ (a:oF w t k)(h:eL k w p us d):Calls zq 226 #[aN (aA ⟨t,0,aB⟩),ptr p] w λe w'=>e=aL (aK ⟨(gE k us d).toArray⟩)/\w'=w:=by
 cases h with
 |nil=>have:gE k [] d=dg k [0]:=En k d;rw[this];exact ZM a
 |leaf h=>exact GG h
 |node _ _ h=>exact GG h
structure Wk (k t:Nat)(W0 W:zW):Prop where
 k1:1<=k
 k2:k<=32
 top:oF W0 t k
 iM:fF W0
 below:zb W0 W
def Wk.cell {c W}(h:Wk k t c W){b z o i v g hs}(a:aX c b z o i v g hs):aX W b z o i v g hs:=⟨by rw[h.below.block b a.lt];exact a.at'⟩
def Wk.BL {a W}(h:Wk k t a W):oF W t k:=h.top.below h.below (zAb _)
def Wk.vk {a W}(h:Wk k t a W):fF W:=h.iM.below h.below (zAb _)
def IM (k t:Nat)(a:zW)(p:Option Nat)(us:List bS)(d:Nat)(rows:List (Nat×ByteArray)):Prop:=
 ∀W v L,Wk k t a W->rG W a.heap.size v L->L.length+rows.length<=1000000->Calls zq 243 #[aN (aA ⟨t,0,aB⟩),ptr p,v] W λe w'=>∃b,e=aL (.tuple #[aK ⟨(gE k us d).toArray⟩,b])/\rG w' a.heap.size b (L++rows)/\zb a w'
def XC {m}(h:eL k m p us d):IM k t m p us d []:=by
 intro W v L a s A;have x:=hid a;have l:=h.keep a.k1 a.k2 λb z o i v g n _ r=>⟨n,a.cell r⟩;have u:Hid (∀c,c=W->Calls zq 226 #[aN (aA ⟨t,0,aB⟩),ptr p] c λe w'=>e=aL (aK ⟨(gE k us d).toArray⟩)/\w'=c):=λc e=>by subst e;exact vQ a.BL l
 have y:Hid (Calls zq 246 #[ptr p] W λe w'=>e=aL (.bool aF)/\w'=W):=by
  have f:=rB (us:=us) (d:=d) a.k1 a.k2;have j:(gE k us d).isEmpty=aF:=by{cases q:gE k us d with|nil=>exact absurd q f|cons _ _=>rfl};cases l with
  |nil=>exact xV W
  |leaf h=>exact(mE h).mono λe w' h=>⟨by rw[h.1,j],h.2⟩
  |node _ _ h=>exact(mE h).mono λe w' h=>⟨by rw[h.1,j],h.2⟩
 have H:=hid s;generalize gE k us d=Z at*;generalize ptr p=pp at*;go_enter (Qz.fn func243),ntmps243;go_wp2_with fail;refine y.out.mono ?_;rintro e w' ⟨rfl,rfl⟩;go_wp2_with fail;refine(u.out _ rfl).mono ?_;rintro e w' ⟨rfl,rfl⟩;go_wp2;go_ret2;exact⟨v,rfl,by rw[zAy];exact H.out,x.out.below⟩
end
section
variable {k t:Nat}{W0:zW}{us:List bS}{d:Nat}
def XB {b u hs}(hi:u.idx.length=32)(hv:u.val.length<=100)(I:aX W0 b aB aB u.idx u.val [] hs):IM k t W0 (aA b) [u] d [(b,⟨(gE k [u] d).toArray⟩)]:=by
 intro W v L i J K;have m:=i.k1;have f:=i.k2;have z:L.length<=1000000:=by simp at K;omega
 have j:=i.cell I;have U:=hid (mE j);have S:=hid (lG j);have Q:=hid J;have E:=hid i.below;have C:=hid i.vk;have x:=hid i.BL;have q0:=cX x.out.wid x.out.lt;have q1:=cX j.c2 j.lt;have X:=cX j.c3 j.lt;rw[show gE k [u] d=dg k (1::(u.idx++dg k (4::u.val)))from yU k d _];have H:Hid (∀a,fF a->Calls zq 128 #[aC aD k,aK ⟨u.val.toArray⟩] a λe c=>e=aL (aK ⟨(dg k (4::u.val)).toArray⟩)/\zb a c):=λa p=>AZ k ⟨u.val.toArray⟩ a m f (by show u.val.length<=_;omega) p;have Yf:(dg k (4::u.val)).length=k:=fE k _ f;generalize dg k (4::u.val)=Y at*;have s:Hid (∀a,Calls zq 127 #[aK ⟨u.idx.toArray⟩,aK ⟨Y.toArray⟩] a λe c=>e=aL (aK ⟨(1::(u.idx++Y)).toArray⟩)/\zb a c):=λa=>
  (rJ ⟨u.idx.toArray⟩ ⟨Y.toArray⟩ a (by show u.idx.length<=_;omega) (by show Y.length<=_;omega)).mono λe c h=>⟨h.1,by rw[h.2];exact zGe _ _⟩
 have xq:(1::(u.idx++Y)).length<=1000:=by simp;omega
 generalize 1::(u.idx++Y)=Z at*;have r:Hid (∀a,fF a->Calls zq 53 #[aC aD k,aK ⟨Z.toArray⟩] a λe c=>e=aL (aK ⟨(dg k Z).toArray⟩)/\zb a c):=λa p=>rH k ⟨Z.toArray⟩ a m f (by show Z.length<=_;omega) p;generalize dg k Z=R at*;have B:=quiet_of λa p=>H.out a (C.out.below p (zAb _));have D:=quiet_of (w:=W) λa _=>s.out a;clear j I i J K H s;go_enter (Qz.fn func243),ntmps243;go_wp2_with fail;refine U.out.mono ?_;rintro e c ⟨rfl,rfl⟩;go_wp2_with fail;refine S.out.mono ?_;rintro e c ⟨rfl,rfl⟩;go_wp2_with fail;refine zGr (by kernel_rfl) (by kernel_rfl) ?_;repeat (any_goals(first|go_big_quiet_step ((first|exact B.out _ _|exact D.out _ _))|quiet_step ((first|exact B.out _ _|exact D.out _ _))))
 refine zGy ?_;intro N y;obtain⟨q,G⟩:=y;have o:zb c N:=by rw[G];exact zGl c q.d q.os
 have F:=hid (E.out.trans (o.mono E.out.size));have P:=hid (Q.out.below o (zAb _));have T:=hid (C.out.below o (zAb _));have P1:=(x.out.below o (zAb _)).wid;clear G o B D q0 q1 X Q C x E U S;go_wp2_with fail;refine(r.out N T.out).mono ?_;rintro e w2 ⟨rfl,g⟩;have V:=hid (F.out.trans (g.mono F.out.size));have O:=hid (P.out.below g (zAb _));have n:=V.out.size;clear g F P T P1 r;go_wp2_with (first|(at_builtin;refine IL rfl _ _ rfl W0.heap.size _ _ rfl O.out (b,⟨R.toArray⟩) 1 rfl z n ?_;intro g' M c l A));go_ret2;exact⟨_,rfl,l,yM V.out O.out A (zAb _) n⟩
def Ip (a:2<=us.length)(h:d<256):gE k us d=dg k (2::(gE k (bK d 0 us) (d+1)++gE k (bK d 1 us) (d+1))):=by unfold gE;rw[eU,eU];exact XE k d _ (by rw[gN];exact a) h
def XA {b z o hs r ro}(h2:2<=us.length)(hd:d<256)(A:aX W0 b z o [] [] [] hs)(I:z≠aB\/o≠aB)(p:IM k t W0 z (bK d 0 us) (d+1) r)(q:IM k t W0 o (bK d 1 us) (d+1) ro):
  IM k t W0 (aA b) us d (r++ro++[(b,⟨(gE k us d).toArray⟩)]):=by
 intro W v L g K M;have i:=g.k1;have a:=g.k2;have hL':L.length+(r.length+ro.length+1)<=1000000:=by simpa [zCc]using M
 have m:=g.cell A;have HF:=hid (mE m);have Y:Hid (Calls zq 227 #[ptr (aA b)] W λe w=>e=aL (.bool aF)/\w=W):=(lG m).mono λe w h=>⟨by
  rw[h.1];obtain h|h:=I
  .cases z with
   |none=>exact absurd rfl h
   |some _=>rfl
  .cases o with
   |none=>exact absurd rfl h
   |some _=>cases z<;>rfl,h.2⟩
 have V:=hid K;have l:Hid (∀D,zb W0 D->Wk k t W0 D):=λD h=>⟨i,a,g.top,g.iM,h⟩;have HB:=hid g.below;have HC:=hid A;have c0:=m.c0;have hx:(gE k (bK d 0 us) (d+1)).length=k:=yG a;have hy:(gE k (bK d 1 us) (d+1)).length=k:=yG a;rw[Ip h2 hd];unfold IM at p q;generalize gE k (bK d 0 us) (d+1)=x at*;generalize gE k (bK d 1 us) (d+1)=y at*;have S:=hid p;have U:=hid q;have X:Hid (∀w2,Calls zq 118 #[aK ⟨x.toArray⟩,aK ⟨y.toArray⟩] w2 λe w=>e=aL (aK ⟨(2::(x++y)).toArray⟩)/\w=w2):=λw2=>(rI ⟨x.toArray⟩ ⟨y.toArray⟩ w2 (by show x.length<=_;omega) (by show y.length<=_;omega)).mono λe w h=>⟨by simpa using h.1,h.2⟩;have xq:(2::(x++y)).length<=1000:=by simp;omega
 generalize 2::(x++y)=Z at*;have H:Hid (∀w2,fF w2->Calls zq 53 #[aC aD k,aK ⟨Z.toArray⟩] w2 λe w=>e=aL (aK ⟨(dg k Z).toArray⟩)/\zb w2 w):=λw2 B=>rH k ⟨Z.toArray⟩ w2 i a (by show Z.length<=_;omega) B;generalize dg k Z=R at*;have J:L++(r++ro++[(b,(⟨R.toArray⟩:ByteArray))])=(L++r++ro)++[(b,⟨R.toArray⟩)]:=by simp
 rw[J];clear J;clear m A g K M p q I;go_enter (Qz.fn func243),ntmps243;go_wp2_with fail;refine HF.out.mono ?_;rintro e w ⟨rfl,rfl⟩;go_wp2_with fail;refine Y.out.mono ?_;rintro e w ⟨rfl,rfl⟩;go_wp2_with fail;refine(S.out w v L (l.out _ HB.out) V.out (by omega)).mono ?_;rintro e w1 ⟨v1,rfl,G,C⟩;have Q:=hid G;have B1:=hid C;have c1:=((l.out _ C).cell HC.out).c1;clear G C S V HB HF Y c0;go_wp2_with fail;refine(U.out w1 v1 (L++r) (l.out _ B1.out) Q.out (by rw[zAi];omega)).mono ?_;rintro e w2 ⟨v2,rfl,F,n⟩;have P:=hid F;have E:=hid n;have T:=hid ((l.out _ n).vk);have p2:=(l.out _ n).BL.wid;clear F n U Q B1 c1;go_wp2_with fail;refine(X.out w2).mono ?_;rintro e w ⟨rfl,rfl⟩;go_wp2_with fail;refine(H.out w T.out).mono ?_;rintro e w3 ⟨rfl,f⟩;have B3:=hid (E.out.trans (f.mono E.out.size));have O:=hid (P.out.below f (zAb _));have j:=B3.out.size;have s:(L++r++ro).length<=1000000:=by rw[zAi,zAi];omega
 clear f E P T p2 H X;go_wp2_with (first|(at_builtin;refine IL rfl _ _ rfl W0.heap.size _ _ rfl O.out (b,⟨R.toArray⟩) 1 rfl s j ?_;intro g' N w c u));go_ret2;have e:(L++r++ro).length=L.length+(r.length+ro.length):=by rw[zAi,zAi];omega
 rw[e]at c;exact⟨_,rfl,c,yM B3.out O.out u (zAb _) j⟩
def El {p lo hi rows}(h:cS k W0 p us d lo hi rows)(e:∀u∈us,u.idx.length=32/\u.val.length<=100):IM k t W0 p us d rows:=by
 induction h with
 |done h=>exact XC h
 |leaf _ _ h=>exact XB (e _ (by simp)).1 (e _ (by simp)).2 h
 | @node b us d lo m hi z o x w ro r q h j l hb f i=>
  have n:z≠aB\/o≠aB:=by have hl:=oE us d;by_cases c:z=aB;{right;intro g;have v:=j.iH.1 c;have s:=l.iH.1 g;rw[v,s]at hl;simp at hl;omega};{exact aG c}
  exact XA r q h n (f λu a=>e u (zBa.1 a).1) (i λu a=>e u (zBa.1 a).1)
def QQ {p lo hi rows}(f:1<=k)(b:k<=32)(n:oF W0 t k)(m:fF W0)(h:cS k W0 p us d lo hi rows)(j:∀u∈us,u.idx.length=32/\u.val.length<=100)(hl:rows.length<=1000000):
  Calls zq 236 #[aN (aA ⟨t,0,aB⟩),ptr p] W0 λe w=>∃q l cp,e=aL (aJ q l cp)/\l<=cp/\fO rows q l w/\(∀a,q=aA a->W0.heap.size<=a.block)/\zb W0 w:=by
 have H:=hid (El h j W0 (aJ aB 0 0) [] ⟨f,b,n,m,zGe _ _⟩ (rG.nil _ _) (by simpa using hl));generalize ptr p=pp at*;generalize gE k us d=Z at*;go_enter (Qz.fn func236),ntmps236;go_wp2_with fail;refine H.out.mono ?_;rintro e w1 ⟨v1,rfl,o,s⟩;have O:=hid o;have B:=hid s;go_wp2;go_ret;obtain⟨q,c,rfl,i,g,r⟩:=O.out.rows;rw[zCn]at i g;exact⟨q,_,c,rfl,i,g,r,B.out⟩
end
def OH (l:List (Option Nat)):zV:=l.map ptr
def Sw (p):(ptr p).oneCell'=aE:=by cases p<;>rfl
def iL (w:zW)(base:Nat)(v:zY)(l:List (Option Nat)):Prop:=w.ownsRow base 264 1 v l.length (OH l)
def iL.nil (w)(base):iL w base (aJ aB 0 0) []:=World.ownsRow_nil _ _ _ _
def iL.lt {w base v l}(h:iL w base v l):∀k,v.ownBlock=aA k->base<=k/\k<w.heap.size:=World.ownsRow.lt h
def iL.kept {w w' base v l}(h:iL w base v l)(b:∀g,v.ownBlock=aA g->w'.heap[g]? =w.heap[g]?):iL w' base v l:=by
 obtain⟨d,a⟩:=h;refine⟨d,?_⟩;obtain a|⟨g,cap,cur,rfl,hb,c,r⟩:=a
 .exact aG a
 .exact aH ⟨g,cap,cur,rfl,hb,by rw[b g rfl];exact c,r⟩
def iL.below {w w':zW}{B base:Nat}{v:zY}{l:List (Option Nat)}(h:iL w base v l)(b:Below B w w')(c:w.heap.size<=B):iL w' base v l:=
 h.kept λg a=>b.block g (zAc (h.lt g a).2 c)
def SR:∃i,zq.info? 264=aA i/\i.zero=aA (.pointer aB)/\i.size=1/\i.bytes=8:=by
 have h:(zq.info? 264).map (λi=>(i.zero,i.size,i.bytes))=aA (aA (.pointer aB),1,8):=by kernel_rfl
 cases a:zq.info? 264 with
 |none=>rw[a]at h;cases h
 |some i=>rw[a]at h;simp only[zBe,aE1,aFE]at h;exact⟨i,rfl,h.1,h.2.1,h.2.2⟩
def Bg {W ops rest o a Q}(m:o.guard=aB)(s x)
  (t:o.op= .call {callee:= .builtin .append,args:= #[s,x],argTypes:= #[166,166]})
  (base) (v) (l) (hs:a.eval s=v) (b:iL W base v l) (u) (c) (f:a.eval x=aJ (aA ⟨W.heap.size,0,aB⟩) 1 c)
  (B:l.length<=1000000) (p:base<=W.heap.size)
  (h:∀g cap w',iL w' base (aJ (aA ⟨g,0,aB⟩) (l.length+1) cap) (l++[u])->W.grownBy w' v.ownBlock->(v.ownBlock=aA g\/W.heap.size<=g)->wpList zq ops Q rest (a.put o.dst (aJ (aA ⟨g,0,aB⟩) (l.length+1) cap)) w'):wpList zq ops Q (o::rest) a (W.alloc (aI #[ptr u] 264)):=by
 obtain⟨i,hi,q,k,n⟩:=SR;refine wpList_append_lies _ m s x 166 t base 264 i _ 1 8 ((Qz.eO 166).trans underlying166) hi q k n rfl (by omega) v l.length (OH l) hs (World.ownsRow.alloc b _) ⟨W.heap.size,0,aB⟩ 1 c [ptr u] f rfl (λj y r=> ?_) (λx f=>by rw[zAm]at f;subst f;exact Sw u) (by omega) (by simp only[maxLen];omega) (by omega) (by rw[size_alloc];omega) _ rfl (λg cap w' A z w _=>h g cap w' ?_ (kV z) (w.imp id λe=>by rw[e,size_alloc];omega))
 .have d:(⟨W.heap.size,0,aB⟩:Addr).add j=⟨W.heap.size,j,aB⟩:=by{unfold Addr.add;split<;>simp_all};rw[d];rw[(cD.new W 264 #[ptr u]).cell j];simpa using r
 .unfold iL OH;rw[zDi,zAi];exact A
def pV (w:zW)(q:zO)(l:List (Option Nat)):Prop:=0<l.length->∃g o,q=aA ⟨g,o,aB⟩/\g<w.heap.size/\∀j p,l[j]? =aA p->w.cell? ⟨g,o+j,aB⟩=aA (ptr p)
def pV.kept {w w' q l}(h:pV w q l)(hs:w.heap.size<=w'.heap.size)(c:∀a,q=aA a->w'.heap[a.block]? =w.heap[a.block]?):pV w' q l:=λi=>by obtain⟨g,o,e,d,f⟩:=h i;refine⟨g,o,e,zAc d hs,λj p b=> ?_⟩;rw[<-f j p b];simp only[World.cell?];rw[c _ e]
def iL.OH {w base v l}(h:iL w base v l):∃q c,v=aJ q l.length c/\l.length<=c/\pV w q l/\∀a,q=aA a->base<=a.block/\a.block<w.heap.size/\∃b,w.heap[a.block]? =aA (aI b 264 (0,0)):=by
 obtain⟨s,f⟩:=h;obtain⟨rfl,f⟩|⟨g,cap,b,rfl,hb,d,n,_,o,m⟩:=f
 .have:l=[]:=zFl.1 f;subst this;exact⟨aB,0,rfl,zAb _,λx=>by simp at x,λa e=>by cases e⟩
 .have k:=(zAa.1 d).1;refine⟨aA ⟨g,0,aB⟩,cap,rfl,n,λ_=>⟨g,0,rfl,k,λj p i=> ?_⟩,λa e=>by cases e;exact⟨hb,k,b,d⟩⟩;have r:=(zAu.1 i).1;rw[zAx,aZ d,<-zBp];have:(b.toList.take (l.length*1))[j]? =aA (ptr p):=by
   rw[m];unfold Go.Proofs.Zq.OH;rw[zDo,i];rfl
  rwa [List.getElem?_take_of_lt (by omega)]at this
def uN (w:zW)(fr:Option Nat->Bool)(p:Option Nat):Prop:=(p=aB/\fr p=aF)\/∃b z o i v g h,p=aA b/\aX w b z o i v g h/\fr p=g.isEmpty
def ZQ {w fr p}(h:uN w fr p):Calls zq 246 #[ptr p] w λe a=>e=aL (.bool (fr p))/\a=w:=by
 obtain⟨rfl,h⟩|⟨b,z,o,i,v,g,d,rfl,c,h⟩:=h
 .rw[h];exact xV w
 .rw[h];exact mE c
structure QG (w w':zW)(v v':zY):Prop where
 VS:w.grownBy w' v.ownBlock
 own:∀g,v'.ownBlock=aA g->v.ownBlock=aA g\/w.heap.size<=g
def QG.refl (w)(v):QG w w v v:=⟨⟨rfl,rfl,rfl,zAb _,λ_ _ _=>rfl⟩,λ_ h=>aG h⟩
def QG.trans {w w1 w2 v v1 v2}(h:QG w w1 v v1)(k:QG w1 w2 v1 v2):QG w w2 v v2:=by
 refine⟨⟨k.VS.os.trans h.VS.os,k.VS.tape.trans h.VS.tape,k.VS.output.trans h.VS.output,zAw h.VS.size k.VS.size,λb c a=> ?_⟩,λg d=> ?_⟩
 .refine(k.VS.block b (zAc c h.VS.size) λe=> ?_).trans (h.VS.block b c a);obtain x|x:=h.own b e.symm
  .exact a x.symm
  .omega
 .obtain x|x:=k.own g d
  .exact h.own g x
  .right;have:=h.VS.size;omega
def ME {w base v l ts q c fr}(Y:iL w base v l)(X:pV w q ts)(hF:∀p∈ts,uN w fr p)(T:∀a g,q=aA a->v.ownBlock=aA g->a.block≠g)(W:base<=w.heap.size)(r:∀p∈ts,∀b,p=aA b->∀g,v.ownBlock=aA g->b≠g)(hl:l.length+ts.length<=1000):
  Calls zq 241 #[v,aJ q ts.length c] w λe D=>∃y,e=aL y/\iL D base y (l++ts.filter fr)/\QG w D v y:=by
 have HO:=hid Y;have HT:=hid X;have HF:=hid hF;have HQ:=hid T;have HC:=hid r;go_enter (Qz.fn func241),ntmps241;go_wp2_with fail;go_loopg [0,9] ts.length (λn x i wr=>∃t:Nat,t+n=ts.length/\i=aC aD (t:Int)/\QG w wr v x/\iL wr base x (l++(ts.take t).filter fr));case atStart=>exact⟨0,by omega,rfl,QG.refl _ _,by simpa using HO.out⟩
 case round=>
  obtain⟨t,ht,rfl,c1,c2⟩:=hrel
  have C:=hid c1
  have K:=hid c2
  by_cases f:t<ts.length
  .obtain⟨g,R,rfl,I,O⟩:=HT.out (by omega);have L:=O t ts[t] (zAf f);have d:=zCx f;have K0:wr.cell? ⟨g,R+t,aB⟩=aA (ptr ts[t]):=by
    rw[<-L];simp only[World.cell?];rw[C.out.VS.block g I λe=>HQ.out _ _ rfl e.symm rfl]
   have m:uN wr fr ts[t]:=by obtain h|⟨b,z,o,i,y,P,S,e,B,h⟩:=HF.out _ d;{exact aG h};{exact aH ⟨b,z,o,i,y,P,S,e,⟨by rw[C.out.VS.block b B.lt λe'=>HC.out _ d b e b e'.symm rfl];exact B.at'⟩,h⟩}
   have j:fr ts[t]=aE->∃b,ts[t]=aA b:=λh=>by obtain⟨_,Z⟩|⟨b,_,_,_,_,_,_,e,_⟩:=m;{rw[Z]at h;cases h};{exact⟨b,e⟩}
   have s:=hid (ZQ m);have u:Hid (l++(ts.take (t+1)).filter fr=(l++(ts.take t).filter fr)++(if fr ts[t]then [ts[t]]else [])):=by show _=_;rw[List.take_succ,zAf f,zDh,zDa];by_cases N:fr ts[t]=aE;{simp[N]};{simp[N]}
   have F:(l++(ts.take t).filter fr).length<=1000000:=by have h1:=zFo fr (ts.take t);rw[zAi];rw[zBj]at h1;omega
   have J:=zAw W C.out.VS.size;have V:¬((t:Int)<0):=by{omega};have U:(t:Int)<(ts.length:Int):=by{omega};generalize ts[t]=pt at*;generalize l++(ts.take t).filter fr=M at*;clear m O L d;go_wp2_with fail;refine s.out.mono ?_;rintro e D ⟨rfl,rfl⟩;cases k:fr pt with
   |true=>
    obtain⟨b,rfl⟩:=j k;have H:Hid (l++(ts.take (t+1)).filter fr=M++[aA b]):=by have:=u.out;rw[k]at this;exact this
    clear u s;go_wp2_with (first|(at_builtin;refine Bg rfl _ _ rfl base _ _ rfl K.out (aA b) 1 rfl F J ?_;intro P Q w2 A G E));go_roundg (ts.length-(t+1));case measure=>omega
    case rel=>
     go_light
     refine⟨t+1,by omega,by go_num,C.out.trans ⟨G,λg I=> ?_⟩,by rw[H.out];exact A⟩
     cases I
     exact E
   |false=>
    have H:Hid (l++(ts.take (t+1)).filter fr=M):=by show _=_;have:=u.out;rw[k]at this;simpa using this
    clear u s;go_wp2;go_roundg (ts.length-(t+1));case measure=>omega
    case rel=>
     go_light
     exact⟨t+1,by omega,by go_num,C.out,by rw[H.out];exact K.out⟩
  .have:t=ts.length:=by{omega};subst this;have u:Hid (l++(ts.take ts.length).filter fr=l++ts.filter fr):=by{show _=_;rw[List.take_length]};go_wp2;go_ret;exact⟨u0,rfl,by rw[<-u.out];exact K.out,C.out⟩
def kids (zf of:Nat->Option Nat)(fr:Option Nat->Bool)(b:Nat):List (Option Nat):=[zf b,of b].filter fr
def Nf (zf of)(fr:Option Nat->Bool)(b):(kids zf of fr b).length<=2:=zFo _ _
def GS (zf of:Nat->Option Nat)(fr:Option Nat->Bool):∀a:List Nat,(a.flatMap (kids zf of fr)).length<=2*a.length
 |[]=>by simp
 |b::a=>by have c:=GS zf of fr a;have h:=Nf zf of fr b;simp only[List.flatMap_cons,zAi,zAh];omega
def Hj {w}{bs:List Nat}{zf of fr q c}(hT:pV w q (bs.map aA))(hC:∀b∈bs,(∃i v g hs,aX w b (zf b) (of b) i v g hs)/\uN w fr (zf b)/\uN w fr (of b))(hl:bs.length<=100):
  Calls zq 242 #[aJ q bs.length c] w λe F=>∃s,e=aL s/\iL F w.heap.size s (bs.flatMap (kids zf of fr))/\zb w F:=by
 have HT:=hid hT;have HC:=hid hC;go_enter (Qz.fn func242),ntmps242;go_wp2_with fail;go_loopg [3,8] bs.length (λn x i wr=>∃t:Nat,t+n=bs.length/\i=aC aD (t:Int)/\zb w wr/\iL wr w.heap.size x ((bs.take t).flatMap (kids zf of fr)));case atStart=>exact⟨0,by omega,rfl,zGe _ _,iL.nil _ _⟩
 case round=>
  obtain⟨t,ht,rfl,c1,c2⟩:=hrel
  have K:=hid c1
  have Z:=hid c2
  by_cases B:t<bs.length
  .obtain⟨g,T,rfl,hg,V⟩:=HT.out (by rw[zDj];omega);have y:=zCx B;have U:=V t (aA bs[t]) (by rw[zDo,zAf B];rfl);have K0:wr.cell? ⟨g,T+t,aB⟩=aA (ptr (aA bs[t])):=by
    rw[K.out.cell (p:=⟨g,T+t,aB⟩) hg];exact U
   obtain⟨⟨i,v,gg,hs,f⟩,E,D⟩:=HC.out _ y;have d:aX wr bs[t] (zf bs[t]) (of bs[t]) i v gg hs:=⟨by rw[K.out.block _ f.lt];exact f.at'⟩;have c0:=d.c0;have c1:=d.c1;have N:Hid ((bs.take (t+1)).flatMap (kids zf of fr)=(bs.take t).flatMap (kids zf of fr)++[zf bs[t],of bs[t]].filter fr):=by show _=_;rw[List.take_succ,zAf B,List.flatMap_append];simp[kids]
   have O:((bs.take t).flatMap (kids zf of fr)).length<=200:=by have:=GS zf of fr (bs.take t);rw[zBj]at this;omega
   have A:∀p,uN w fr p->∀W,zb w W->uN W fr p:=λp h W L=>by obtain h|⟨b,z,o,i,s,Y,hs,e,u,h⟩:=h;{exact aG h};{exact aH ⟨b,z,o,i,s,Y,hs,e,⟨by rw[L.block b u.lt];exact u.at'⟩,h⟩}
   have m:∀p,uN w fr p->∀b,p=aA b->b<w.heap.size:=λp h b e=>by obtain⟨rfl,_⟩|⟨b',z,o,i,s,Y,hs,e',u,h⟩:=h;{cases e};{rw[e']at e;cases e;exact u.lt}
   have R:Hid (∀W,zb wr W->Calls zq 241 #[u3,aJ (aA ⟨W.heap.size,0,aB⟩) 2 2] (W.alloc (aI #[ptr (zf bs[t]),ptr (of bs[t])] 264)) λe F=>∃s,e=aL s/\iL F w.heap.size s ((bs.take (t+1)).flatMap (kids zf of fr))/\zb w F):=λW L=>by
    have M:=Z.out.below L (zAb _);have J:zb w W:=K.out.trans (L.mono K.out.size);have r:zb w (W.alloc (aI #[ptr (zf bs[t]),ptr (of bs[t])] 264)):=J.alloc J.size _;have Q:iL (W.alloc (aI #[ptr (zf bs[t]),ptr (of bs[t])] 264)) w.heap.size u3 ((bs.take t).flatMap (kids zf of fr)):=World.ownsRow.alloc M _;have H:=cD.new W 264 #[ptr (zf bs[t]),ptr (of bs[t])];rw[N.out];refine(ME (ts:=[zf bs[t],of bs[t]]) (q:=aA ⟨W.heap.size,0,aB⟩) (c:=2) (fr:=fr) Q ?_ ?_ ?_ ?_ ?_ ?_).mono ?_
    .refineλ_=>⟨W.heap.size,0,rfl,by rw[size_alloc];omega,λj p l=> ?_⟩;rw[zAx,H.cell j];match j,l with
     |0,l=>cases l;rfl
     |1,l=>cases l;rfl
    .intro p l;simp only[zAe,zAo,zCa]at l;obtain rfl|rfl:=l
     .exact A _ E _ r
     .exact A _ D _ r
    .intro a g P C e;cases P;have:=(M.lt g C).2;dsimp only at e;omega
    .have:=r.size;omega
    .intro p l b X g C;have:=(M.lt g C).1;have:b<w.heap.size:=by
      simp only[zAe,zAo,zCa]at l;obtain rfl|rfl:=l;{exact m _ E b X};{exact m _ D b X}
     omega
    .simp only[zAh,zBb];omega
    .rintro e F ⟨s,rfl,h1,h2⟩;exact⟨s,rfl,h1,r.grown h2.VS r.size λk hk=>(M.lt k hk).1⟩
   have Zw:¬((t:Int)<0):=by{omega};have Vf:(t:Int)<(bs.length:Int):=by omega
   generalize bs[t]=S at*;generalize zf S=pz at*;generalize of S=po at*;clear V U y f d E D A m N O;cases pz<;>cases po;all_goals
    go_upto_region 5 with(fail)
    go_region_with (first
     |(go_at_call 241;refine(R.out wr.drew ⟨rfl,rfl,rfl,zAb _,λ_ _=>rfl⟩).mono ?_;rintro e w9 ⟨v9,rfl,G,I⟩;dsimp only))
    all_goals
     have O9:=hid G
     have B9:=hid I
     clear G I
     go_wp2_with fail
     go_roundg (bs.length-(t+1))
     case measure=>omega
     case rel=>
      go_light
      exact⟨t+1,by omega,by go_num,B9.out,O9.out⟩
  .have:t=bs.length:=by{omega};subst this;have N:Hid ((bs.take bs.length).flatMap (kids zf of fr)=bs.flatMap (kids zf of fr)):=by{show _=_;rw[List.take_length]};go_wp2;go_ret;exact⟨u3,rfl,by rw[<-N.out];exact Z.out,K.out⟩
def iL.mb {w base b v l}(h:iL w b v l)(d:base<=b):iL w base v l:=by obtain⟨i,f⟩:=h;refine⟨i,f.imp id ?_⟩;rintro⟨g,cap,c,e,a,r⟩;exact⟨g,cap,c,e,zAw d a,r⟩
structure ah (w:zW)(zf of:Nat->Option Nat)(fr:Option Nat->Bool)(PD:Nat->zP):Prop where
 cell:∀n b,PD n b->(∃i v hs,aX w b (zf b) (of b) i v [] hs)/\uN w fr (zf b)/\uN w fr (of b)
 vx:∀n b,PD n b->∀c∈kids zf of fr b,∃c',c=aA c'/\PD (n+1) c'
 deep:∀n b,PD n b->n<=256
def uN.below {w W fr p}(h:uN w fr p)(d:zb w W):uN W fr p:=by
 obtain h|⟨b,z,o,i,v,g,c,e,a,h⟩:=h
 .exact aG h
 .exact aH ⟨b,z,o,i,v,g,c,e,⟨by rw[d.block b a.lt];exact a.at'⟩,h⟩
def ah.below {w W:zW}{zf of:Nat->Option Nat}{fr:Option Nat->Bool}{P:Nat->zP}(h:ah w zf of fr P)(a:zb w W):ah W zf of fr P:=
 ⟨λn b e=>by obtain⟨⟨i,v,d,c⟩,g,f⟩:=h.cell n b e;exact⟨⟨i,v,d,⟨by rw[a.block b c.lt];exact c.at'⟩⟩,g.below a,f.below a⟩,h.vx,h.deep⟩
def Ng {zf of fr}{P:Nat->zP}{n}:∀(g:List Nat),(∀b∈g,∀c∈kids zf of fr b,∃c',c=aA c'/\P (n+1) c')->∃cs:List Nat,g.flatMap (kids zf of fr)=cs.map aA/\∀c∈cs,P (n+1) c:=by
 intro g h;have k:∀l:List (Option Nat),(∀c∈l,∃c',c=aA c'/\P (n+1) c')->∃cs:List Nat,l=cs.map aA/\∀c∈cs,P (n+1) c:=λl=>by
  induction l with
  |nil=>exactλ_=>⟨[],rfl,λc d=>by simp at d⟩
  |cons a l i=>intro h;obtain⟨p,e,m⟩:=h a (by simp);obtain⟨cs,o,f⟩:=i λc d=>h c (zBh _ d);refine⟨p::cs,by rw[e,o];rfl,λc d=> ?_⟩;obtain rfl|d:=zAe.1 d;{exact m};{exact f c d}
 refine k _ λc d=> ?_;obtain⟨b,j,d⟩:=List.mem_flatMap.1 d;exact h b j c d
def YN {w zf of fr P top}(hL:ah w zf of fr P)(hF:uN w fr top)(hP:fr top=aE->∃b,top=aA b/\P 0 b):
  Calls zq 234 #[ptr top] w λe f=>∃(d:zY)(h:List Nat),e=aL d/\iL f w.heap.size d (h.map aA)/\(∀b∈h,∃n,P n b)/\h.length<=32/\zb w f:=by
 have HL:=hid hL;have Q:Hid (∀W,zb w W->Calls zq 241 #[aJ aB 0 0,aJ (aA ⟨W.heap.size,0,aB⟩) 1 1] (W.alloc (aI #[ptr top] 264)) λe f=>∃(d:zY)(h:List Nat),e=aL d/\iL f w.heap.size d (h.map aA)/\(∀b∈h,P 0 b)/\h.length<=1/\zb w f):=λW hW=>by
  have o:zb w (W.alloc (aI #[ptr top] 264)):=hW.alloc hW.size _;have F:=cD.new W 264 #[ptr top];refine(ME (base:=w.heap.size) (ts:=[top]) (c:=1) (fr:=fr) (iL.nil _ _) ?_ ?_ ?_ ?_ ?_ ?_).mono ?_
  .refineλ_=>⟨W.heap.size,0,rfl,by rw[size_alloc];omega,λj p t=> ?_⟩;rw[zAx,F.cell j];match j,t with
   |0,t=>cases t;rfl
  .intro p t;rw[zAm]at t;subst t;exact hF.below o
  .intro a g _ V;cases V
  .exact o.size
  .intro p _ b _ g V;cases V
  .simp
  .rintro e f ⟨d,rfl,N,h2⟩;have G:zb w f:=o.grown h2.VS o.size λk hk=>by{cases hk};cases s:fr top with
   |true=>obtain⟨b,rfl,l⟩:=hP s;refine⟨d,[b],rfl,?_,λc u=> ?_,by simp,G⟩;{simpa [s]using N};{rw[zAm]at u;subst u;exact l}
   |false=>refine⟨d,[],rfl,?_,λc u=>by simp at u,by simp,G⟩;simpa [s]using N
 clear hL hF hP;have R:∀z:zY,(z= .pointer aB\/∃b,z=aN (aA ⟨b,0,aB⟩))->(∀W,zb w W->Calls zq 241 #[aJ aB 0 0,aJ (aA ⟨W.heap.size,0,aB⟩) 1 1] (W.alloc (aI #[z] 264)) λe f=>∃(d:zY)(h:List Nat),e=aL d/\iL f w.heap.size d (h.map aA)/\(∀b∈h,P 0 b)/\h.length<=1/\zb w f)->
   Calls zq 234 #[z] w λe f=>∃(d:zY)(h:List Nat),e=aL d/\iL f w.heap.size d (h.map aA)/\(∀b∈h,∃n,P n b)/\h.length<=32/\zb w f:=by
  intro z r hF
  have Q:=hid hF
  clear hF
  obtain rfl|⟨b,rfl⟩:=r
  all_goals
   go_enter (Qz.fn func234),ntmps234
   go_wp2_with fail
   refine(Q.out w (zGe _ _)).mono ?_
   rintro e w1 ⟨v1,b1,rfl,o1,p1,l1,I⟩
   have O1:=hid o1
   have P1:=hid p1
   have B1:=hid I
   clear o1 p1 I Q
   go_wp2_with fail
   go_loopg [3,4] 300 (λq x y wr=>∃(n:Nat)(lv ms:List Nat),n+q=300/\zb w wr/\iL wr w.heap.size x (lv.map aA)/\iL wr w.heap.size y (ms.map aA)/\(∀b∈lv,P n b)/\(∀b∈ms,∃m,P m b)/\lv.length<=ms.length/\ms.length<=32)
   case atStart=>exact⟨0,b1,b1,by omega,B1.out,O1.out,O1.out,P1.out,λb l=>⟨0,P1.out b l⟩,zAb _,by omega⟩
   case round=>
    clear O1 P1 B1 l1
    obtain⟨n,lv,ms,hn,c1,c2,c3,c4,c5,c6,c7⟩:=hrel
    have C:=hid c1
    have C2:=hid c2
    have M:=hid c3
    have C4:=hid c4
    have C5:=hid c5
    obtain⟨q3,k3,e3,h31,Nu,h33⟩:=C2.out.OH
    obtain⟨q4,k4,e4,h41,h42,h43⟩:=M.out.OH
    rw[zDj]at e3 h31 e4 h41
    subst e3
    subst e4
    have L:=hid Nu
    clear c1 c2 c3 c4 c5 Nu h33 h42 h43
    by_cases U:0<lv.length/\ms.length<16
    .have B:(0:Int)<(lv.length:Int):=by{omega};have T:(ms.length:Int)<16:=by omega
     have H:Hid (ah wr zf of fr P):=HL.out.below C.out;have K:Hid (Calls zq 242 #[aJ q3 lv.length k3] wr λe f=>∃d cs,e=aL d/\iL f w.heap.size d (List.map aA cs)/\(∀b∈cs,P (n+1) b)/\cs.length<=30/\zb wr f):=by refine(Hj (bs:=lv) (zf:=zf) (of:=of) (fr:=fr) L.out (λb l=> ?_) (by omega)).mono ?_;{obtain⟨⟨i,v,hs,u⟩,N,h2⟩:=H.out.cell n b (C4.out b l);exact⟨⟨i,v,[],hs,u⟩,N,h2⟩};{rintro e w2 ⟨v2,rfl,A,J⟩;obtain⟨cs,ecs,X⟩:=Ng lv λb l=>H.out.vx n b (C4.out b l);have E:=GS zf of fr lv;rw[ecs]at A E;rw[zDj]at E;exact⟨v2,cs,rfl,A.mb C.out.size,X,by omega,J⟩}
     go_wp2_with fail;refine K.out.mono ?_;rintro e w2 ⟨v2,cs,rfl,A,p2,l2,J⟩;have O:=hid A;have O3:Hid (iL w2 w.heap.size (aJ q4 ms.length k4) (ms.map aA)):=M.out.below J (zAb _);have P2:=hid p2;have B2:Hid (zb w w2):=C.out.trans (J.mono C.out.size);have S:n<=256:=by obtain⟨b,l⟩:∃b,b∈lv:=List.exists_mem_of_length_pos U.1;exact HL.out.deep n b (C4.out b l)
     obtain⟨q5,k5,e5,h51,Z,Y⟩:=O.out.OH;rw[zDj]at e5;subst e5;clear A p2 J K H C C2 M C4 L h51 Z Y;by_cases xv:ms.length<cs.length
     .have D:(ms.length:Int)<(cs.length:Int):=by{omega};go_wp2_with fail;go_roundg (300-(n+1));case measure=>omega
      case rel=>
       go_light
       exact⟨n+1,cs,cs,by omega,B2.out,O.out,O.out,P2.out,λb l=>⟨n+1,P2.out b l⟩,zAb _,by omega⟩
     .have D:¬(ms.length:Int)<(cs.length:Int):=by{omega};go_wp2_with fail;go_roundg (300-(n+1));case measure=>omega
      case rel=>
       go_light
       exact⟨n+1,cs,ms,by omega,B2.out,O.out,O3.out,P2.out,C5.out,by omega,by omega⟩
    .by_cases h0:0<lv.length
     .have B:(0:Int)<(lv.length:Int):=by{omega};have T:¬(ms.length:Int)<16:=by{omega};go_wp2;go_ret;exact⟨_,rfl,ms,M.out,C5.out,by omega,C.out⟩
     .have B:¬(0:Int)<(lv.length:Int):=by{omega};go_wp2;go_ret;exact⟨_,rfl,ms,M.out,C5.out,by omega,C.out⟩
 have r:ptr top= .pointer aB\/∃b,ptr top=aN (aA ⟨b,0,aB⟩):=by
  cases top with
  |none=>exact aG rfl
  |some b=>exact aH ⟨b,rfl⟩
 exact R _ r Q.out
inductive Good (w:zW):zP
 |mk {b:Nat} {z o:Option Nat} {i v g:zB} {hs:Int} (h:aX w b z o i v g hs) (hz:∀c,z=aA c->Good w c) (ho:∀c,o=aA c->Good w c):Good w b
def Good.cell {w b}(h:Good w b):∃z o i v g hs,aX w b z o i v g hs:=by cases h with|mk h _ _=>exact⟨_,_,_,_,_,_,h⟩
def Good.down {w b z o i v g hs}(h:Good w b)(j:aX w b z o i v g hs)(c)(e:z=aA c\/o=aA c):Good w c:=by
 cases h with
 |mk h a f=>obtain⟨rfl,rfl,_⟩:=gF h j;exact e.elim (a c) (f c)
section
variable {k:Nat}{w w':zW}{p:Option Nat}{us:List bS}{d lo hi:Nat}{rows:List (Nat×ByteArray)}
def eL.OY (h:eL k w p us d):∀b,p=aA b->Good w b:=by
 induction h with
 |nil=>intro b e;cases e
 |leaf h=>intro b e;cases e;exact .mk h (λc e=>by cases e) (λc e=>by cases e)
 |node _ _ h _ _ f a=>intro b e;cases e;exact .mk h f a
def cS.OY (h:cS k w p us d lo hi rows):(∀b,p=aA b->Good w b)/\∀x∈rows,Good w x.1:=by
 induction h with
 |done h=>exact⟨h.OY,λx a=>by simp at a⟩
 |leaf _ _ h=>have l:=Good.mk h (λc e=>by cases e) (λc e=>by cases e);refine⟨λb e=>by cases e;exact l,λx a=> ?_⟩;rw[zAm]at a;subst a;exact l
 |node _ _ h _ _ _ j f=>
  have l:=Good.mk h j.1 f.1;refine⟨λb e=>by cases e;exact l,λx a=> ?_⟩;obtain a|a:=zAg.1 a
  .obtain a|a:=zAg.1 a
   .exact j.2 x a
   .exact f.2 x a
  .rw[zAm]at a;subst a;exact l
def eL.stay {G:zP}(a:∀b z o i v g hs,G b->aX w b z o i v g hs->∀c,z=aA c\/o=aA c->G c)(r:∀b z o i v g hs,G b->aX w b z o i v g hs->∃f,aX w' b z o i v g f)(h:eL k w p us d)(q:∀b,p=aA b->G b):eL k w' p us d:=by
 induction h with
 |nil d=>exact .nil d
 |leaf h=>obtain⟨f,n⟩:=r _ _ _ _ _ _ _ (q _ rfl) h;exact .leaf n
 |node t s h u x l j=>have m:=q _ rfl;obtain⟨f,n⟩:=r _ _ _ _ _ _ _ m h;exact .node t s n (l λc e=>a _ _ _ _ _ _ _ m h c (aG e)) (j λc e=>a _ _ _ _ _ _ _ m h c (aH e))
def cS.stay {G:zP}(a:∀b z o i v g hs,G b->aX w b z o i v g hs->∀c,z=aA c\/o=aA c->G c)(q:∀b z o i v g hs,G b->aX w b z o i v g hs->∃f,aX w' b z o i v g f)(h:cS k w p us d lo hi rows)(m:∀b,p=aA b->G b):cS k w' p us d lo hi rows:=by
 induction h with
 |done h hl=>exact .done (h.stay a q m) hl
 |leaf k1 k2 h=>obtain⟨f,r⟩:=q _ _ _ _ _ _ _ (m _ rfl) h;exact .leaf k1 k2 r
 |node t s h u x hb l j=>have n:=m _ rfl;obtain⟨f,r⟩:=q _ _ _ _ _ _ _ n h;exact .node t s r (l λc e=>a _ _ _ _ _ _ _ n h c (aG e)) (j λc e=>a _ _ _ _ _ _ _ n h c (aH e)) hb
def cS.Tq {G:zP}(f:∀b z o i v g hs,G b->aX w b z o i v g hs->∀c,z=aA c\/o=aA c->G c)(h:cS k w p us d lo hi rows)(n:∀b,p=aA b->G b):∀x∈rows,G x.1:=by
 induction h with
 |done=>intro x a;simp at a
 |leaf=>intro x a;rw[zAm]at a;subst a;exact n _ rfl
 |node t s h q r hb l j=>
  have m:=n _ rfl;intro x a;obtain a|a:=zAg.1 a
  .obtain a|a:=zAg.1 a
   .exact l (λc e=>f _ _ _ _ _ _ _ m h c (aG e)) x a
   .exact j (λc e=>f _ _ _ _ _ _ _ m h c (aH e)) x a
  .rw[zAm]at a;subst a;exact m
end
def lz (w:zW)(b:Nat):Option Nat:=match w.cell? ⟨b,0,aB⟩with|some (aN (aA a))=>aA a.block|_=>aB
def nt (w:zW)(b:Nat):Option Nat:=match w.cell? ⟨b,1,aB⟩with|some (aN (aA a))=>aA a.block|_=>aB
def CU (w:zW):Option Nat->Bool
 |none=>aF
 |some b=>match w.cell? ⟨b,4,aB⟩with|some (aK s)=>s.data.toList.isEmpty|_=>aF
section
variable {k:Nat}{w w':zW}{b:Nat}{z o:Option Nat}{i v g:zB}{hs:Int}
def aX.zf (h:aX w b z o i v g hs):lz w b=z:=by unfold lz;rw[h.c0];cases z<;>rfl
def aX.of (h:aX w b z o i v g hs):nt w b=o:=by unfold nt;rw[h.c1];cases o<;>rfl
def aX.fr (h:aX w b z o i v g hs):CU w (aA b)=g.isEmpty:=by show(match w.cell? ⟨b,4,aB⟩with|some (aK s)=>s.data.toList.isEmpty|_=>aF)=_;rw[h.c4]
def Good.Yp (h:∀c,z=aA c->Good w c):uN w (CU w) z:=by
 cases z with
 |none=>exact aG ⟨rfl,rfl⟩
 |some c=>obtain⟨z,o,i,v,g,hs,a⟩:=(h c rfl).cell;exact aH ⟨c,z,o,i,v,g,hs,rfl,a,a.fr⟩
structure pW (k:Nat)(w:zW)(G:zP)(us:List bS)(all:List (Nat×ByteArray))(n b:Nat):Prop where
 deep:n<=256
 Tq:G b
 new:∃z o i v hs,aX w b z o i v [] hs
 tree:∃vi lo hi rows,cS k w (aA b) vi n lo hi rows/\(∀x∈rows,x∈all)/\rows.length<=all.length/\∀u∈vi,u∈us
def Xs {G}(f:∀b z o i v g hs,G b->aX w b z o i v g hs->∀c,z=aA c\/o=aA c->G c)(k1:1<=k)(k2:k<=32)(us)(all):ah w (lz w) (nt w) (CU w) (pW k w G us all):=by
 refine⟨λn b h=> ?_,λn b h c l=> ?_,λn b h=>h.deep⟩
 .obtain⟨z,o,i,v,hs,l⟩:=h.new;obtain⟨s,lo,hi,rows,F,_⟩:=h.tree;have I:=F.OY.1 b rfl;rw[l.zf,l.of];exact⟨⟨i,v,hs,l⟩,Good.Yp λc e=>I.down l c (aG e),Good.Yp λc e=>I.down l c (aH e)⟩
 .have K:=h;obtain⟨z,o,i,v,hs,a⟩:=h.new;obtain⟨s,lo,hi,rows,F,H,hlen,E⟩:=h.tree;unfold kids at l;rw[a.zf,a.of]at l;obtain⟨D,r⟩:=zBa.1 l;have t:∀(c:Option Nat)(j:List bS)(m q:Nat)(r2:List (Nat×ByteArray)),(∀c',c=aA c'->G c')->CU w c=aE->n<256->cS k w c j (n+1) m q r2->(∀x∈r2,x∈rows)->r2.length<=rows.length->(∀u∈j,u∈s)->∃c',c=aA c'/\pW k w G us all (n+1) c':=λc j m q r2 O r T B R Q P=>by
   cases c with
   |none=>cases r
   |some c=>obtain⟨z2,S,i2,v2,U,M,C⟩:=(B.OY.1 c rfl).cell;rw[C.fr]at r;have e:=List.isEmpty_iff.1 r;subst e;exact⟨c,rfl,by omega,O c rfl,⟨_,_,_,_,_,C⟩,j,m,q,r2,B,λx y=>H x (R x y),by omega,λu A=>E u (P u A)⟩
  cases F with
  |done h hl=>
   exfalso;cases h with
   |leaf h=>exact rB k1 k2 (gF h a).2.2.2.2.1
   |node _ _ h=>exact rB k1 k2 (gF h a).2.2.2.2.1
  |leaf _ _ h=>obtain⟨rfl,rfl,_⟩:=gF h a;simp only[zAe,zAo,zCa,or_self]at D;subst D;cases r
  |node Q J h L N hb=>obtain⟨rfl,rfl,_⟩:=gF h a;simp only[zAe,zAo,zCa]at D;obtain rfl|rfl:=D;{exact t _ _ _ _ _ (λc' e=>f _ _ _ _ _ _ _ K.Tq a c' (aG e)) r J L (λx y=>zAg.2 (aG (zAg.2 (aG y)))) (by rw[zAi,zAi];omega) (λu A=>(zBa.1 A).1)};{exact t _ _ _ _ _ (λc' e=>f _ _ _ _ _ _ _ K.Tq a c' (aH e)) r J N (λx y=>zAg.2 (aG (zAg.2 (aH y)))) (by rw[zAi,zAi];omega) (λu A=>(zBa.1 A).1)}
def Mg {G p us lo hi all}(h:cS k w p us 0 lo hi all)(j:∀b,p=aA b->G b):uN w (CU w) p/\(CU w p=aE->∃b,p=aA b/\pW k w G us all 0 b):=by
 refine⟨Good.Yp h.OY.1,λc=> ?_⟩;cases p with
 |none=>cases c
 |some b=>obtain⟨z2,l,i2,v2,m,f,a⟩:=(h.OY.1 b rfl).cell;rw[a.fr]at c;have e:=List.isEmpty_iff.1 c;subst e;exact⟨b,rfl,by omega,j b rfl,⟨_,_,_,_,_,a⟩,us,lo,hi,all,h,λ_ h=>h,zAb _,λ_ h=>h⟩
end
structure rM (k t:Nat)(D:zP)(w:zW):Prop where
 k1:1<=k
 k2:k<=32
 plain:Plain zq Qw.Al D w
 box:∀b,D b->¬WO w.heap[b]?
 top:D t
 BL:oF w t k
 iM:fF w
 thaw:∀b z o i v g hs,D b->aX w b z o i v g hs->dZ w b
def GN:(0:Nat)<=zq.globals.size/\(2:Nat)<=zq.globals.size:=by have:zq.globals.size=Tryz.prog.globals.size:=rfl;rw[this];exact⟨by decide+kernel,by decide+kernel⟩
section
variable {k t:Nat}{D:zP}{w W:zW}
def rM.gW (h:rM k t D w):D 0/\D 2:=⟨(h.plain.ok.gW 0 GN.1).2,(h.plain.ok.gW 2 GN.2).2⟩
def sF (g:Plain zq Qw.Al D w)(f:tM D w W){b}(a:D b):b<W.heap.size/\∀i,W.cell? ⟨b,i,aB⟩=w.cell? ⟨b,i,aB⟩:=by
 have bW:=nV g a;have e:=zAj bW;obtain h|⟨c,ty,fr,l,j,d⟩:=f b a _ e
 .refine⟨(zAa.1 h).1,λi=> ?_⟩;simp only[World.cell?];rw[h,e]
 .refine⟨(zAa.1 d).1,λi=> ?_⟩;rw[j]at e;rw[aZ d,aZ e]
def Ek (l:Plain zq Qw.Al D w)(a:tM D w W){b}(d:D b){z o i v g hs}(h:aX w b z o i v g hs):aX W b z o i v g hs:=by
 obtain⟨fr,h⟩:=h.at';obtain h|⟨c,ty,fr,j,f,e⟩:=a b d _ h
 .exact⟨_,h⟩
 .cases f;exact⟨_,e⟩
def rM.mi (h:rM k t D w)(b:tM D w W):oF W t k:=by obtain⟨c,a⟩:=sF h.plain b h.top;exact⟨c,(a 0).trans h.BL.wid,(a 2).trans h.BL.emp⟩
def rM.mj (h:rM k t D w)(a:tM D w W):fF W:=by
 obtain⟨f,a2⟩:=sF h.plain a h.gW.1;obtain⟨e,d⟩:=sF h.plain a h.gW.2;refine⟨⟨e,λj c=> ?_⟩,f,λj v b=> ?_⟩
 .rw[d j];exact h.iM.mV.2 j c
 .rw[a2];exact h.iM.jK j v b
def rM.down (h:rM k t D w)(b)(z o)(i v g)(hs)(n:D b)(f:aX w b z o i v g hs)(c)(e:z=aA c\/o=aA c):D c:=by
 obtain⟨fr,f⟩:=f.at';have a:∀{x:Option Nat},bF Qw.Al (cH D) (ptr x) (ptr x)->x=aA c->D c:=λ{x} l e=>by
  subst e;cases l with
  |pointer m=>cases m with|some p=>exact p.1.2
 obtain⟨cs,ty,q,d,j,_⟩|⟨_,r,d,j⟩:=h.plain.blk b n
 .rw[f]at d;cases d;obtain e|e:=e
  .exact a (j.at' 0 _ _ rfl rfl) e
  .exact a (j.at' 1 _ _ rfl rfl) e
 .rw[f]at d;cases d;exact absurd rfl (j.1 _ _ _)
def rM.na (h:rM k t D w)(l:tM D w W){p:Option Nat}{us:List bS}{d lo hi:Nat}{rows:List (Nat×ByteArray)}(c:cS k w p us d lo hi rows)(e:∀b,p=aA b->D b):cS k W p us d lo hi rows:=
 c.stay h.down (λb z o i v g a f j=>⟨a,Ek h.plain l f j⟩) e
def rM.below (h:rM k t D w){B}(e:Below B w W)(l:w.heap.size<=B):rM k t D W:=by have d:∀b,D b->W.heap[b]? =w.heap[b]? :=λb j=>e.block b (zAc (nV h.plain j) l);refine⟨h.k1,h.k2,⟨h.plain.ok,zAc h.plain.low e.size,λb a=>by rw[d b a];exact h.plain.blk b a⟩,λb a=>by rw[d b a];exact h.box b a,h.top,h.BL.below e l,h.iM.below e l,λb z o i v g f a m=> ?_⟩;obtain⟨c,n⟩:=h.thaw b z o i v g f a ⟨by rw[<-d b a];exact m.at'⟩;exact⟨c,by rw[d b a];exact n⟩
def rM.fork (h:rM k t D w){us all}(U:∀u∈us,u.idx.length=32/\u.val.length<=100)(S:all.length<=1000000){bs:List Nat}(N:∀b∈bs,∃n,pW k w D us all n b)(hlen:bs.length<=32){q}(V:pV w q (bs.map aA))(J:∀a,q=aA a->¬WO w.heap[a.block]?):
  ∃bp o rows,Fork bs.length q bp o t D (λi=>(bs[i]?).map λb=>⟨b,0,aB⟩) rows w/\∀i,i<bs.length->∃b d n lo hi,bs[i]? =aA b/\cS k w (aA b) d n lo hi (rows i)/\(∀x∈rows i,x∈all)/\∃z o i v G,aX w b z o i v [] G:=by
 have M:∀i,∃r:List (Nat×ByteArray),i<bs.length->∃b d n lo hi,bs[i]? =aA b/\cS k w (aA b) d n lo hi r/\(∀x∈r,x∈all)/\r.length<=all.length/\(∀u∈d,u∈us)/\D b/\∃z o i v G,aX w b z o i v [] G:=λi=>by by_cases hi:i<bs.length;{obtain⟨n,K⟩:=N _ (zCx hi);obtain⟨d,lo,l,r,B,A,Y,X⟩:=K.tree;exact⟨r,λ_=>⟨_,d,n,lo,l,zAf hi,B,A,Y,X,K.Tq,K.new⟩⟩};{exact⟨[],λx=>absurd x hi⟩}
 obtain⟨rows,f⟩:=Classical.skolem.1 M;obtain⟨bp,o,m⟩:∃bp o,0<bs.length->q=aA ⟨bp,o,aB⟩/\bp<w.heap.size/\∀j p,(bs.map aA)[j]? =aA p->w.cell? ⟨bp,o+j,aB⟩=aA (ptr p):=by by_cases y:0<bs.length;{obtain⟨g,o,e,B,A⟩:=V (by rw[zDj];exact y);exact⟨g,o,λ_=>⟨e,B,A⟩⟩};{exact⟨0,0,λx=>absurd x y⟩}
 refine⟨bp,o,rows,⟨by omega,λy=>(m y).1,λy=>⟨(m y).2.1,J _ (m y).1⟩,λi hi=> ?_,h.plain,h.box,h.top,λi hi a T=> ?_,λi hi=> ?_,λi hi x Q=> ?_,λi hi W O=> ?_⟩,λi hi=> ?_⟩
 .obtain⟨b,d,n,lo,l,e,_⟩:=f i hi;rw[(m (by omega)).2.2 i (aA b) (by rw[zDo,e];rfl),e];rfl
 .obtain⟨b,d,n,lo,l,e,s,_,_,_,F,_⟩:=f i hi;rw[e]at T;cases T;exact F
 .obtain⟨b,d,n,lo,l,e,s,_,hl,_⟩:=f i hi;omega
 .obtain⟨b,d,n,lo,l,e,s,_,_,_,F,_⟩:=f i hi;have B:=s.Tq h.down (λZ P=>by cases P;exact F) x Q;obtain⟨z,o,i,v,g,G,E⟩:=(s.OY.2 x Q).cell;obtain⟨c,A⟩:=h.thaw _ _ _ _ _ _ _ B E;refine⟨B,c,A,?_⟩;obtain⟨fr,R⟩:=E.at';rw[A]at R;cases R;rfl
 .obtain⟨b,d,n,lo,l,e,s,_,hl,H,F,_⟩:=f i hi;have:=QQ h.k1 h.k2 (h.mi O) (h.mj O) (h.na O s λZ P=>by cases P;exact F) (λu I=>U u (H u I)) (by omega);rw[e];exact this
 .obtain⟨b,d,n,lo,l,e,s,L,_,_,_,C⟩:=f i hi;exact⟨b,d,n,lo,l,e,s,L,C⟩
end
section
variable {k:Nat}{w w':zW}{p:Option Nat}{us:List bS}{d lo hi:Nat}{rows L:List (Nat×ByteArray)}
def LC {b z o i v g hs}(h:aX w b z o i v g hs)(s):aX (oK w (b,s)) b z o i v s.data.toList hs:=by obtain⟨fr,h⟩:=h.at';refine⟨fr,?_⟩;have:=eF h 4 (aK s);show(w.setCell ⟨b,4,aB⟩ (aK s)).heap[b]? =_;rw[this];rfl
def xE {b z o i v g hs}(h:aX w b z o i v g hs){x}(a:b≠x.1):aX (oK w x) b z o i v g hs:=⟨by rw[qP a];exact h.at'⟩
def pM {b:Nat}{z o:Option Nat}{i v:zB}{hs:Int}{s:ByteArray}:∀(L:List (Nat×ByteArray)){w:zW}{g:zB},(∀c,(b,c)∈L->c=s)->(∃c,(b,c)∈L)\/g=s.data.toList->aX w b z o i v g hs->aX (Go.Ga.cY L w) b z o i v s.data.toList hs
 |[],w,g,_,h,j=>by obtain⟨_,h⟩|h:=h;{simp at h};{rw[<-h];exact j}
 |x::L,w,g,a,h,j=>by
  rw[SQ];by_cases e:b=x.1
  .have l:x.2=s:=a x.2 (by rw[e];simp);have m:aX (oK w x) b z o i v s.data.toList hs:=by
    have:=LC j x.2;rw[l]at this;have ex:(b,s)=x:=by{rw[e,<-l]};rw[ex]at this;exact this
   exact pM L (λc f=>a c (zBh _ f)) (aH rfl) m
  .refine pM L (λc f=>a c (zBh _ f)) ?_ (xE j e);obtain⟨c,h⟩|h:=h
   .obtain h|h:=zAe.1 h
    .exact absurd (by rw[<-h]) e
    .exact aG ⟨c,h⟩
   .exact aH h
def cS.root (f:1<=k)(c:k<=32)(h:cS k w p us d lo hi rows){b}(a:p=aA b){z o i v hs}(e:aX w b z o i v [] hs):∃s,(b,s)∈rows:=by
 cases h with
 |done h=>
  exfalso;cases h with
  |nil=>cases a
  |leaf h=>cases a;exact rB f c (gF h e).2.2.2.2.1
  |node _ _ h=>cases a;exact rB f c (gF h e).2.2.2.2.1
 |leaf=>cases a;exact⟨_,by simp;rfl⟩
 |node=>cases a;exact⟨_,zAg.2 (aH (by simp;rfl))⟩
def cS.closed (B:1<=k)(A:k<=32)(h:cS k w p us d lo hi rows):∀b s z o i v m,(b,s)∈rows->aX w b z o i v [] m->∀c,z=aA c\/o=aA c->(∃z o i v m,aX w c z o i v [] m)->∃f,(c,f)∈rows:=by
 induction h with
 |done=>intro b s z o i v m r;simp at r
 |leaf _ _ h=>intro b s z o i v m r q c e _;rw[zAm]at r;cases r;obtain⟨rfl,rfl,_⟩:=gF h q;obtain e|e:=e<;>cases e
 |node I H h D F r u t=>
  intro C s x y i v l a q c e g;obtain a|a:=zAg.1 a
  .obtain a|a:=zAg.1 a
   .obtain⟨f,j⟩:=u C s x y i v l a q c e g;exact⟨f,zAg.2 (aG (zAg.2 (aG j)))⟩
   .obtain⟨f,j⟩:=t C s x y i v l a q c e g;exact⟨f,zAg.2 (aG (zAg.2 (aH j)))⟩
  .rw[zAm]at a;cases a;obtain⟨rfl,rfl,_⟩:=gF h q;obtain⟨z2,G,i2,v2,E,n⟩:=g;obtain e|e:=e
   .obtain⟨f,j⟩:=D.root B A e n;exact⟨f,zAg.2 (aG (zAg.2 (aG j)))⟩
   .obtain⟨f,j⟩:=F.root B A e n;exact⟨f,zAg.2 (aG (zAg.2 (aH j)))⟩
def Gx {all:List (Nat×ByteArray)}(h:(all.map (·.1)).Nodup){b s s'}(e:(b,s)∈all)(c:(b,s')∈all):s=s':=by
 induction all with
 |nil=>simp at e
 |cons a l i=>
  rw[zDw,List.nodup_cons]at h;obtain g|e:=zAe.1 e
  .obtain f|c:=zAe.1 c
   .rw[<-g]at f;cases f;rfl
   .exact absurd (zCg.2 ⟨_,c,by rw[<-g]⟩) h.1
  .obtain f|c:=zAe.1 c
   .exact absurd (zCg.2 ⟨_,e,by rw[<-f]⟩) h.1
   .exact i h.2 e c
structure lk (w:zW)(all L:List (Nat×ByteArray)):Prop where
 sub:∀x∈L,x∈all
 down:∀b s z o i v hs,(b,s)∈L->aX w b z o i v [] hs->∀c,z=aA c\/o=aA c->(∃z o i v hs,aX w c z o i v [] hs)->∃s',(c,s')∈L
def cS.wrote (D:1<=k)(C:k<=32)(h:cS k w p us d lo hi rows)(t:lk w rows L)(y:eI L w w'):
  (∃cO,cS k w' p us d lo hi cO/\(∀x∈cO,x∈rows)/\cO.length<=rows.length)/\((∀b,p=aA b->(∃z o i v a,aX w b z o i v [] a)->∃s,(b,s)∈L)->eL k w' p us d):=by
 have u:=h.each;obtain⟨B,A⟩:=h.part (S:=λb=>∃s,(b,s)∈L) D C (λb ⟨s,a⟩=>(u.1 _ (t.sub _ a)).2.2) (λb z o i v a ⟨s,l⟩ j c e r=>t.down b s z o i v a l j c e r) (λb s ⟨s0,l⟩ q z o i v a j=>by
   have f:=pM L (λE n=>(Gx u.2 (t.sub _ n) q)) (aG ⟨s0,l⟩) j;obtain⟨fr,f⟩:=f.at';exact⟨a,fr,by rw[y.heap b j.lt];exact f⟩) (λb l z o i v g a j=>⟨a,⟨by
   rw[show w'.heap[b]? =w.heap[b]? from(y.heap b j.lt).trans (gU _ λx m e=>l ⟨x.2,by rw[<-e];exact m⟩)];exact j.at'⟩⟩) (λ_ h=>h)
 refine⟨?_,A⟩;obtain⟨cO,f1,f2,f3⟩:=B;exact⟨cO,f1,λx m=>(f2 x m).1,f3⟩
def Xu (D:1<=k)(y:k<=32){all rs N}(h:∀i,i<N->∃b u n lo hi,cS k w (aA b) u n lo hi (rs i)/\∀x∈rs i,x∈all):lk w all (allRows rs N):=by
 have f:∀{n:Nat}{i:Nat}{x:Nat×ByteArray},i<n->x∈rs i->x∈allRows rs n:=λ{n}=>by
  induction n with
  |zero=>intro i x hi;omega
  |succ n q=>intro i x hi a;by_cases e:i=n;{subst e;exact zAg.2 (aH a)};{exact zAg.2 (aG (q (by omega) a))}
 refine⟨λx a=> ?_,λb s z o i v r B A c e g=> ?_⟩
 .obtain⟨i,hi,a⟩:=gI a;obtain⟨_,_,_,_,_,_,C⟩:=h i hi;exact C x a
 .obtain⟨j,l,a⟩:=gI B;obtain⟨_,_,_,_,_,t,_⟩:=h j l;obtain⟨m,E⟩:=t.closed D y b s z o i v r a A c e g;exact⟨m,f l E⟩
def Na (m:1<=k)(g:k<=32)(h:cS k w p us d lo hi rows):lk w rows rows:=⟨λ_ h=>h,λb s z o i v f l j c e a=>h.closed m g b s z o i v f l j c e a⟩
end
def rT (k t:Nat)(D:zP)(us:List bS)(c:List PanicEntry)(w:zW):Prop:=
 ∃(q:zO)(d:List Nat)(cp:Nat)(all:List (Nat×ByteArray)),c=told (full #[iU t,jI q d.length cp])/\d.length<=32/\d.length<=cp/\all.length<=1000000/\pV w q (d.map aA)/\(∀a,q=aA a->∃e,w.heap[a.block]? =aA (aI e 264 (0,0)))/\∀b∈d,∃n,pW k w D us all n b
def rT.gl {k t D us c w}(h:rT k t D us c w)(i:rM k t D w)(d:∀u∈us,u.idx.length=32/\u.val.length<=100):lD c w:=by
 obtain⟨q,v,cp,all,e,r,p,n,m,l,j⟩:=h;obtain⟨bp,o,rows,hF,_⟩:=i.fork d n j r m λa g ⟨x,b⟩=>by obtain⟨s,f⟩:=l a g;rw[f]at b;cases b
 exact⟨v.length,q,bp,o,cp,t,D,_,rows,e,p,hF⟩
structure KG (all:List (Nat×ByteArray))(w w':zW):Prop where
 os:w'.os=w.os
 tape:w'.tape=w.tape
 output:w'.output=w.output
 size:w.heap.size<=w'.heap.size
 block:∀b,b<w.heap.size->(∀x∈all,x.1≠b)->w'.heap[b]? =w.heap[b]?
 cell:∀b z o i v g hs,aX w b z o i v g hs->∃g',aX w' b z o i v g' hs
 thaw:∀b,dZ w b->dZ w' b
section
variable {k t:Nat}{D:zP}{w w1 w':zW}{all L:List (Nat×ByteArray)}
def Mc {b z o i v g hs}(h:aX w b z o i v g hs)(x:Nat×ByteArray):∃a,aX (oK w x) b z o i v a hs:=by
 by_cases e:b=x.1
 .refine⟨x.2.data.toList,?_⟩;have:=LC h x.2;rw[show(b,x.2)=x by rw[e]]at this;exact this
 .exact⟨g,xE h e⟩
def FM {b:Nat}{z o:Option Nat}{i v:zB}{hs:Int}:∀(L:List (Nat×ByteArray)){w:zW}{g:zB},aX w b z o i v g hs->∃a,aX (Go.Ga.cY L w) b z o i v a hs
 |[],_,g,h=>⟨g,h⟩
 |x::L,_,_,h=>by obtain⟨a,c⟩:=Mc h x;exact FM L c
def Gg {b}(h:dZ w b)(x:Nat×ByteArray):dZ (oK w x) b:=by
 obtain⟨c,h⟩:=h;by_cases e:b=x.1
 .subst e;exact⟨_,eF h 4 _⟩
 .exact⟨c,by rw[qP e];exact h⟩
def BW {b:Nat}:∀(L:List (Nat×ByteArray)){w:zW},dZ w b->dZ (Go.Ga.cY L w) b
 |[],_,h=>h
 |x::L,_,h=>BW L (Gg h x)
def dZ.lt {b}(h:dZ w b):b<w.heap.size:=by obtain⟨c,h⟩:=h;exact(zAa.1 h).1
def KG.of (h:eI L w w')(l:∀x∈L,x∈all):KG all w w':=
 ⟨h.os,h.tape,h.output,h.size,λb a j=>(h.heap b a).trans (gU _ λx f=>j x (l x f)),λb z o i v g n e=>by
  obtain⟨m,fr,d⟩:=FM L e;exact⟨m,fr,by rw[h.heap b e.lt];exact d⟩,λb a=>by
  obtain⟨c,d⟩:=BW L a;exact⟨c,by rw[h.heap b a.lt];exact d⟩⟩
def KG.below {B:Nat}(a:Below B w w')(d:w.heap.size<=B):KG all w w':=
 ⟨a.os,a.tape,a.output,a.size,λb h _=>a.block b (zAc h d),λb z o i v g f e=>⟨g,⟨by rw[a.block b (zAc e.lt d)];exact e.at'⟩⟩,λb h=>by have hl:=h.lt;obtain⟨c,h⟩:=h;exact⟨c,by rw[a.block b (zAc hl d)];exact h⟩⟩
def KG.trans (h:KG all w w1)(a:KG all w1 w'):KG all w w':=
 ⟨a.os.trans h.os,a.tape.trans h.tape,a.output.trans h.output,zAw h.size a.size,λb c d=>(a.block b (zAc c h.size) d).trans (h.block b c d),λb z o i v g j e=>by obtain⟨l,f⟩:=h.cell _ _ _ _ _ _ _ e;exact a.cell _ _ _ _ _ _ _ f,λb c=>a.thaw b (h.thaw b c)⟩
def Wv (c:oF w t k){b z o i v g hs}(a:aX w b z o i v g hs):b≠t:=λe=>by subst e;have h:=c.wid;rw[a.c0]at h;cases z<;>cases h
def Kq (c:fF w){b z o i v g hs}(a:aX w b z o i v g hs):b≠0/\b≠2:=by
 constructor
 .rintro rfl;have h:=c.jK 0 _ (rfl:H0.cells.toList[0]? =aA _);rw[a.c0]at h;cases z<;>cases h
 .rintro rfl;have h:=c.mV.2 0 (by omega);rw[a.c0]at h;cases z<;>cases h
def oF.Uf (h:oF w t k)(c:KG all w w')(a:∀x∈all,∃z o i v g hs,aX w x.1 z o i v g hs):oF w' t k:=by
 have f:w'.heap[t]? =w.heap[t]? :=c.block t h.lt λx d e=>by obtain⟨z,o,i,v,g,hs,b⟩:=a x d;exact Wv h b e
 have b:∀i,w'.cell? ⟨t,i,aB⟩=w.cell? ⟨t,i,aB⟩:=λi=>by simp only[World.cell?];rw[f]
 exact⟨zAc h.lt c.size,(b 0).trans h.wid,(b 2).trans h.emp⟩
def fF.Uf (h:fF w)(b:KG all w w')(a:∀x∈all,∃z o i v g hs,aX w x.1 z o i v g hs):fF w':=by
 have n:w'.heap[0]? =w.heap[0]? :=b.block 0 h.lt λx c e=>by obtain⟨z,o,i,v,g,hs,d⟩:=a x c;exact(Kq h d).1 e
 have m:w'.heap[2]? =w.heap[2]? :=b.block 2 h.mV.1 λx c e=>by obtain⟨z,o,i,v,g,hs,d⟩:=a x c;exact(Kq h d).2 e
 refine⟨⟨zAc h.mV.1 b.size,λj l=> ?_⟩,zAc h.lt b.size,λj v f=> ?_⟩
 .rw[show w'.cell? ⟨2,j,aB⟩=w.cell? ⟨2,j,aB⟩ by simp only[World.cell?];rw[m]];exact h.mV.2 j l
 .rw[show w'.cell? ⟨0,0+j,aB⟩=w.cell? ⟨0,0+j,aB⟩ by simp only[World.cell?];rw[n]];exact h.jK j v f
def QR {top us lo hi}(N:rM k t D w)(hr:cS k w top us 0 lo hi all)(hp:∀b,top=aA b->D b)(hu:∀u∈us,u.idx.length=32/\u.val.length<=100)(M:all.length<=1000000):
  Calls zq 224 #[aN (aA ⟨t,0,aB⟩),ptr top] w λe w'=>(e=aL (.tuple #[])/\eL k w' top us 0/\KG all w w')\/∃c,e= .panicked c/\rT k t D us c w'/\zb w w':=by
 have j:=N.k1;have f:=N.k2;have HP:Hid (Calls zq 234 #[ptr top] w λe w1=>∃(q:zO)(cp:Nat)(s:List Nat),e=aL (aJ q s.length cp)/\s.length<=cp/\pV w1 q (s.map aA)/\(∀a,q=aA a->∃y,w1.heap[a.block]? =aA (aI y 264 (0,0)))/\(∀b∈s,∃n,pW k w1 D us all n b)/\s.length<=32/\zb w w1):=by obtain⟨f1,f2⟩:=Mg hr hp;refine(YN (Xs N.down j f us all) f1 f2).mono ?_;rintro e w1 ⟨v',s,rfl,o1,p1,l1,O⟩;obtain⟨q,cp,rfl,S,g2,g3⟩:=o1.OH;rw[zDj]at S⊢;refine⟨q,cp,s,rfl,S,g2,λa I=>(g3 a I).2.2,λb W=> ?_,l1,O⟩;obtain⟨n,p⟩:=p1 b W;have m:∀b z o i v g d,aX w b z o i v g d->aX w1 b z o i v g d:=λb z o i v g d h=>⟨by rw[O.block b h.lt];exact h.at'⟩;obtain⟨B,C,F,r,t1,t2,t3,t4⟩:=p.tree;obtain⟨z,o,i,v,d,hn⟩:=p.new;exact⟨n,p.deep,p.Tq,⟨z,o,i,v,d,m _ _ _ _ _ _ _ hn⟩,B,C,F,r,t1.keep j f (λb z o i v g d h=>⟨d,m _ _ _ _ _ _ _ h⟩),t2,t3,t4⟩
 have HW:Hid (∀(w1:zW)(q:zO)(cp:Nat)(s:List Nat),s.length<=cp->pV w1 q (s.map aA)->(∀a,q=aA a->∃y,w1.heap[a.block]? =aA (aI y 264 (0,0)))->(∀b∈s,∃n,pW k w1 D us all n b)->s.length<=32->zb w w1->
   Calls zq 233 #[aN (aA ⟨t,0,aB⟩),aJ q s.length cp] w1 λe w2=>(e=aL (.tuple #[])/\KG all w w2/\∃cO,cS k w2 top us 0 lo hi cO/\(∀x∈cO,x∈all)/\cO.length<=all.length)\/∃c,e= .panicked c/\rT k t D us c w2/\zb w w2):=λw1 q cp s h1 h2 Z Y X O=>by
  have hD1:=N.below O (zAb _)
  have hr1:cS k w1 top us 0 lo hi all:=hr.keep j f λb z o i v g d h=>⟨d,⟨by rw[O.block b h.lt];exact h.at'⟩⟩
  obtain⟨bp,o,rows,hF,P⟩:=hD1.fork hu M Y X h2 λa I ⟨x,G⟩=>by obtain⟨y,h⟩:=Z a I;rw[h]at G;cases G
  refine(Gl hF h1).mono ?_
  rintro e w2 (⟨rfl,U⟩|⟨rfl,hm,ZU⟩)
  .left;have J:lk w1 all (allRows rows s.length):=Xu j f λi hi=>by
    obtain⟨b,B,n,C,F,_,S,g2,_⟩:=P i hi;exact⟨b,B,n,C,F,S,g2⟩
   exact⟨rfl,(KG.below O (zAb _)).trans (.of U J.sub),(hr1.wrote j f J U).1⟩
  .right;refine⟨_,rfl,⟨q,s,cp,all,rfl,X,h1,M,?_,λa I=> ?_,λb W=> ?_⟩,O.trans (ZU.mono O.size)⟩
   .exact h2.kept hm.size λa I=>hm.old _ (by obtain⟨y,h⟩:=Z a I;exact(zAa.1 h).1)
   .obtain⟨y,h⟩:=Z a I;exact⟨y,by rw[hm.old _ (zAa.1 h).1];exact h⟩
   .obtain⟨n,p⟩:=Y b W;have m:∀b z o i v g d,aX w1 b z o i v g d->aX w2 b z o i v g d:=λb z o i v g d h=>⟨by rw[hm.old b h.lt];exact h.at'⟩;obtain⟨B,C,F,r,t1,t2,t3,t4⟩:=p.tree;obtain⟨z,o,i,v,d,hn⟩:=p.new;exact⟨n,p.deep,p.Tq,⟨z,o,i,v,d,m _ _ _ _ _ _ _ hn⟩,B,C,F,r,t1.keep j f (λb z o i v g d h=>⟨d,m _ _ _ _ _ _ _ h⟩),t2,t3,t4⟩
 have E:=hr.each.1;have A:∀x∈all,∃z o i v g d,aX w x.1 z o i v g d:=λx G=>by obtain⟨_,_,z,o,i,v,d,h⟩:=E x G;exact⟨z,o,i,v,[],d,h⟩
 have HK:Hid (∀(w2:zW)(cO:List (Nat×ByteArray)),KG all w w2->cS k w2 top us 0 lo hi cO->(∀x∈cO,x∈all)->cO.length<=all.length->
   Calls zq 236 #[aN (aA ⟨t,0,aB⟩),ptr top] w2 λe w3=>∃q l cp,e=aL (aJ q l cp)/\Calls zq 235 #[aJ q l cp] w3 λe' w4=>e'=aL (.tuple #[])/\eL k w4 top us 0/\KG all w w4):=λw2 cO K V H hlen=>by
  refine(QQ j f (N.BL.Uf K A) (N.iM.Uf K A) V hu (by omega)).mono ?_
  rintro e w3 ⟨q,l,cp,rfl,S,g2,g3,b3⟩
  refine⟨q,l,cp,rfl,?_⟩
  have Q:cS k w3 top us 0 lo hi cO:=V.keep j f λb z o i v g d h=>⟨d,⟨by rw[b3.block b h.lt];exact h.at'⟩⟩
  refine(IA cO q l cp w3 g2 S (by omega) (λx G=> ?_) (λa I x G e=> ?_)).mono ?_
  .obtain⟨_,_,z,o,i,v,d,h⟩:=E x (H x G);have hDx:=hr.Tq N.down hp x (H x G);have ht:=N.thaw _ _ _ _ _ _ _ hDx h;have xc:=(K.trans (KG.below b3 (zAb _))).thaw _ ht;obtain⟨c,Y⟩:=xc;refine⟨c,Y,?_⟩;obtain⟨g',fr,X⟩:=(K.trans (KG.below b3 (zAb _))).cell _ _ _ _ _ _ _ h;rw[Y]at X;cases X;rfl
  .obtain⟨_,_,z,o,i,v,d,h⟩:=E x (H x G);have h6:=g3 a I;have h7:=h.lt;have h8:=K.size;omega
  .rintro e w4 ⟨rfl,T⟩;refine⟨rfl,(Q.wrote j f (Na j f Q) T).2 λb W ⟨z,o,i,v,d,h⟩=>Q.root j f W h,(K.trans (KG.below b3 (zAb _))).trans (.of T H)⟩
 have htp:∃pp,pp=ptr top:=⟨_,rfl⟩;obtain⟨pp,R⟩:=htp;rw[<-R]at HP⊢;simp only[<-R]at HK;clear R;go_enter (Qz.fn func224),ntmps224;go_wp2_with fail;refine HP.out.mono ?_;rintro e w1 ⟨q,cp,s,rfl,a1,a2,a3,a4,a5,a6⟩;have HW1:=HW.out w1 q cp s a1 a2 a3 a4 a5 a6;have HW2:=hid HW1;go_wp2_with fail;refine HW2.out.mono ?_;rintro e w2 (⟨rfl,K,cO,c1,c2,c3⟩|⟨c,rfl,c1,c2⟩)
 .have HK2:=HK.out w2 cO K c1 c2 c3;have HK3:=hid HK2;go_wp2_with fail;refine HK3.out.mono ?_;rintro e w3 ⟨q3,l3,cp3,rfl,Z⟩;have H3:=hid Z;go_wp2_with fail;refine H3.out.mono ?_;rintro e w4 ⟨rfl,d1,d2⟩;have D1:=hid d1;have D2:=hid d2;go_wp2;go_end0;exact aG ⟨rfl,D1.out,D2.out⟩
 .exact⟨rfl,aH ⟨c,rfl,c1,c2⟩⟩
end
def Qz.ntmps219:Qz.f219.ntmps=37:=rfl
def dJ (w:zW)(t:Nat)(x0 x1 x2 x3 x4:zY)(c:Int):Prop:=w.heap[t]? =aA (aI #[x0,x1,x2,x3,x4,aC aD c] 168 (0,0))
structure Hl (t:Nat)(w w':zW):Prop where
 os:w'.os=w.os
 tape:w'.tape=w.tape
 output:w'.output=w.output
 size:w.heap.size<=w'.heap.size
 block:∀b,b<w.heap.size->b≠t->(∀z o i v g hs,¬aX w b z o i v g hs)->w'.heap[b]? =w.heap[b]?
 cell:∀b z o i v g hs,aX w b z o i v g hs->∃hs',aX w' b z o i v g hs'
 thaw:∀b,dZ w b->dZ w' b
section
variable {w w1 w':zW}{t b:Nat}{x0 x1 x2 x3 x4:zY}{c:Int}{z o:Option Nat}{i v g:zB}{hs:Int}
def dJ.lt (h:dJ w t x0 x1 x2 x3 x4 c):t<w.heap.size:=(zAa.1 h).1
def dJ.ne (h:dJ w t x0 x1 x2 x3 x4 c)(a:aX w b z o i v g hs):b≠t:=λe=>by subst e;obtain⟨fr,a⟩:=a.at';unfold dJ at h;rw[a]at h;cases h
def dJ.below (h:dJ w t x0 x1 x2 x3 x4 c){B}(a:Below B w w')(d:w.heap.size<=B):dJ w' t x0 x1 x2 x3 x4 c:=(a.block t (zAc h.lt d)).trans h
def Hl.refl:Hl t w w:=⟨rfl,rfl,rfl,zAb _,λ_ _ _ _=>rfl,λ_ _ _ _ _ _ hs h=>⟨hs,h⟩,λ_ h=>h⟩
def Hl.trans (h:Hl t w w1)(a:Hl t w1 w'):Hl t w w':=
 ⟨a.os.trans h.os,a.tape.trans h.tape,a.output.trans h.output,zAw h.size a.size,λb f j k=>by
  have e:=h.block b f j k;exact(a.block b (zAc f h.size) j λz o i v g hs d=>k z o i v g hs ⟨by rw[<-e];exact d.at'⟩).trans e,λb z o i v g hs d=>by
  obtain⟨l,d⟩:=h.cell _ _ _ _ _ _ _ d;exact a.cell _ _ _ _ _ _ _ d,λb f=>a.thaw b (h.thaw b f)⟩
def Hl.below {B:Nat}(a:Below B w w')(d:w.heap.size<=B):Hl t w w':=
 ⟨a.os,a.tape,a.output,a.size,λb h _ _=>a.block b (zAc h d),λb z o i v g hs e=>⟨hs,⟨by rw[a.block b (zAc e.lt d)];exact e.at'⟩⟩,λb h=>by have hl:=h.lt;obtain⟨c,h⟩:=h;exact⟨c,by rw[a.block b (zAc hl d)];exact h⟩⟩
def Hl.hold (l:aX w b z o i v g hs)(m):Hl t w (w.setCell ⟨b,5,aB⟩ (aC aD m)):=by
 refine⟨rfl,rfl,rfl,by simp[World.setCell],λd _ _ k=>zGh _ _ _ _ λe=>k z o i v g hs ((show d=b from e)▸l),λd n q r p s f a=> ?_,λd j=> ?_⟩
 .by_cases e:d=b
  .subst e;obtain⟨fr,a⟩:=a.at';exact⟨m,fr,by rw[eF a 5];rfl⟩
  .exact⟨f,⟨by rw[zGh _ _ _ _ e];exact a.at'⟩⟩
 .obtain⟨cs,h⟩:=j;by_cases e:d=b
  .subst e;exact⟨_,eF h 5 _⟩
  .exact⟨cs,by rw[zGh _ _ _ _ e];exact h⟩
def Hl.count (h:dJ w t x0 x1 x2 x3 x4 c)(m):Hl t w (w.setCell ⟨t,5,aB⟩ (aC aD m))/\dJ (w.setCell ⟨t,5,aB⟩ (aC aD m)) t x0 x1 x2 x3 x4 m:=by
 refine⟨⟨rfl,rfl,rfl,by simp[World.setCell],λj _ l _=>zGh _ _ _ _ l,λj n q r p s d a=>⟨d,⟨by rw[zGh _ _ _ _ (h.ne a)];exact a.at'⟩⟩,λj f=> ?_⟩,?_⟩
 .obtain⟨cs,k⟩:=f;have e:j≠t:=λe=>by
   subst e;unfold dJ at h;rw[k]at h;cases h
  exact⟨cs,by rw[zGh _ _ _ _ e];exact k⟩
 .unfold dJ at h⊢;rw[eF h 5];rfl
def dJ.hold (h:dJ w t x0 x1 x2 x3 x4 c)(a:aX w b z o i v g hs)(m):dJ (w.setCell ⟨b,5,aB⟩ (aC aD m)) t x0 x1 x2 x3 x4 c:=(zGh _ _ _ _ (h.ne a).symm).trans h
def dJ.c5 (h:dJ w t x0 x1 x2 x3 x4 c):w.cell? ⟨t,5,aB⟩=aA (aC aD c):=(aZ h 5).trans rfl
def dJ.f5 (h:dJ w t x0 x1 x2 x3 x4 c):w.frozen? ⟨t,5,aB⟩=aF:=cW h 5
def Lets (t:Nat)(w0:zW)(n:Nat)(p:Option Nat):Prop:=
 ∀W x0 x1 x2 x3 x4 c,Hl t w0 W->dJ W t x0 x1 x2 x3 x4 c->-4611686018427387904<=c-n->c<=4611686018427387904->Calls zq 219 #[aN (aA ⟨t,0,aB⟩),ptr p] W λe w'=>e=aL (.tuple #[])/\Hl t W w'/\∃c',dJ w' t x0 x1 x2 x3 x4 c'/\c-n<=c'/\c'<=c
def Qg (t:Nat)(w0:zW)(n:Nat)(p:Option Nat):Prop:=
 ∀W x0 x1 x2 x3 x4 c,Hl t w0 W->dJ W t x0 x1 x2 x3 x4 c->-4611686018427387904<=c-n->c<=4611686018427387904->(Calls zq 219 #[aN (aA ⟨t,0,aB⟩),ptr p] W λe w'=>e=aL (.tuple #[])/\Hl t W w'/\∃c',dJ w' t x0 x1 x2 x3 x4 c'/\c-n<=c'/\c'<=c)/\
  ∀u,CallsD zq 219 #[aN (aA ⟨t,0,aB⟩),ptr p] u W λe a w'=>a=u/\(e=aL (.tuple #[])/\Hl t W w'/\∃c',dJ w' t x0 x1 x2 x3 x4 c'/\c-n<=c'/\c'<=c)
def Dr {args:zA}{w:zW}{R:Ending->zW->Prop}(h:Qz.PO.wp zq (bodyPost zq Qz.f219 R) {tmps:=args++Array.replicate (Qz.f219.ntmps-args.size) undef,defers:=[]} w):Calls zq 219 args w R/\∀u,CallsD zq 219 args u w λe a w'=>a=u/\R e w':=⟨calls_of_wp Qz.func219 rfl h,λu=>callsD_of_wp Qz.func219 rfl h⟩
def uG (w)(x):zb w (w.alloc (aI #[.bool x] 4)).drew:=((zGe _ w).alloc (zAb _) _).drew
def ZH (w0:zW):Qg t w0 0 aB:=by
 intro W x0 x1 x2 x3 x4 c _ h _ _;have H:Hid (∀x:Bool,Hl t W (W.alloc (aI #[.bool x] 4)).drew/\∃c',dJ (W.alloc (aI #[.bool x] 4)).drew t x0 x1 x2 x3 x4 c'/\c-(0:Nat)<=c'/\c'<=c):=λx=>⟨Hl.below (uG W x) (zAb _),c,h.below (uG W x) (zAb _),by omega,by omega⟩;clear h;refine Dr ?_;simp only[Qz.ntmps219,zAr,zAh,zBb,Nat.reduceAdd,Nat.reduceSub,zEo,Array.replicate_zero,zEc,List.append_toArray,zCn,zCe];unfold Qz.PO oh jw Xv jv Rf od Re oc og de dh db cz;simp only[f219,zCj];go_upto_region 91 with(fail)
 go_region;all_goals go_wp2
 all_goals((try simp only[Exit.inBlock,Exit.then]);refine zGs (Go.results_none rfl _ _ _) rfl ?_)
 all_goals exact⟨rfl,H.out _⟩
def ZG {w0:zW}{L no:Nat}(u:aX w0 b z o i v g hs)(s:dZ w0 b)(T:Lets t w0 L z)(U:Lets t w0 no o):Qg t w0 (1+L+no) (aA b):=by
 intro W x0 x1 x2 x3 x4 c X V kv rf;have K:Hid (∀x:Bool,Hl t W (W.alloc (aI #[.bool x] 4)).drew/\dJ (W.alloc (aI #[.bool x] 4)).drew t x0 x1 x2 x3 x4 c):=λx=>⟨Hl.below (uG W x) (zAb _),V.below (uG W x) (zAb _)⟩;have n:Hid (Hl t w0 W):=X;have J:Hid (aX w0 b z o i v g hs):=u;have HT:Hid (dZ w0 b):=s;have HZ:Hid (Lets t w0 L z):=T;have HO:Hid (Lets t w0 no o):=U;clear V X u s T U;refine Dr ?_;simp only[Qz.ntmps219,zAr,zAh,zBb,Nat.reduceAdd,Nat.reduceSub,zEo,Array.replicate_zero,zEc,List.append_toArray,zCn,zCe];unfold Qz.PO oh jw Xv jv Rf od Re oc og de dh db cz;simp only[f219,zCj];go_upto_region 91 with(fail)
 go_region
 .go_wp2;(try simp only[Exit.inBlock,Exit.then]);refine zGs (Go.results_none rfl _ _ _) rfl ?_;exact⟨rfl,(K.out _).1,c,(K.out _).2,by omega,by omega⟩
 .have M:=K.out aE;generalize(W.alloc (Obj.cells #[Value.bool aE] 4)).drew=I at*;clear K;obtain⟨d,B⟩:=M;obtain⟨a,l⟩:=(n.out.trans d).cell _ _ _ _ _ _ _ J.out;have E:=(n.out.trans d).thaw _ HT.out;have Y:=l.c5;have f5:=E.f 5;have m:Hid (dJ I t x0 x1 x2 x3 x4 c):=B;have r:Hid (Hl t W I):=d;have H:Hid (aX I b z o i v g a):=l;clear d B l E;go_upto_region 3 with(fail)
  .refine zGs (Go.results_none rfl _ _ _) rfl ?_;exact⟨rfl,r.out.trans (Hl.hold H.out _),c,m.out.hold H.out _,by omega,by omega⟩
  .have j:=r.out.trans (Hl.hold H.out (wrap64 (a-1)));have h:=m.out.hold H.out (wrap64 (a-1));generalize(I.setCell ⟨b,5,aB⟩ (Value.int IntKind.i64 (wrap64 (a-1))))=Q at*;obtain⟨xg,k⟩:=(n.out.trans j).cell _ _ _ _ _ _ _ J.out;have c5:=h.c5;have e5:=h.f5;have c0:=k.c0;have n0:=h.ne k;have hw:wrap64 (c-1)=c-1:=by{unfold wrap64;omega};obtain⟨D,A⟩:=Hl.count h (c-1);have q:Hid (Hl t W (Q.setCell ⟨t,5,aB⟩ (aC aD (c-1)))):=j.trans D;have S:Hid (dJ (Q.setCell ⟨t,5,aB⟩ (aC aD (c-1))) t x0 x1 x2 x3 x4 (c-1)):=A;clear j h D A k Y f5 r H m;go_upto_region 4 with(fail)
   generalize(Q.setCell ⟨t,5,aB⟩ (Value.int IntKind.i64 (c-1)))=W3 at*;obtain⟨hs3,G⟩:=(n.out.trans q.out).cell _ _ _ _ _ _ _ J.out;have d0:=G.c0;clear G;go_wp2_with fail;refine(HZ.out W3 x0 x1 x2 x3 x4 (c-1) (n.out.trans q.out) S.out (by omega) (by omega)).mono ?_;rintro e w4 ⟨rfl,C,c4,y,l1,l2⟩;have p:Hid (Hl t W w4):=q.out.trans C;have R:Hid (dJ w4 t x0 x1 x2 x3 x4 c4):=y;obtain⟨Z,F⟩:=(n.out.trans p.out).cell _ _ _ _ _ _ _ J.out;have d1:=F.c1;clear F C y;go_wp2_with fail;refine(HO.out w4 x0 x1 x2 x3 x4 c4 (n.out.trans p.out) R.out (by omega) (by omega)).mono ?_;rintro e w5 ⟨rfl,O,P,N,l3,l4⟩;go_wp2;go_end0;exact⟨rfl,p.out.trans O,P,N,by omega,by omega⟩
inductive CN (w:zW):Nat->Option Nat->Prop
 |nil:CN w 0 aB
 |mk {b nz no:Nat} {z o:Option Nat} {i v g:zB} {hs:Int} (h:aX w b z o i v g hs) (ht:dZ w b) (hz:CN w nz z) (ho:CN w no o):CN w (1+nz+no) (aA b)
def LZ {w0:zW}{n:Nat}{p:Option Nat}(h:CN w0 n p):Qg t w0 n p:=by
 induction h with
 |nil=>exact ZH _
 |mk h k _ _ j f=>exact ZG h k (λW x0 x1 x2 x3 x4 c a b d e=>(j W x0 x1 x2 x3 x4 c a b d e).1) λW x0 x1 x2 x3 x4 c a b d e=>(f W x0 x1 x2 x3 x4 c a b d e).1
end
def Bq {w w'}(h:Below w.drew.heap.size w.drew w'):zb w w':=⟨h.os,h.tape,h.output,h.size,h.block⟩
abbrev Rp (u:bS):zY:= .agg #[aK ⟨u.idx.toArray⟩,aK ⟨u.val.toArray⟩,.bool u.gone]
structure IS (w w':zW)(b:Nat)(z o:Option Nat)(i v:zB):Prop where
 lo:w.heap.size<=b
 cell:∃hs,aX w' b z o i v [] hs
 thaw:dZ w' b
section
variable {w w1 w':zW}{t b:Nat}{x0 x1 x2 x3 x4:zY}{c:Int}{z o:Option Nat}{i v g:zB}{hs:Int}
def LO (w:zW)(z o:Option Nat)(i v:zB)(h:w1.heap.size<=w.heap.size):IS w1 (w.alloc (aI (mH z o i v [] 0) 272)) w.heap.size z o i v:=
 ⟨h,⟨0,⟨_,zGn w _⟩⟩,⟨_,zGn w _⟩⟩
def Hm (u)(U:u.idx.length<=1000)(T:u.val.length<=1000)(I:dJ w t x0 x1 x2 x3 x4 c)(S: -4611686018427387904<=c)(R:c<=4611686018427387904):
  Calls zq 229 #[aN (aA ⟨t,0,aB⟩),Rp u] w λe w'=>∃b,e=aL (ptr (aA b))/\IS w w' b aB aB u.idx u.val/\Hl t w w'/\dJ w' t x0 x1 x2 x3 x4 (c+1)/\b<w'.heap.size:=by
 obtain⟨d,a,r⟩:=u;dsimp only at*;have C:(⟨d.toArray⟩:ByteArray).size<=1000:=U;have B:(⟨a.toArray⟩:ByteArray).size<=1000:=T;have K:=hid I;have Y:wrap64 (c+1)=c+1:=by unfold wrap64;omega
 have bW:=I.lt;go_enter (Qz.fn func229),ntmps229;go_upto_region 1 with(fail)
 have n:zb w (w.alloc (aI #[aK ⟨d.toArray⟩,aK ⟨a.toArray⟩,.bool r] 53)):=(zGe _ w).alloc (zAb _) _;have f:=K.out.below n (zAb _);have x:(w.alloc (aI #[aK ⟨d.toArray⟩,aK ⟨a.toArray⟩,.bool r] 53)).heap[w.heap.size]? =aA (aI #[aK ⟨d.toArray⟩,aK ⟨a.toArray⟩,.bool r] 53 (0,0)):=zGn w _;generalize(w.alloc (aI #[aK ⟨d.toArray⟩,aK ⟨a.toArray⟩,.bool r] 53))=G at*;have c5:=f.c5;have V:=f.f5;obtain⟨A,y⟩:=Hl.count f (c+1);have h:(G.setCell ⟨t,5,aB⟩ (aC aD (c+1))).heap[w.heap.size]? =aA (aI #[aK ⟨d.toArray⟩,aK ⟨a.toArray⟩,.bool r] 53 (0,0)):=(zGh _ _ _ _ (by show w.heap.size≠t;omega)).trans x;have L:=hid ((Hl.below n (zAb _)).trans A);have H:=hid y;clear n f x A y K;go_upto_region 2 with(fail)
 clear c5 V;generalize(G.setCell ⟨t,5,aB⟩ (Value.int IntKind.i64 (c+1)))=p at*;have s:=(zAa.1 h).1;have D:Hid (∀W,zb p W->W.cell? ⟨w.heap.size,0,aB⟩=aA (aK ⟨d.toArray⟩)/\W.cell? ⟨w.heap.size,1,aB⟩=aA (aK ⟨a.toArray⟩)):=λW q=>⟨(aZ ((q.block _ s).trans h) 0).trans rfl,(aZ ((q.block _ s).trans h) 1).trans rfl⟩;obtain⟨q0,X⟩:=D.out p (zGe _ _);have M:Hid (∀W,zb p W->IS w (W.alloc (aI (mH aB aB d a [] 0) 272)) W.heap.size aB aB d a/\Hl t w (W.alloc (aI (mH aB aB d a [] 0) 272))/\dJ (W.alloc (aI (mH aB aB d a [] 0) 272)) t x0 x1 x2 x3 x4 (c+1)/\W.heap.size<(W.alloc (aI (mH aB aB d a [] 0) 272)).heap.size):=λW q=>by have J:zb p (W.alloc (aI (mH aB aB d a [] 0) 272)):=q.alloc q.size _;have:=q.size;exact⟨LO W _ _ _ _ (by omega),L.out.trans (Hl.below J (zAb _)),H.out.below J (zAb _),by rw[size_alloc];omega⟩
 clear h L H;go_region_with (first
  |(go_at_call_of 85 (Value.string {data:=d.toArray});refine(AV _ _ C).mono ?_;rintro e F ⟨rfl,m⟩;
    have k:Hid (zb p F):=by first|exact Bq m|exact(bE j.out m j.out.size).out;
    obtain⟨Q,P⟩:=D.out F k.out;clear m;dsimp only)
  |(go_at_call_of 85 (Value.string {data:=a.toArray});refine(AV _ _ B).mono ?_;rintro e E ⟨rfl,l⟩;
    have j:Hid (zb p E):=by first|exact Bq l|exact(bE k.out l k.out.size).out;
    obtain⟨O,N⟩:=D.out E j.out;clear l;dsimp only))
 all_goals go_wp2
 all_goals go_ret
 all_goals first|exact⟨_,rfl,M.out _ j.out⟩|exact⟨_,rfl,M.out _ k.out⟩
def xW {p}(k:∀b,p=aA b->(∃z o i v g hs,aX w b z o i v g hs)/\dZ w b)(f:dJ w t x0 x1 x2 x3 x4 c):Calls zq 222 #[ptr p] w λe w'=>e=aL (ptr p)/\Hl t w w'/\dJ w' t x0 x1 x2 x3 x4 c/\w'.heap.size=w.heap.size:=by
 cases p with
 |none=>exact(Hy w).mono λe w' ⟨d,a⟩=>by subst a;exact⟨d,.refl,f,rfl⟩
 |some b=>obtain⟨⟨z,o,i,v,g,hs,h⟩,j⟩:=k b rfl;refine(Hx h j).mono λe w' ⟨d,m,a⟩=> ?_;subst a;exact⟨d,Hl.hold h m,f.hold h m,by simp[World.setCell]⟩
def Gy (C:∀b,z=aA b->(∃z o i v g hs,aX w b z o i v g hs)/\dZ w b)(F:∀b,o=aA b->(∃z o i v g hs,aX w b z o i v g hs)/\dZ w b)(q:dJ w t x0 x1 x2 x3 x4 c)(I: -4611686018427387904<=c)(G:c<=4611686018427387904):
  Calls zq 239 #[aN (aA ⟨t,0,aB⟩),ptr z,ptr o] w λe w'=>∃b,e=aL (ptr (aA b))/\IS w w' b z o [] []/\Hl t w w'/\dJ w' t x0 x1 x2 x3 x4 (c+1)/\b<w'.heap.size:=by
 have stay:∀{W j:zW}{p:Option Nat},Hl t W j->(∀b,p=aA b->(∃z o i v g hs,aX W b z o i v g hs)/\dZ W b)->∀b,p=aA b->(∃z o i v g hs,aX j b z o i v g hs)/\dZ j b:=λ{W j p} A h b e=>by obtain⟨⟨z,o,i,v,g,hs,J⟩,D⟩:=h b e;obtain⟨E,k⟩:=A.cell _ _ _ _ _ _ _ J;exact⟨⟨_,_,_,_,_,_,k⟩,A.thaw _ D⟩
 have O:wrap64 (c+1)=c+1:=by unfold wrap64;omega
 obtain⟨d,n⟩:=Hl.count q (c+1);have c5:=q.c5;have P:=q.f5;have L:Hid (Calls zq 222 #[ptr z] (w.setCell ⟨t,5,aB⟩ (aC aD (c+1))) λe w'=>e=aL (ptr z)/\Hl t w w'/\dJ w' t x0 x1 x2 x3 x4 (c+1)):=(xW (stay d C) n).mono λe w' ⟨a,f,K,_⟩=>⟨a,d.trans f,K⟩;have M:Hid (∀W,Hl t w W->dJ W t x0 x1 x2 x3 x4 (c+1)->Calls zq 222 #[ptr o] W λe w'=>e=aL (ptr o)/\Hl t w w'/\dJ w' t x0 x1 x2 x3 x4 (c+1)):=λW a f=>(xW (stay a F) f).mono λe w' ⟨g1,g2,g3,_⟩=>⟨g1,a.trans g2,g3⟩;have N:Hid (∀W,Hl t w W->dJ W t x0 x1 x2 x3 x4 (c+1)->IS w (W.alloc (aI (mH z o [] [] [] 0) 272)) W.heap.size z o [] []/\Hl t w (W.alloc (aI (mH z o [] [] [] 0) 272))/\dJ (W.alloc (aI (mH z o [] [] [] 0) 272)) t x0 x1 x2 x3 x4 (c+1)/\W.heap.size<(W.alloc (aI (mH z o [] [] [] 0) 272)).heap.size):=λW a f=>by have B:zb W (W.alloc (aI (mH z o [] [] [] 0) 272)):=(zGe _ W).alloc (zAb _) _;exact⟨LO W _ _ _ _ a.size,a.trans (Hl.below B (zAb _)),f.below B (zAb _),by rw[size_alloc];omega⟩
 cases z<;>cases o;all_goals
  go_enter (Qz.fn func239),ntmps239
  go_wp2_with fail
  refine L.out.mono ?_
  rintro e w2 ⟨rfl,s,m⟩
  have y:=hid s
  have u:=hid m
  go_wp2_with fail
  refine(M.out w2 y.out u.out).mono ?_
  rintro e w3 ⟨rfl,r,l⟩
  have x:=hid r
  have H:=hid l
  go_wp2
  go_ret
  exact⟨_,rfl,N.out w3 x.out H.out⟩
end
def CS (w:zW)(S:zP):Prop:=∀b,S b->∃z o i v g hs,aX w b z o i v g hs/\dZ w b/\∀c,z=aA c\/o=aA c->S c
section
variable {w w1 w':zW}{t b k d lo m hi:Nat}{x0 x1 x2 x3 x4:zY}{c:Int}{z o p:Option Nat}{i v g:zB}{hs:Int}{S:zP}{us:List bS}{rows rz ro:List (Nat×ByteArray)}
def CS.hl (h:CS w S)(f:Hl t w w'):CS w' S:=λb j=>by obtain⟨z,o,i,v,g,hs,q,n,l⟩:=h b j;obtain⟨a,e⟩:=f.cell _ _ _ _ _ _ _ q;exact⟨z,o,i,v,g,a,e,f.thaw _ n,l⟩
def CS.add (h:CS w' S)(f:IS w w' b z o i v)(j:∀c,z=aA c->S c)(l:∀c,o=aA c->S c):CS w' λx=>S x\/x=b:=λx a=>by
 obtain a|rfl:=a
 .obtain⟨z,o,i,v,g,hs,s,r,q⟩:=h x a;exact⟨z,o,i,v,g,hs,s,r,λc e=>aG (q c e)⟩
 .obtain⟨hs,n⟩:=f.cell;exact⟨z,o,i,v,[],hs,n,f.thaw,λc e=>aG (e.elim (j c) (l c))⟩
def CS.cells (h:CS w S)(a:∀b,p=aA b->S b):∀b,p=aA b->(∃z o i v g hs,aX w b z o i v g hs)/\dZ w b:=λb e=>by obtain⟨z,o,i,v,g,hs,j,f,_⟩:=h b (a b e);exact⟨⟨_,_,_,_,_,_,j⟩,f⟩
def eL.up (h:eL k w p us (d+1))(hl:us.length<=1):eL k w p us d:=by
 cases h with
 |nil=>exact .nil d
 |leaf h=>exact .leaf (by rw[ID k d (d+1)];exact h)
 |node a=>omega
def cS.up (h:cS k w p us (d+1) lo hi rows)(hl:us.length<=1):cS k w p us d lo hi rows:=by
 cases h with
 |done h a=>exact .done (h.up hl) a
 | @leaf b u _ _ _ _ f e h=>rw[ID k (d+1) d];exact .leaf f e h
 |node e=>omega
def eL.hl (j:1<=k)(a:k<=32)(h:eL k w p us d)(f:Hl t w w'):eL k w' p us d:=h.keep j a λb z o i v g hs _ e=>f.cell _ _ _ _ _ _ _ e
def cS.hl (j:1<=k)(a:k<=32)(h:cS k w p us d lo hi rows)(f:Hl t w w'):cS k w' p us d lo hi rows:=h.keep j a λb z o i v g hs e=>f.cell _ _ _ _ _ _ _ e
def cS.ends (h:cS k w p us d lo hi rows):Calls zq 225 #[ptr p] w λe w'=>e=aL (.bool (decide (us.length<=1)))/\w'=w:=by
 have a:∀{b:Nat}{z o:Option Nat}{i v g:zB}{hs:Int}{us:List bS}{r1 r2:List (Nat×ByteArray)}{n a2 a3 a4:Nat},2<=us.length->aX w b z o i v g hs->cS k w z (bK d 0 us) (d+1) n a2 r1->cS k w o (bK d 1 us) (d+1) a3 a4 r2->Calls zq 225 #[ptr (aA b)] w λe w'=>e=aL (.bool (decide (us.length<=1)))/\w'=w:=λ{b z o i v g hs us r1 r2 n a2 a3 a4} l s f j=>by
  have hl:=oE us d;refine(yE s).mono λe w' h=>⟨?_,h.2⟩;rw[h.1,zBs (by omega)];have r:=f.iH;have q:=j.iH;cases z with
  |some _=>rfl
  |none=>
   cases o with
   |some _=>rfl
   |none=>rw[r.1 rfl,q.1 rfl]at hl;simp at hl;omega
 cases h with
 |done h hl=>
  cases h with
  |nil=>exact MH w
  |leaf h=>exact yE h
  |node l _ h f j=>exact a l h (.done f (zAb 0)) (.done j (zAb 0))
 |leaf _ _ h=>exact yE h
 |node l _ h f j=>exact a l h f j
def VY {a}(h:bK d (1-a) us=[])(j:a<=1):bK d a us=us:=by
 refine zFi.2 λu f=> ?_;have:=zFm.1 h u f;obtain e|e:=jQ u.idx d
 .rw[e]at this⊢;have:a=0:=by
   obtain h|h:=zDf 0 a;{exfalso;exact this (by rw[show 1-a=0 by omega];rfl)};{omega}
  rw[this];rfl
 .rw[e]at this⊢;have:a=1:=by
   obtain h|h:=zDf a 1;{exfalso;exact this (by rw[show 1-a=1 by omega];rfl)};{omega}
  rw[this];rfl
structure Grow (t:Nat)(S S':zP)(w w':zW):Prop where
 hl:Hl t w w'
 cs:CS w' S'
 old:∀b,S b->S' b
 new:∀b,S' b->S b\/w.heap.size<=b
def Grow.refl (h:CS w S):Grow t S S w w:=⟨.refl,h,λ_ h=>h,λ_ h=>aG h⟩
def Grow.trans {S1 f:zP}(h:Grow t S S1 w w1)(a:Grow t S1 f w1 w'):Grow t S f w w':=
 ⟨h.hl.trans a.hl,a.cs,λb e=>a.old b (h.old b e),λb e=>by
  obtain x|x:=a.new b e;{exact h.new b x}
  .exact aH (zAw h.hl.size x)⟩
def Joined (k t:Nat)(S:zP)(us:List bS)(d lo n:Nat)(x0 x1 x2 x3 x4:zY)(c:Int)(w:zW)(e:Ending)(w':zW):Prop:=
 ∃p rows a,e=aL (ptr p)/\cS k w' p us d lo w'.heap.size rows/\Grow t S a w w'/\(∀b,p=aA b->a b)/\dJ w' t x0 x1 x2 x3 x4 (c+(rows.length-n:Int))/\rows.length=n+if 2<=us.length then 1 else 0
def Hr (P:1<=k)(M:k<=32)(j:cS k w z (bK d 0 us) (d+1) lo m rz)(l:cS k w o (bK d 1 us) (d+1) m w.heap.size ro)(U:Sub us d)(n:CS w S)(B:∀b,z=aA b->S b)(C:∀b,o=aA b->S b)(F:dJ w t x0 x1 x2 x3 x4 c)(y: -4611686018427387904<=c)(u:c<=4611686018427387904):
  Calls zq 232 #[aN (aA ⟨t,0,aB⟩),ptr z,ptr o] w (Joined k t S us d lo (rz.length+ro.length) x0 x1 x2 x3 x4 c w):=by
 have hl:=oE us d;have I:=hid j.ends;have E:=hid l.ends;have K:=j.iH;have no:=l.iH;have T:=j.Hi;have q:=l.Hi;have Y:Hid (z=aB->(bK d 1 us).length<=1->Joined k t S us d lo (rz.length+ro.length) x0 x1 x2 x3 x4 c w (aL (ptr o)) w):=λe h=>by
  have A:=K.1 e;have Q:=VY A (zAb _);have r:rz=[]:=by
   subst e;rw[A]at j;cases j with
   |done=>rfl
  rw[Q]at l h;exact⟨o,ro,S,rfl,(l.up h).wide T (zAb _),.refl n,C,by rw[r,show((c:Int)+((ro.length:Int)-(([]:List (Nat×ByteArray)).length+ro.length:Nat)))=c by simp];exact F,by rw[r,zAn (by omega)];simp⟩
 have HB:Hid (o=aB->(bK d 0 us).length<=1->Joined k t S us d lo (rz.length+ro.length) x0 x1 x2 x3 x4 c w (aL (ptr z)) w):=λe h=>by
  have A:=no.1 e;have Q:bK d 0 us=us:=VY A (by omega);have r:ro=[]:=by
   subst e;rw[A]at l;cases l with
   |done=>rfl
  rw[Q]at j h;exact⟨z,rz,S,rfl,(j.up h).wide (zAb _) q,.refl n,B,by rw[r,show((c:Int)+((rz.length:Int)-(rz.length+([]:List (Nat×ByteArray)).length:Nat)))=c by simp];exact F,by rw[r,zAn (by omega)];simp⟩
 have R:Hid (2<=us.length->Calls zq 239 #[aN (aA ⟨t,0,aB⟩),ptr z,ptr o] w λe w'=>∃b,e=aL (ptr (aA b))/\Joined k t S us d lo (rz.length+ro.length) x0 x1 x2 x3 x4 c w (aL (ptr (aA b))) w'):=λO=>by refine(Gy (n.cells B) (n.cells C) F y u).mono ?_;rintro e w' ⟨b,rfl,D,G,N,hb⟩;obtain⟨hs,Z⟩:=D.cell;have hR:cS k w' (aA b) us d lo w'.heap.size (rz++ro++[(b,⟨(gE k us d).toArray⟩)]):= .node O (U.deep O) Z (j.hl P M G) ((l.hl P M G).wide (zAb _) D.lo) hb;refine⟨b,rfl,aA b,_,_,rfl,hR,⟨G,(n.hl G).add D B C,λx L=>aG L,λx L=>L.imp id λe=>by subst e;exact D.lo⟩,λx e=>by cases e;exact aH rfl,?_,by rw[zAq O];simp only[zAi,zAh,zBb]⟩;rw[show(c:Int)+(((rz++ro++[(b,(⟨(gE k us d).toArray⟩:ByteArray))]).length:Int)-(rz.length+ro.length:Nat))=c+1 by simp only[zAi,zAh,zBb];omega];exact N
 have H1:Hid (z=aB->o=aB->(bK d 1 us).length<=1):=λ_ e=>by rw[no.1 e];simp
 have H2:Hid (¬(bK d 1 us).length<=1->2<=us.length):=λh=>by omega
 have H3:Hid (¬(bK d 0 us).length<=1->2<=us.length):=λh=>by omega
 have H4:Hid (∀a b,z=aA a->o=aA b->2<=us.length):=λa b X W=>by
  obtain h|h:=zEt (bK d 0 us).length;{rw[K.2 (zFl.1 h)]at X;cases X}
  .obtain V|V:=zEt (bK d 1 us).length
   .rw[no.2 (zFl.1 V)]at W;cases W
   .omega
 generalize hJ:Joined k t S us d lo (rz.length+ro.length) x0 x1 x2 x3 x4 c w=J at*;clear j l U n B C F y u hJ K no T q hl P M;generalize bK d 0 us=u0 at*;generalize bK d 1 us=u1 at*;cases z with
 |none=>
  cases o with
  |none=>have f:=H1.out rfl rfl;rw[zCy f]at E;go_enter (Qz.fn func232),ntmps232;go_wp2_with fail;refine E.out.mono ?_;rintro e w' ⟨rfl,rfl⟩;go_wp2;exact Y.out (by first|trivial|rfl) f
  |some o=>by_cases f:u1.length<=1;{rw[zCy f]at E;go_enter (Qz.fn func232),ntmps232;go_wp2_with fail;refine E.out.mono ?_;rintro e w' ⟨rfl,rfl⟩;go_wp2;exact Y.out (by first|trivial|rfl) f};{rw[zBs f]at E;have H:=R.out (H2.out f);go_enter (Qz.fn func232),ntmps232;go_wp2_with fail;refine E.out.mono ?_;rintro e w' ⟨rfl,rfl⟩;go_wp2_with fail;refine H.mono ?_;rintro e w' ⟨b,rfl,s⟩;go_wp2;exact s}
 |some z=>
  cases o with
  |none=>by_cases f:u0.length<=1;{rw[zCy f]at I;go_enter (Qz.fn func232),ntmps232;go_wp2_with fail;refine I.out.mono ?_;rintro e w' ⟨rfl,rfl⟩;go_wp2;exact HB.out (by first|trivial|rfl) f};{rw[zBs f]at I;have H:=R.out (H3.out f);go_enter (Qz.fn func232),ntmps232;go_wp2_with fail;refine I.out.mono ?_;rintro e w' ⟨rfl,rfl⟩;go_wp2_with fail;refine H.mono ?_;rintro e w' ⟨b,rfl,s⟩;go_wp2;exact s}
  |some o=>have H:=R.out (H4.out _ _ rfl rfl);go_enter (Qz.fn func232),ntmps232;go_wp2_with fail;refine H.mono ?_;rintro e w' ⟨b,rfl,s⟩;go_wp2;exact s
end
def eH {l a I}:fJ (a::l) I=if a.1=I then aA a.2 else fJ l I:=by
 unfold fJ;by_cases h:a.1=I
 .rw[List.find?_cons_of_pos (by simpa using h),zAq h];rfl
 .rw[List.find?_cons_of_neg (by simpa using h),zAn h]
def AE:∀{l m:List rU},gQ l->gQ m->(∀I,fJ l I=fJ m I)->l=m
 |[],[],_,_,_=>rfl
 |[],b::m,_,_,h=>by have:=h b.1;rw[eH,zAq rfl]at this;cases this
 |a::l,[],_,_,h=>by have:=h a.1;rw[eH,zAq rfl]at this;cases this
 |a::l,b::m,hl,hm,h=>by
  unfold gQ at hl hm;rw[zCm]at hl hm;have g:∀{x:rU}{r:List rU},(∀e∈r,aFH x.1 e.1= -1)->∀e∈r,e.1≠x.1:=λn e f d=>by have:=n e f;rw[d,eQ]at this;cases this
  have i:a.1=b.1:=by
   obtain c|c|c:=iT a.1 b.1
   .exfalso;have:=h a.1;rw[eH,zAq rfl,eH,zAn (λe=>by rw[e,eQ]at c;cases c),gV]at this
    .cases this
    .intro e f d;have k:=hm.1 e f;rw[d]at k;have:=gT b.1 a.1;omega
   .exact kY c
   .exfalso;have c':aFH b.1 a.1= -1:=by{have:=gT a.1 b.1;omega};have:=h b.1;rw[eH (a:=b),zAq rfl,eH,zAn (λe=>by rw[e,eQ]at c;cases c),gV]at this;{cases this};{intro e f d;have k:=hl.1 e f;rw[d]at k;have:=gT a.1 b.1;omega}
  have o:a.2=b.2:=by have:=h a.1;rw[eH,zAq rfl,eH,zAq i.symm]at this;exact zAk this
  have f:=Prod.ext i o;subst f;rw[AE hl.2 hm.2 λI=> ?_];have:=h I;rw[eH,eH]at this;by_cases j:a.1=I;{subst j;rw[gV (g hl.1),gV (g hm.1)]};{rw[zAn j,zAn j]at this;exact this}
def get_append (l m)(I):fJ (l++m) I=(fJ l I).or (fJ m I):=by unfold fJ;rw[List.find?_append];cases h:l.find? λe=>e.1==I<;>rfl
def get_filter {l q I}(h:∀e,e.1=I->q e=aE):fJ (l.filter q) I=fJ l I:=by
 induction l with
 |nil=>rfl
 |cons a l i=>
  by_cases b:a.1=I;{rw[zBd (h a b),eH,eH,zAq b,zAq b]}
  .rw[eH,zAn b];cases c:q a with
   |true=>rw[zBd c,eH,zAn b,i]
   |false=>rw[zAs (by rw[c];decide),i]
def get_put (l)(u)(I):fJ (xC l u) I=if u.idx=I then(if u.gone then aB else aA u.val)else fJ l I:=by
 unfold xC;rw[get_append,get_append];by_cases h:u.idx=I
 .subst h;rw[zAq rfl,gV (λe b a=>by
   have:=of_decide_eq_true (zBa.1 b).2;rw[a,eQ]at this;cases this),gV (l:=l.filter λe=>decide (aFH e.1 u.idx=1)) (λe b a=>by
   have:=of_decide_eq_true (zBa.1 b).2;rw[a,eQ]at this;cases this)]
  cases u.gone;{simp[eH]};{simp[fJ]}
 .rw[zAn h];have d:fJ (if u.gone then []else [(u.idx,u.val)]) I=aB:=by
   split;{rfl};{rw[eH,zAn h];rfl}
  rw[d];obtain c|c|c:=iT I u.idx
  .rw[get_filter (λe b=>by rw[b,c];rfl),gV (l:=l.filter λe=>decide (aFH e.1 u.idx=1)) (λe b a=>by
    have:=of_decide_eq_true (zBa.1 b).2;rw[a,c]at this;cases this)]
   cases fJ l I<;>rfl
  .exact absurd (kY c).symm h
  .rw[get_filter (q:=λe=>decide (aFH e.1 u.idx=1)) (λe b=>by rw[b,c];rfl),gV (λe b a=>by
    have:=of_decide_eq_true (zBa.1 b).2;rw[a,c]at this;cases this)]
   rfl
def Diff (cs:List bS)(l w:List rU):Prop:=∀u∈cs,fJ l u.idx≠fJ w u.idx
def MC (l)(d b)(I):fJ (cV l d b) I=if bZ I d=b then fJ l I else aB:=by
 split
 .rename_i h;exact get_filter (λe g=>by rw[g,h];exact zFd _)
 .rename_i h;unfold fJ;cases c:(cV l d b).find? λe=>e.1==I with
  |none=>rfl
  |some e=>exfalso;have i:=List.mem_of_find?_eq_some c;have f:=List.find?_some c;have a:=(zBa.1 i).2;rw[zCo]at f a;rw[f]at a;exact h a
def Diff.half {cs l w}(h:Diff cs l w)(d b):Diff (bK d b cs) (cV l d b) (cV w d b):=λu c=>by obtain⟨e,a⟩:=zBa.1 c;rw[MC,MC,zAq (zCo.1 a),zAq (zCo.1 a)];exact h u e
def Diff.ne {cs l w}(h:Diff cs l w)(a:0<cs.length):l≠w:=λe=>by
 subst e;match cs,a with
 |u::cs,_=>exact h u (zBk ..) rfl
def nH (l w:List rU):Nat:=(l.filter λe=> !w.contains e).length
def sV (l w)(d):nH (cV l d 0) (cV w d 0)+nH (cV l d 1) (cV w d 1)=nH l w:=by
 have h:∀b,(cV l d b).filter (λe=> !(cV w d b).contains e)=cV (l.filter λe=> !w.contains e) d b:=λb=>by
  unfold cV;rw[zEj,zEj];apply List.filter_congr;intro e _;cases hb:bZ e.1 d==b with
  |false=>simp
  |true=>
   have:(w.filter λe=>bZ e.1 d==b).contains e=w.contains e:=by rw[aFG,List.contains_iff_mem,List.contains_iff_mem,zBa];exact⟨λh=>h.1,λh=>⟨h,hb⟩⟩
   rw[this];simp
 unfold nH;rw[h 0,h 1];exact GL _ d
def yA:∀{l:List rU}{I v:zB},gQ l->(I,v)∈l->fJ l I=aA v
 |[],_,_,_,h=>by cases h
 |a::l,I,v,b,h=>by obtain⟨d,c⟩:=zCm.1 b;rw[eH];obtain rfl|h:=zAe.1 h;{rw[zAq rfl]};{have:=d _ h;rw[zAn (λe=>by rw[e,eQ]at this;cases this)];exact yA c h}
def mC (l w:List rU)(d:Nat):Nat:=nH l w+fM (256-d) l w d
def Hc {u cs w d}(b:gQ w)(h:Diff cs (bC [u]) w){c}(f:c∈cs)(hi:c.idx=u.idx):1<=mC (bC [u]) w d:=by
 have a:=h c f;rw[hi]at a;have i:fJ (bC [u]) u.idx=aA u.val:=by show fJ [(u.idx,u.val)] u.idx=_;rw[eH,zAq rfl]
 rw[i]at a;have g:w.contains (u.idx,u.val)=aF:=by rw[Bool.eq_false_iff];intro e;rw[List.contains_iff_mem]at e;exact a (yA b e).symm
 have j:nH (bC [u]) w=1:=by show([(u.idx,u.val)].filter _).length=1;rw[zBd (by rw[g];rfl)];rfl
 unfold mC;omega
def Gz {us cs w d}(h:Diff cs (bC us) w)(b:2<=us.length)(a:0<cs.length)(c:d<256):
  1+(mC (bC (bK d 0 us)) (cV w d 0) (d+1)+mC (bC (bK d 1 us)) (cV w d 1) (d+1))=mC (bC us) w d:=by
 rw[eU,eU];unfold mC;rw[show 256-d=(256-(d+1))+1 by omega,fM,zAn (λe=>by
  obtain e|e:=e;{rw[gN]at e;omega}
  .exact h.ne a e),<-sV (bC us) w d]
 omega
def mP (l:List bS):Prop:=l.Pairwise λa b=>aFH a.idx b.idx= -1
def sZ (I:zB)(l:List bS):List bS:=l.filter λu=>decide (aFH u.idx I= -1)
def mF (I:zB)(l:List bS):List bS:=l.filter λu=>decide (aFH u.idx I=1)
def WH {I l}(h:∀x∈l,aFH x.idx I=1):sZ I l=[]/\mF I l=l:=by
 constructor
 .unfold sZ;rw[zFm];intro x a;rw[h x a];decide
 .unfold mF;rw[zFi];intro x a;rw[h x a];rfl
def VL {a b}(h:aFH a b= -1):aFH b a=1:=by rw[gT a b,h];rfl
def yV (I:zB):∀l:List bS,mP l->(∃x,x.idx=I/\l=sZ I l++x::mF I l)\/(l=sZ I l++mF I l/\∀x∈l,x.idx≠I)
 |[],_=>aH ⟨rfl,λ_ h=>by cases h⟩
 |a::l,m=>by
  obtain⟨f,n⟩:=zCm.1 m;obtain h|h|h:=iT a.idx I
  .have j:sZ I (a::l)=a::sZ I l:=by{unfold sZ;rw[zBd (by rw[h];rfl)]};have i:mF I (a::l)=mF I l:=by{unfold mF;rw[zAs (by rw[h];decide)]};rw[j,i];obtain⟨x,b,e⟩|⟨e,d⟩:=yV I l n;{exact aG ⟨x,b,by rw[zCe,<-e]⟩}
   .refine aH ⟨by rw[zCe,<-e],λx b=> ?_⟩;obtain rfl|b:=zAe.1 b
    .intro e;rw[e,eQ]at h;cases h
    .exact d x b
  .have e:=kY h;obtain⟨c,g⟩:=WH (I:=I) (l:=l) λx b=>by{rw[<-e];exact VL (f x b)};have j:sZ I (a::l)=[]:=by{unfold sZ at c⊢;rw[zAs (by rw[h];decide)];exact c};have i:mF I (a::l)=l:=by{unfold mF at g⊢;rw[zAs (by rw[h];decide)];exact g};rw[j,i];exact aG ⟨a,e,rfl⟩
  .have k:aFH I a.idx= -1:=by rw[gT a.idx I,h]
   obtain⟨c,g⟩:=WH (I:=I) (l:=a::l) λx b=>by obtain rfl|b:=zAe.1 b;{exact h};{exact VL (nM k (f x b))}
   rw[c,g];refine aH ⟨rfl,λx b=> ?_⟩;obtain rfl|b:=zAe.1 b;{intro e;rw[e,eQ]at h;cases h};{intro e;have:=nM k (f x b);rw[e,eQ]at this;cases this}
def UD (u:bS):bS:=⟨u.idx,u.val,aF⟩
def iP (l:List bS)(u:bS):List bS:=sZ u.idx l++((if u.gone then []else [UD u])++mF u.idx l)
def xB (l)(u):bC (iP l u)=xC (bC l) u:=by
 have h:∀q:rU->Bool,bC (l.filter λx=>q (x.idx,x.val))=(bC l).filter q:=λq=>by unfold bC;rw[List.filter_map];rfl
 unfold iP xC;rw[<-h,<-h];unfold bC sZ mF;rw[zDi,zDi];cases u.gone<;>rfl
structure JC (l:List bS):Prop where
 sub:Sub l 0
 val:∀u∈l,u.val.length<=100
 here:∀u∈l,u.gone=aF
def JC.nil:JC []:=⟨⟨List.Pairwise.nil,λ_ h=>(nomatch h),λ_ h=>(nomatch h)⟩,λ_ h=>(nomatch h),λ_ h=>(nomatch h)⟩
def JC.put {l}(h:JC l){u}(hi:u.idx.length=32)(e:u.val.length<=100):JC (iP l u):=by
 have b:∀x∈iP l u,x∈l\/(u.gone=aF/\x=UD u):=λx a=>by
  obtain a|a:=zAg.1 a;{exact aG (zBa.1 a).1}
  .obtain a|a:=zAg.1 a
   .cases c:u.gone with
    |true=>rw[c]at a;simp at a
    |false=>rw[c]at a;exact aH ⟨rfl,by simpa using a⟩
   .exact aG (zBa.1 a).1
 have f:mP (iP l u):=by have d:gQ (xC (bC l) u):=vO (zDn.2 h.sub.order);rw[<-xB]at d;exact zDn.1 d
 refine⟨Sub.zero f λx a=> ?_,λx a=> ?_,λx a=> ?_⟩
 .obtain a|⟨_,rfl⟩:=b x a
  .exact h.sub.idx x a
  .exact hi
 .obtain a|⟨_,rfl⟩:=b x a
  .exact h.val x a
  .exact e
 .obtain a|⟨_,rfl⟩:=b x a
  .exact h.here x a
  .rfl
def bJ (l us:List bS):List bS:=us.foldl iP l
def BX:∀(us l:List bS),bC (bJ l us)=cY (bC l) us
 |[],_=>rfl
 |u::us,l=>by show bC (bJ (iP l u) us)=cY (xC (bC l) u) us;rw[BX us,xB]
def JC.cY:∀{us l:List bS},JC l->(∀u∈us,u.idx.length=32/\u.val.length<=100)->JC (bJ l us)
 |[],_,h,_=>h
 |u::us,l,h,hu=>by show JC (bJ (iP l u) us);exact JC.cY (h.put (hu u (zBk ..)).1 (hu u (zBk ..)).2) λx a=>hu x (zBh _ a)
def JC.same {l m}(h:JC l)(d:JC m)(e:bC l=bC m):l=m:=by
 have a:∀{x:List bS},JC x->x=(bC x).map λe=>⟨e.1,e.2,aF⟩:=λ{x} b=>by
  unfold bC;rw[zEh];conv=>lhs;rw[<-List.map_id x]
  apply zFh;intro u c;have:=b.here u c;cases u;simp only at this;subst this;rfl
 rw[a h,a d,e]
def RF (R:zR)(e:Ending)(w:zW):Prop:=(∃x,e=aL x/\R x w)\/∃c,e= .panicked c/\lD c w
def RF.of {R x w}(h:R x w):RF R (aL x) w:=aG ⟨x,rfl,h⟩
def RF.told {R c w}(h:lD c w):RF R (.panicked c) w:=aH ⟨c,rfl,h⟩
def jY {B w w'}(h:Below B w w'):Below B w w'.drew:=⟨h.os,h.tape,h.output,h.size,h.block⟩
def NG {B w w'}(h:Below B w.drew w'):Below B w w':=⟨h.os,h.tape,h.output,h.size,h.block⟩
def eM (w:zW)(x:Nat):Prop:=∃z o i v g h,aX w x z o i v g h
def oM (C:zP)(x:zY):Prop:=∃p,x=ptr p/\∀b,p=aA b->C b
def mQ (w:zW):Prop:=∀b,b<=zq.globals.size->¬WO w.heap[b]?/\¬eM w b/\((∃c t fr,w.heap[b]? =aA (aI c t fr)/\(∀D:zP,(∀x,x<=zq.globals.size->D x)->aY Qw.Al (cH D) c c)/\(∀(i:Nat) m,c[i]?≠aA (aC aP m))/\fr.2<=c.size)\/∃o,w.heap[b]? =aA o/\CX o)
structure dN (F:zP)(w w':zW):Prop where
 os:w'.os=w.os
 tape:w'.tape=w.tape
 output:w'.output=w.output
 size:w.heap.size<=w'.heap.size
 block:∀k,k<w.heap.size->¬F k->w'.heap[k]? =w.heap[k]?
section
variable {F F':zP}{w w1 w':zW}
def dN.refl (F:zP)(w:zW):dN F w w:=⟨rfl,rfl,rfl,zAb _,λ_ _ _=>rfl⟩
def dN.of {B}(h:Below B w w')(c:w.heap.size<=B):dN F w w':=⟨h.os,h.tape,h.output,h.size,λk a _=>h.block k (zAc a c)⟩
def dN.trans (h:dN F w w1)(a:dN F w1 w'):dN F w w':=⟨a.os.trans h.os,a.tape.trans h.tape,a.output.trans h.output,zAw h.size a.size,λk c hF=>(a.block k (zAc c h.size) hF).trans (h.block k c hF)⟩
def dN.then (h:dN F w w1)(a:dN F' w1 w')(hF:∀x,F' x->x<w.heap.size->¬F x->w1.heap[x]?≠w.heap[x]?):dN F w w':=⟨a.os.trans h.os,a.tape.trans h.tape,a.output.trans h.output,zAw h.size a.size,λk c d=>(a.block k (zAc c h.size) (λe=>hF k e c d (h.block k c d))).trans (h.block k c d)⟩
def dN.mono (h:dN F w w')(hF:∀x,F x->F' x):dN F' w w':=⟨h.os,h.tape,h.output,h.size,λk c a=>h.block k c λd=>a (hF k d)⟩
def dN.grown {x}(h:w.grownBy w' (aA x))(a:F x):dN F w w':=⟨h.os,h.tape,h.output,h.size,λk d c=>h.block k d λe=>c (by injection e with e;rw[e];exact a)⟩
end
def oY (S:List (List bS)):List bS:=S.getLast?.getD []
structure dA (w:zW)(t k room b cap:Nat)(S:List (List bS)):Prop where
 k1:1<=k
 k2:k<=32
 gW:mQ w
 iM:fF w
 EG:zq.globals.size<t
 PS:zq.globals.size<b
 at':∃(R:Nat)(c:Int),dJ w t (aC aD k) (aC aD R) (aK ⟨(dg k [0]).toArray⟩) (aJ (aA ⟨b,0,aB⟩) S.length cap) (aC aD (oY S).length) c/\c+room<=R/\R<=1000000/\-(1000000*((R:Int)-room))<=c
 row:∃(C:zP)(cur:zA),w.heap[b]? =aA (aI cur 264 (0,0))/\S.length<=cap/\cap<=maxLen/\cur.size=cap/\CS w C/\(∀x∈cur.toList,oM C x)/\∀(i:Nat) us,S[i]? =aA us->∃p,cur[i]? =aA (ptr p)/\eL k w p us 0
 st:∀us∈S,JC us/\us.length<=400
 len:S.length<=1000
 one:0<S.length
section
variable {w w':zW}{t k room b cap:Nat}{S:List (List bS)}{C:zP}
def eM.lt {x}(h:eM w x):x<w.heap.size:=by obtain⟨_,_,_,_,_,_,h⟩:=h;exact h.lt
def aX.same {b z o i v g hs}(h:aX w b z o i v g hs)(a:w'.heap[b]? =w.heap[b]?):aX w' b z o i v g hs:=⟨by rw[a];exact h.at'⟩
def dZ.same {b}(h:dZ w b)(a:w'.heap[b]? =w.heap[b]?):dZ w' b:=by obtain⟨c,h⟩:=h;exact⟨c,by rw[a];exact h⟩
def eM.same {x}(h:eM w x)(c:w'.heap[x]? =w.heap[x]?):eM w' x:=by obtain⟨z,o,i,v,g,a,h⟩:=h;exact⟨z,o,i,v,g,a,h.same c⟩
def mQ.kept (h:mQ w)(c:∀x,x<=zq.globals.size->w'.heap[x]? =w.heap[x]?):mQ w':=λx a=>by rw[c x a];exact⟨(h x a).1,λd=>(h x a).2.1 (d.same (c x a).symm),(h x a).2.2⟩
def CS.cell (h:CS w C){x}(a:C x):eM w x:=by obtain⟨z,o,i,v,g,c,d,_⟩:=h x a;exact⟨z,o,i,v,g,c,d⟩
def CS.down (h:CS w C)(b)(z o)(i v g)(hs)(f:C b)(d:aX w b z o i v g hs)(c)(e:z=aA c\/o=aA c):C c:=by obtain⟨m,p,q,n,r,a,l,_,j⟩:=h b f;obtain⟨rfl,rfl,_⟩:=gF d l;exact j c e
def CS.kept (h:CS w C)(c:∀x,C x->w'.heap[x]? =w.heap[x]?):CS w' C:=λx a=>by obtain⟨z,o,i,v,g,d,j,f,e⟩:=h x a;exact⟨z,o,i,v,g,d,j.same (c x a),f.same (c x a),e⟩
def eL.kept {p:Option Nat}{us:List bS}{d:Nat}(h:eL k w p us d)(l:CS w C)(c:∀b,p=aA b->C b)(e:∀x,C x->w'.heap[x]? =w.heap[x]?):eL k w' p us d:=
 h.stay (G:=C) l.down (λb z o i v g a j f=>⟨a,f.same (e b j)⟩) c
def fF.kept (h:fF w)(hs:w.heap.size<=w'.heap.size)(a:∀x,x<=zq.globals.size->w'.heap[x]? =w.heap[x]?):fF w':=by
 obtain⟨f,e⟩:=GN;refine⟨⟨zAc h.mV.1 hs,λj d=> ?_⟩,zAc h.lt hs,λj v c=> ?_⟩
 .rw[World.cell?_of_block (a _ e)];exact h.mV.2 j d
 .rw[World.cell?_of_block (a _ f)];exact h.jK j v c
def dA.jl (h:dA w t k room b cap S):∃cs,w.heap[t]? =aA (aI cs 168 (0,0)):=by obtain⟨R,c,a,_⟩:=h.at';exact⟨_,a⟩
def dA.lf (h:dA w t k room b cap S):∃cs,w.heap[b]? =aA (aI cs 264 (0,0)):=by obtain⟨C,c,a,_⟩:=h.row;exact⟨_,a⟩
def dA.ji (h:dA w t k room b cap S):t<w.heap.size:=by obtain⟨cs,h⟩:=h.jl;exact(zAa.1 h).1
def dA.blt (h:dA w t k room b cap S):b<w.heap.size:=by obtain⟨cs,h⟩:=h.lf;exact(zAa.1 h).1
def dA.tb (h:dA w t k room b cap S):t≠b:=λe=>by obtain⟨cs,d⟩:=h.lf;obtain⟨f,a⟩:=h.jl;rw[e,d]at a;injection a with a;injection a with _ c;revert c;decide
def dA.less {room'}(h:dA w t k room b cap S)(a:room'<=room):dA w t k room' b cap S:=by obtain⟨R,c,d1,d,d3,d4⟩:=h.at';exact⟨h.k1,h.k2,h.gW,h.iM,h.EG,h.PS,⟨R,c,d1,by omega,d3,by omega⟩,h.row,h.st,h.len,h.one⟩
def dA.kept (h:dA w t k room b cap S)(hs:w.heap.size<=w'.heap.size)(d:∀x,x<=zq.globals.size\/x=t\/x=b\/eM w x->w'.heap[x]? =w.heap[x]?):dA w' t k room b cap S:=by
 obtain⟨C,f,c1,c2,c3,c4,c5,c6,r⟩:=h.row;obtain⟨R,c,d1,q,d3,d4⟩:=h.at';have g:∀x,C x->w'.heap[x]? =w.heap[x]? :=λx a=>d x (aH (aH (aH (c5.cell a))));refine⟨h.k1,h.k2,h.gW.kept λx a=>d x (aG a),h.iM.kept hs λx a=>d x (aG a),h.EG,h.PS,⟨R,c,(d t (aH (aG rfl))).trans d1,q,d3,d4⟩,⟨C,f,by rw[d b (aH (aH (aG rfl)))];exact c1,c2,c3,c4,c5.kept g,c6,λi us hi=> ?_⟩,h.st,h.len,h.one⟩;obtain⟨p,j,o⟩:=r i us hi;refine⟨p,j,o.kept c5 (λb n=> ?_) g⟩;obtain⟨l,e,m⟩:=c6 _ (by rw[zDt];exact zBf j);subst n;cases l with
 |none=>cases e
 |some s=>cases e;exact m _ rfl
def dA.below {B:Nat}(h:dA w t k room b cap S)(c:Below B w w')(d:w.heap.size<=B):dA w' t k room b cap S:=
 h.kept c.size λx a=>c.block x (zAc (by
  obtain a|rfl|rfl|a:=a;{have:=h.EG;have:=h.ji;omega};{exact h.ji};{exact h.blt}
  .exact a.lt) d)
def eM.ne {x y}(h:eM w x){cs ty fr}(c:w.heap[y]? =aA (aI cs ty fr))(a:ty≠272):x≠y:=λe=>by subst e;obtain⟨_,_,_,_,_,_,h⟩:=h;obtain⟨f,h⟩:=h.at';rw[c]at h;injection h with h;injection h with _ d;exact a d
def dA.other {x:Nat}{cs:zA}{ty:zD}{fr:Nat×Nat}(h:dA w t k room b cap S)(f:w.grownBy w' (aA x))(g:w.heap[x]? =aA (aI cs ty fr))(c:ty≠272/\ty≠168/\ty≠264)(hl:zq.globals.size<x):dA w' t k room b cap S:=
 h.kept f.size λy d=>by obtain d|rfl|rfl|d:=d;{exact f.block y (by have:=h.EG;have:=h.ji;omega) (λe=>by injection e with e;omega)};{refine f.block _ h.ji (λe=> ?_);injection e with e;subst e;obtain⟨j,a⟩:=h.jl;rw[g]at a;injection a with a;injection a with _ i;exact c.2.1 i};{refine f.block _ h.blt (λe=> ?_);injection e with e;subst e;obtain⟨j,a⟩:=h.lf;rw[g]at a;injection a with a;injection a with _ i;exact c.2.2 i};{refine f.block _ d.lt (λe=> ?_);injection e with e;exact d.ne g c.1 e}
def MV {D a}(h:D a.block):bT (cH D) a a:=⟨⟨rfl,h⟩,rfl,rfl⟩
def XN {D v}(h:∀a,v=aA a->D a.block)(n c):bF Qw.Al (cH D) (aJ v n c) (aJ v n c):=by
 cases v with
 |none=>exact .slice .none n c
 |some a=>exact .slice (.some (MV (h a rfl))) n c
def FO {D p}(h:∀b,p=aA b->D b):bF Qw.Al (cH D) (ptr p) (ptr p):=by
 cases p with
 |none=>exact .pointer .none
 |some b=>exact .pointer (.some (MV (h b rfl)))
def NC {D cs}(h:∀x∈cs.toList,bF Qw.Al (cH D) x x):aY Qw.Al (cH D) cs cs:=⟨rfl,λi v d c a=>by rw[c]at a;injection a with a;subst a;exact h v (by rw[zDt];exact zBf c)⟩
def Il (t b:Nat)(C:zP):zP:=λx=>x<=zq.globals.size\/x=t\/x=b\/C x
def Yy {n x1 x4 c cur}(k1:1<=k)(k2:k<=32)(D:mQ w)(J:fF w)(EG:zq.globals.size<t)(PS:zq.globals.size<b)(r:dJ w t (aC aD k) (aC aD x1) (aK ⟨(dg k [0]).toArray⟩) (aJ (aA ⟨b,0,aB⟩) n cap) (aC aD x4) c)(q:w.heap[b]? =aA (aI cur 264 (0,0)))(H:CS w C)(s:∀x∈cur.toList,oM C x):rM k t (Il t b C) w:=by
 have A:∀x,x<=zq.globals.size->Il t b C x:=λx h=>aG h;have bW:=r.lt;refine⟨k1,k2,⟨⟨λl d=>by rw[l.1,d.1],λl _=>l.1,λx h=>⟨rfl,A x h⟩⟩,by omega,λx h=> ?_⟩,λx h=> ?_,aH (aG rfl),?_,J,λx z o i v g u h E=> ?_⟩
 .by_cases qC:x<=zq.globals.size
  .obtain⟨c,ty,fr,l,d,B,K⟩|⟨o,l,d⟩:=(D x qC).2.2
   .exact aG ⟨c,ty,fr,l,d _ A,B,K⟩
   .exact aH ⟨qC,o,l,d⟩
  .left;obtain h|rfl|rfl|h:=h
   .exact absurd h qC
   .refine⟨_,_,_,r,NC λy f=> ?_,λi m hi=> ?_,zBr _⟩
    .simp only[zAe,zAo,zCa]at f;obtain rfl|rfl|rfl|rfl|rfl|rfl:=f
     .exact .int _ _
     .exact .int _ _
     .exact .string _
     .exact XN (λa G=>by injection G with G;subst G;exact aH (aH (aG rfl))) _ _
     .exact .int _ _
     .exact .int _ _
    .have:=zBf hi;simp at this
   .refine⟨_,_,_,q,NC λy f=> ?_,λi m hi=> ?_,zBr _⟩
    .obtain⟨p,rfl,I⟩:=s y f;exact FO λb q=>aH (aH (aH (I b q)))
    .obtain⟨p,e,_⟩:=s _ (by rw[zDt];exact zBf hi);cases p<;>cases e
   .obtain⟨z,o,i,v,g,u,l,⟨L,d⟩,B⟩:=H x h;obtain⟨fr,l⟩:=l.at';rw[d]at l;cases l;refine⟨_,_,_,d,NC λy f=> ?_,λj m hi=> ?_,zBr _⟩
    .simp only[mH,zAe,zAo,zCa]at f;obtain rfl|rfl|rfl|rfl|rfl|rfl:=f
     .exact FO λb q=>aH (aH (aH (B b (aG q))))
     .exact FO λb q=>aH (aH (aH (B b (aH q))))
     .exact .string _
     .exact .string _
     .exact .string _
     .exact .int _ _
    .have:=zBf hi;rw[<-zDt]at this;simp only[mH,zAe,zAo,zCa]at this;obtain e|e|e|e|e|e:=this
     .cases z<;>cases e
     .cases o<;>cases e
     all_goals cases e
 .rintro⟨y,f⟩;by_cases qC:x<=zq.globals.size
  .exact(D x qC).1 ⟨y,f⟩
  .obtain h|rfl|rfl|h:=h
   .exact absurd h qC
   .unfold dJ at r;rw[f]at r;cases r
   .rw[f]at q;cases q
   .obtain⟨z,o,i,v,g,u,_,⟨L,d⟩,_⟩:=H x h;rw[f]at d;cases d
 .exact⟨bW,(aZ r 0).trans rfl,(aZ r 2).trans rfl⟩
 .by_cases qC:x<=zq.globals.size
  .exact absurd ⟨z,o,i,v,g,u,E⟩ (D x qC).2.1
  .obtain h|rfl|rfl|h:=h
   .exact absurd h qC
   .exact absurd rfl (r.ne E)
   .exact absurd rfl (eM.ne ⟨z,o,i,v,g,u,E⟩ q (by decide))
   .obtain⟨z,o,i,v,g,u,_,d,_⟩:=H x h;exact d
end
section
variable {w w1 w':zW}{t b k d lo hi:Nat}{x0 x1 x2 x3 x4:zY}{c:Int}{z o p:Option Nat}{i v g:zB}{hs:Int}{C:zP}{us:List bS}{rows:List (Nat×ByteArray)}
def UL {d l a b f e}(r:d<256)(hl:a+b=l)(s:1<=l)(q:f<=(257-(d+1))*a)(j:e<=(257-(d+1))*b):1+f+e<=(257-d)*l:=by obtain⟨m,h⟩:∃m,257-(d+1)=m:=⟨_,rfl⟩;rw[h]at q j;rw[show 257-d=m+1 by omega,aFM,<-hl,aFN];omega
def CS.thaw (e:CS w C){x}(a:C x):dZ w x:=by obtain⟨_,_,_,_,_,_,_,h,_⟩:=e x a;exact h
def eL.UN (h:eL k w p us d)(a:CS w C)(q:∀b,p=aA b->C b)(E:d<=256):∃n,CN w n p/\n<=(257-d)*us.length:=by
 induction h with
 |nil d=>exact⟨0,.nil,zBr _⟩
 |leaf h=>exact⟨_,.mk h (a.thaw (q _ rfl)) .nil .nil,by simp only[List.length_singleton];omega⟩
 | @node b us d z o hs F l h B D j f=>have m:=q _ rfl;obtain⟨A,x,s⟩:=j (λc e=>a.down _ _ _ _ _ _ _ m h c (aG e)) (by omega);obtain⟨y,u,r⟩:=f (λc e=>a.down _ _ _ _ _ _ _ m h c (aH e)) (by omega);exact⟨_,.mk h (a.thaw m) x u,UL l (oE us d) (by omega) s r⟩
def cS.UN (h:cS k w p us d lo hi rows)(a:CS w C)(l:∀b,p=aA b->C b)(x:d<=256):∃n,CN w n p/\n<=(257-d)*us.length:=by
 induction h with
 |done h _=>exact h.UN a l x
 |leaf _ _ h=>exact⟨_,.mk h (a.thaw (l _ rfl)) .nil .nil,by simp only[List.length_singleton];omega⟩
 | @node b us d lo m hi z o hs D ro I q h G H y j f=>have r:=l _ rfl;obtain⟨F,B,u⟩:=j (λc e=>a.down _ _ _ _ _ _ _ r h c (aG e)) (by omega);obtain⟨E,A,s⟩:=f (λc e=>a.down _ _ _ _ _ _ _ r h c (aH e)) (by omega);exact⟨_,.mk h (a.thaw r) B A,UL q (oE us d) (by omega) u s⟩
def ir (t:Nat)(w0:zW)(n:Nat)(p:Option Nat):Prop:=
 ∀u W x0 x1 x2 x3 x4 c,Hl t w0 W->dJ W t x0 x1 x2 x3 x4 c->-4611686018427387904<=c-n->c<=4611686018427387904->CallsD zq 219 #[aN (aA ⟨t,0,aB⟩),ptr p] u W λe a w'=>a=u/\(e=aL (.tuple #[])/\Hl t W w'/\∃c',dJ w' t x0 x1 x2 x3 x4 c'/\c-n<=c'/\c'<=c)
def GB {w0:zW}{n:Nat}{p:Option Nat}(h:CN w0 n p):ir t w0 n p:=λu W x0 x1 x2 x3 x4 c a b d e=>(LZ h W x0 x1 x2 x3 x4 c a b d e).2 u
def pW.hl {D all n}(m:1<=k)(l:k<=32)(h:pW k w D us all n b)(f:Hl t w w'):pW k w' D us all n b:=by obtain⟨z,o,i,v,hs,j⟩:=h.new;obtain⟨a,e⟩:=f.cell _ _ _ _ _ _ _ j;obtain⟨u,lo,hi,r,t1,t2⟩:=h.tree;exact⟨h.deep,h.Tq,⟨z,o,i,v,a,e⟩,u,lo,hi,r,t1.hl m l f,t2⟩
def Hl.other (j:Hl t w w')(h:dJ w t x0 x1 x2 x3 x4 c){y:Nat}{cs ty fr}(a:w.heap[y]? =aA (aI cs ty fr))(q:ty≠272)(m:ty≠168):w'.heap[y]? =w.heap[y]? :=by refine j.block y (zAa.1 a).1 (λe=> ?_) λz o i v g hs f=>eM.ne ⟨z,o,i,v,g,hs,f⟩ a q rfl;subst e;unfold dJ at h;rw[a]at h;injection h with h;injection h with _ l;exact m l
def rT.hl {D ch}(y:1<=k)(r:k<=32)(h:rT k t D us ch w)(j:Hl t w w')(x:dJ w t x0 x1 x2 x3 x4 c):rT k t D us ch w':=by
 obtain⟨q,F,cp,all,e,E,B,A,g4,g5,g6⟩:=h;have l:∀a,q=aA a->w'.heap[a.block]? =w.heap[a.block]? :=λa f=>by obtain⟨cur,s⟩:=g5 a f;exact j.other x s (by decide) (by decide)
 refine⟨q,F,cp,all,e,E,B,A,g4.kept j.size l,λa f=> ?_,λb u=> ?_⟩
 .rw[l a f];exact g5 a f
 .obtain⟨n,m⟩:=g6 b u;exact⟨n,m.hl y r j⟩
def rT.settle {D ch}(h:rT k t D us ch w):Go.settle (.panicking ch)= .panicking ch:=by obtain⟨q,a,cp,all,rfl,_⟩:=h;rfl
end
structure kJ (k t b cap n:Nat)(C:zP)(cur:zA)(x1 x4 c:Int)(w:zW):Prop where
 gW:mQ w
 iM:fF w
 tr:dJ w t (aC aD k) (aC aD x1) (aK ⟨(dg k [0]).toArray⟩) (aJ (aA ⟨b,0,aB⟩) n cap) (aC aD x4) c
 rW:w.heap[b]? =aA (aI cur 264 (0,0))
 cs:CS w C
section
variable {w w':zW}{t b k cap n:Nat}{x1 x4 c c':Int}{C C':zP}{cur:zA}{all:List (Nat×ByteArray)}
def mQ.hl (h:mQ w)(f:Hl t w w')(j:zq.globals.size<t)(l:t<w.heap.size):mQ w':=h.kept λx a=>f.block x (by omega) (by omega) λz o i v g hs e=>(h x a).2.1 ⟨z,o,i,v,g,hs,e⟩
def mQ.noCell (h:mQ w){x}(a:x<=zq.globals.size):¬eM w x:=(h x a).2.1
def kJ.hl (h:kJ k t b cap n C cur x1 x4 c w)(a:Hl t w w')(f:zq.globals.size<t)(l:dJ w' t (aC aD k) (aC aD x1) (aK ⟨(dg k [0]).toArray⟩) (aJ (aA ⟨b,0,aB⟩) n cap) (aC aD x4) c')(m:CS w' C'):kJ k t b cap n C' cur x1 x4 c' w':=
 ⟨h.gW.hl a f h.tr.lt,h.iM.kept a.size λx e=>a.block x (by have:=h.tr.lt;omega) (by omega) λz o i v g hs j=>h.gW.noCell e ⟨z,o,i,v,g,hs,j⟩,l,(a.other h.tr h.rW (by decide) (by decide)).trans h.rW,m⟩
def kJ.below {B:Nat}(h:kJ k t b cap n C cur x1 x4 c w)(a:Below B w w')(e:w.heap.size<=B)(f:zq.globals.size<t):kJ k t b cap n C cur x1 x4 c w':=
 h.hl (.below a e) f (h.tr.below a e) (h.cs.hl (t:=t) (.below a e))
def CS.Uf (h:CS w C)(e:KG all w w'):CS w' C:=λx f=>by obtain⟨z,o,i,v,g,hs,m,l,j⟩:=h x f;obtain⟨q,a⟩:=e.cell _ _ _ _ _ _ _ m;exact⟨z,o,i,v,q,hs,a,e.thaw _ l,j⟩
def kJ.Uf (h:kJ k t b cap n C cur x1 x4 c w)(j:KG all w w')(s:zq.globals.size<t)(a:∀x∈all,eM w x.1):kJ k t b cap n C cur x1 x4 c w':=by have q:∀x,x<=zq.globals.size->w'.heap[x]? =w.heap[x]? :=λx r=>j.block x (by have:=h.tr.lt;omega) λy f e=>h.gW.noCell r (e▸a y f);have l:=j.block t h.tr.lt λy f e=>(a y f).ne h.tr (by decide) e;have m:=j.block b (zAa.1 h.rW).1 λy f e=>(a y f).ne h.rW (by decide) e;exact⟨h.gW.kept q,h.iM.kept j.size q,l.trans h.tr,m.trans h.rW,h.cs.Uf j⟩
def kJ.zh (h:kJ k t b cap n C cur x1 x4 c w)(k1:1<=k)(k2:k<=32)(EG:zq.globals.size<t)(PS:zq.globals.size<b)(a:∀x∈cur.toList,oM C x):rM k t (Il t b C) w:=Yy k1 k2 h.gW h.iM EG PS h.tr h.rW h.cs a
end
open Go Go.RowKit
def rV (S:zY->Prop)(w:zW)(v:zY):Prop:=∀g,v.ownBlock=aA g->∀cs e fr,w.heap[g]? =aA (aI cs e fr)->∀x∈cs.toList,S x
def rV.of {S w v g cs e fr}(d:v.ownBlock=aA g)(f:w.heap[g]? =aA (aI cs e fr))(h:∀x∈cs.toList,S x):rV S w v:=λl c k m j b=>by rw[d]at c;injection c with c;subst c;rw[f]at b;injection b with b;injection b with i;subst i;exact h
def rV.kept {S w w' v}(h:rV S w v)(c:∀g,v.ownBlock=aA g->w'.heap[g]? =w.heap[g]?):rV S w' v:=λg b cs e fr d=>h g b cs e fr (by rw[<-c g b];exact d)
def pT {S:zY->Prop}{z}(h:∀x∈z.toList,S x)(n):∀x∈(Builtin.zeroCells z n).toList,S x:=by
 intro x c;simp only[Builtin.zeroCells,zFq,Array.toList_range,zCg,zBu]at c;obtain⟨i,hi,rfl⟩:=c;have b:0<z.size:=by obtain b|b:=zEt z.size;{rw[b,Nat.mul_zero]at hi;omega};{exact b}
 have bW:=zFt i b;rw[zFv z _ bW];exact h _ (by simp)
section
variable {P:zZ}(w:zW)
def sP (S:zY->Prop)(base)(t ty e)(i:TypeInfo)(z)(size bytes)(O:P.underlying t=aA (.slice e))(hi:P.info? e=aA i)(W:i.zero=aA z)
  (s:i.size=size) (U:i.bytes=bytes) (L:z.cells.size=size) (X:0<size) (M:∀x∈z.cells.toList,S x)
  (v) (n) (xs) (h:w.ownsRow base e size v n xs) (r:rV S w v)
  (a) (m c) (news) (hl:news.length=m*size) (p:∀j u,news[j]? =aA u->w.cell? (a.add j)=aA u) (h1:∀u∈news,u.oneCell'=aE) (D:∀u∈news,S u)
  (hm:0<m) (G:n+m<=maxLen) (q:(n+m)*bytes<=140737488355328) (B:base<=w.heap.size):
  ∃g cap H,(Builtin.append_ #[t,t] ty #[v,aJ (aA a) m c]).run P w= .ok (aJ (aA ⟨g,0,aB⟩) (n+m) cap) H/\H.ownsRow base e size (aJ (aA ⟨g,0,aB⟩) (n+m) cap) (n+m) (xs++news)/\w.grownBy H v.ownBlock/\
   (v.ownBlock=aA g\/g=w.heap.size)/\rV S H (aJ (aA ⟨g,0,aB⟩) (n+m) cap):=by
 subst s;subst U;have I:n+m<=9223372036854775807:=by simp only[maxLen]at G;omega
 have hlen:(xs++news).length=(n+m)*i.size:=by rw[zAi,h.1,hl,aFW]
 have N:∀x∈xs,S x:=by intro x b;obtain⟨_,h0⟩|⟨g,cap,cur,rfl,_,y,_,_,_,f⟩:=h.2;{have:=h.1;rw[h0,zFk]at this;rw[zDl this]at b;cases b};{rw[<-f]at b;exact r g rfl cur e (0,0) y x (zEb b)}
 have grown:∀(old:Nat),old<n+m->∀(row:Option Nat),
   (w.drew.alloc (aI (xs.toArray++news.toArray++Builtin.zeroCells z.cells (grownCap w (n+m) old e-(n+m))) e)).ownsRow base e i.size
    (aJ (aA ⟨w.heap.size,0,aB⟩) (n+m) (grownCap w (n+m) old e)) (n+m) (xs++news)/\
   w.grownBy (w.drew.alloc (aI (xs.toArray++news.toArray++Builtin.zeroCells z.cells (grownCap w (n+m) old e-(n+m))) e)) row/\
   rV S (w.drew.alloc (aI (xs.toArray++news.toArray++Builtin.zeroCells z.cells (grownCap w (n+m) old e-(n+m))) e)) (aJ (aA ⟨w.heap.size,0,aB⟩) (n+m) (grownCap w (n+m) old e)):=by
  intro old ho row
  have R:=grownCap_ge w (n+m) old e
  have A:=grownCap_le_maxLen w (n+m) old e G
  refine⟨⟨hlen,aH ⟨w.heap.size,_,_,rfl,B,zGn w.drew _,R,A,?_,?_⟩⟩,⟨rfl,rfl,rfl,by simp,λk J _=>(by first|exact heap_alloc_old w.drew _ k J|exact heap_alloc_old w.drew _ J)⟩,rV.of rfl (zGn w.drew _) ?_⟩
  .simp only[zEd,zAr,size_zeroCells,L,h.1,hl,<-aFW];congr 1;omega
  .simp only[zFu,zDa];rw[<-zDa,<-hlen];exact List.take_left
  .intro x b;simp only[zFu,zAg]at b;obtain(b|b)|b:=b
   .exact N x b
   .exact D x b
   .exact pT M _ x b
 obtain⟨rfl,rfl⟩|⟨g,cap,cur,rfl,V,y,Y,A,T,f⟩:=h.2
 .have b:=zDl (by simpa using h.1);subst b;have C:=run_append_nil w t ty e i z O hi W a m c news hl p (by omega) (by omega) (by have Z:=q;simp only[zAx]at Z;omega);have d:=grown 0 (by omega) (Value.ownBlock (aJ aB 0 0));simp only[zAx,zCn,zBz]at d⊢;exact⟨_,_,_,C,d.1,d.2.1,aH rfl,d.2.2⟩
 .by_cases l:n+m<=cap
  .have F:n*i.size+news.length<=cur.size:=by{rw[hl,T,<-aFW];exact aFX _ l};have C:=run_append_room w t ty e i O hi g n cap cur y a m c news hl p h1 l F;refine⟨_,_,_,C,⟨hlen,aH ⟨g,cap,_,rfl,V,setRow_heap w g cur _ e _ y,l,A,?_,?_⟩⟩,⟨rfl,rfl,rfl,by simp,λk _ J=>setRow_other w g k _ (λe=>J (by simp[Value.ownBlock,e]))⟩,aG rfl,rV.of rfl (setRow_heap w g cur _ e _ y) ?_⟩;{simp only[zAr,zAi,zBj,zCh,zDm];omega};{rw[f,<-hlen];exact List.take_left}
   .intro x b;simp only[zAg]at b;obtain(b|b)|b:=b
    .exact r g rfl cur e (0,0) y x (zEb b)
    .exact D x b
    .exact r g rfl cur e (0,0) y x (zEn b)
  .have holds:=h.cells rfl;have C:=run_append_grow w t ty e i z O hi W ⟨g,0,aB⟩ n cap xs h.1 holds a m c news hl p (by omega) (by omega) (growslice_fits (by omega) q);have d:=grown cap (by omega) (Value.ownBlock (aJ (aA ⟨g,0,aB⟩) n cap));exact⟨_,_,_,C,d.1,d.2.1,aH rfl,d.2.2⟩
def JO (s ty elem)(i:TypeInfo)(z)(g o n cap)(cur)(t)
  (d:P.underlying s=aA (.slice elem)) (hi:P.info? elem=aA i) (c:i.zero=aA z) (j:0<n)
  (e:w.heap[g]? =aA (aI cur t (0,0))) (h:o+n*z.cells.size<=cur.size) (f:∀v∈z.cells.toList,v.oneCell'=aE):
  (Builtin.clear_ #[s] ty #[aJ (aA ⟨g,o,aB⟩) n cap]).run P w=
   .ok (.tuple #[]) (w.setRow g (cur.toList.take o++(Builtin.zeroCells z.cells n).toList++cur.toList.drop (o+n*z.cells.size)).toArray):=by
 have b:=run_storeCells_at P g o t (Builtin.zeroCells z.cells n).toList 0 cur w e (by simpa [size_zeroCells]using h) (pT f n);obtain⟨m,rfl⟩:∃m,n=m+1:=⟨n-1,by omega⟩;simp[Builtin.clear_,run_underlying d,zeroValue,typeInfo,hi,c,b,size_zeroCells]
end
section
variable {P:zZ}{w:zW}{ops:zQ}{rest:List Oper}{o:Oper}{a:Act}{K:Act->zW->Prop}{Q:zX}{E:Prop}
def JE (s x)(t b)(e:o.op= .call {callee:= .builtin .append,args:= #[s,x],argTypes:= #[t,b]})(v u)(hs:a.eval s=v)(c:a.eval x=u){v' w'}
  (d:(Builtin.append_ #[t,b] o.type #[v,u]).run P w= .ok v' w') (h:K (a.put o.dst v') w'):o.wp P a w K Q:=by
 unfold Oper.wp execOp;simp only[e,resolve,invoke,builtin,Sem.run_bind,Sem.run_pure,aFK,zFf,zDw,List.map_nil,hs,c,d];exact h
def BF (s x)(t b)(e:o.op= .call {callee:= .builtin .copy,args:= #[s,x],argTypes:= #[t,b]})(v u)(hs:a.eval s=v)(c:a.eval x=u){v' w'}
  (d:(Builtin.copy_ #[t,b] o.type #[v,u]).run P w= .ok v' w') (h:K (a.put o.dst v') w'):o.wp P a w K Q:=by
 unfold Oper.wp execOp;simp only[e,resolve,invoke,builtin,Sem.run_bind,Sem.run_pure,aFK,zFf,zDw,List.map_nil,hs,c,d];exact h
def Jr (c:o.guard=aB)(s x:Operand)(t b:zD)(f:o.op= .call {callee:= .builtin .copy,args:= #[s,x],argTypes:= #[t,b]})(v u:zY)(hs:a.eval s=v)(d:a.eval x=u){v':zY}{w':zW}
  (e:(Builtin.copy_ #[t,b] o.type #[v,u]).run P w= .ok v' w') (h:wpList P ops Q rest (a.put o.dst v') w'):wpList P ops Q (o::rest) a w:=
 wpList_plain c λ_ g=>BF s x t b f v u hs d e (g _ _ h)
def jJ (c:o.guard=aB)(s x)(t b)(g:o.op= .call {callee:= .builtin .append,args:= #[s,x],argTypes:= #[t,b]})(v u)(hs:a.eval s=v)(d:a.eval x=u){v' w'}
  (f:(Builtin.append_ #[t,b] o.type #[v,u]).run P w= .ok v' w') (h:K (a.put o.dst v') w'):if Region.wanted o (yielded ops a.tmps)=aE then Oper.wp P o a w K Q else E:=by
 have e:Region.wanted o (yielded ops a.tmps)=aE:=by simp[Region.wanted,c]
 rw[zAq e];exact JE s x t b g v u hs d f h
def Rd (c:o.guard=aB)(s x)(t b)(g:o.op= .call {callee:= .builtin .copy,args:= #[s,x],argTypes:= #[t,b]})(v u)(hs:a.eval s=v)(d:a.eval x=u){v' w'}
  (f:(Builtin.copy_ #[t,b] o.type #[v,u]).run P w= .ok v' w') (h:K (a.put o.dst v') w'):if Region.wanted o (yielded ops a.tmps)=aE then Oper.wp P o a w K Q else E:=by
 have e:Region.wanted o (yielded ops a.tmps)=aE:=by simp[Region.wanted,c]
 rw[zAq e];exact BF s x t b g v u hs d f h
end
def over (c:zV)(o:Nat)(a:zV):zV:=c.take o++a++c.drop (o+a.length)
def mA {c o news}(h:o+news.length<=c.length):(over c o news).length=c.length:=by unfold over;simp only[zAi,zBj,zCh];omega
def Mi {c o news}(h:o+news.length<=c.length){m}(a:m<=o):(over c o news).take m=c.take m:=by unfold over;rw[zDa,zFp (by rw[zBj];omega),List.take_take,aFY a]
def Gp {c o news}(h:o+news.length<=c.length){m}(a:m=o+news.length):(over c o news).take m=c.take o++news:=by unfold over;rw[zFp (by rw[zAi,zBj];omega),zBv (by rw[zAi,zBj];omega)]
def TB {c o news x}(h:x∈over c o news):x∈c\/x∈news:=by
 obtain h|h:=zAg.1 h
 .obtain h|h:=zAg.1 h
  .exact aG (zEb h)
  .exact aH h
 .exact aG (zEn h)
def TC {c xs zs p q m}(h:c.take m=xs)(i:p+q<=m)(j:m<=c.length)(f:zs.length=q):
  (over (over c p (xs.drop (p+q))) (m-q) zs).take (m-q)=xs.take p++xs.drop (p+q):=by
 have b:xs.length=m:=by rw[<-h,zBj];omega
 have a:p+(xs.drop (p+q)).length<=c.length:=by rw[zCh];omega
 have d:m-q+zs.length<=(over c p (xs.drop (p+q))).length:=by rw[mA a];omega
 rw[Mi d (zAb _),Gp a (by rw[zCh];omega)];congr 1;rw[<-h,List.take_take,aFY (by omega)]
def eR (S:zY->Prop)(w:zW)(base:Nat)(e:zD)(size:Nat)(v:zY)(n:Nat)(xs:zV):Prop:=w.ownsRow base e size v n xs/\rV S w v
section
variable {S:zY->Prop}{w w':zW}{base:Nat}{e:zD}{size:Nat}{v:zY}{n g cap:Nat}{xs:zV}
def eR.kept (h:eR S w base e size v n xs)(b:∀g,v.ownBlock=aA g->w'.heap[g]? =w.heap[g]?):eR S w' base e size v n xs:=by
 refine⟨?_,h.2.kept b⟩;obtain⟨⟨d,a⟩,_⟩:=h;refine⟨d,?_⟩;obtain a|⟨g,cap,cur,rfl,hb,c,r⟩:=a
 .exact aG a
 .exact aH ⟨g,cap,cur,rfl,hb,by rw[b g rfl];exact c,r⟩
def eR.lt (h:eR S w base e size v n xs):∀k,v.ownBlock=aA k->base<=k/\k<w.heap.size:=World.ownsRow.lt h.1
def eR.below {B:Nat}(h:eR S w base e size v n xs)(b:Below B w w')(c:w.heap.size<=B):eR S w' base e size v n xs:=
 h.kept λg a=>b.block g (zAc (h.lt g a).2 c)
def eR.alloc (h:eR S w base e size v n xs)(o):eR S (w.alloc o) base e size v n xs:=h.kept λg a=>by first|exact heap_alloc_old w o g (h.lt g a).2|exact heap_alloc_old w o (h.lt g a).2
def eR.row (h:eR S w base e size (aJ (aA ⟨g,0,aB⟩) n cap) n xs):
  ∃c:zA,w.heap[g]? =aA (aI c e (0,0))/\base<=g/\n<=cap/\cap<=maxLen/\c.size=cap*size/\c.toList.take (n*size)=xs/\∀x∈c.toList,S x:=by
 obtain⟨e,_⟩|⟨m,d,c,e,hb,b,k,j,i,f⟩:=h.1.2
 .cases e
 .injection e with a _ l;iterate 2 (injection a with a)
  subst a l;exact⟨c,b,hb,k,j,i,f,h.2 g rfl c _ _ b⟩
def eR.of (cur:zA)(hh:w.heap[g]? =aA (aI cur e (0,0)))(c:base<=g)(b:n<=cap)(f:cap<=maxLen)(a:cur.size=cap*size)(h:cur.toList.take (n*size)=xs)(d:∀x∈cur.toList,S x):
  eR S w base e size (aJ (aA ⟨g,0,aB⟩) n cap) n xs:=
 ⟨⟨by rw[<-h,zBj,zDm,a];exact aFY (aFX _ b),aH ⟨g,cap,cur,rfl,c,hh,b,f,a,h⟩⟩,rV.of rfl hh d⟩
end
def kW (w:zW)(g)(cs):w.grownBy (w.setRow g cs) (aA g):=⟨rfl,rfl,rfl,by simp,λk _ h=>setRow_other w g k _ (λe=>h (by rw[e]))⟩
def xY (w:zW)(row:Option Nat):w.grownBy w row:=⟨rfl,rfl,rfl,zAb _,λ_ _ _=>rfl⟩
def OX (w:zW)(row):w.grownBy w.drew row:=⟨rfl,rfl,rfl,zAb _,λ_ _ _=>rfl⟩
def OU {t z s b}(h:(zq.info? t).map (λi=>(i.zero,i.size,i.bytes))=aA (aA z,s,b)):∃i,zq.info? t=aA i/\i.zero=aA z/\i.size=s/\i.bytes=b:=by
 cases a:zq.info? t with
 |none=>rw[a]at h;cases h
 |some i=>rw[a]at h;simp only[zBe,aE1,aFE]at h;exact⟨i,rfl,h.1,h.2.1,h.2.2⟩
def Dn {S:zY->Prop}{ts e:zD}{it:TypeInfo}{z:zY}(d:zq.underlying ts=aA (.slice e))(ti:zq.info? e=aA it)(Q:it.zero=aA z)(C:it.size=1)(l:z.cells.size=1)(y:∀x,S x->x.oneCell'=aE)(A:∀x∈(Value.cells z).toList,S x)(base g n cap c:Nat)(xs:zV)(w:zW)(J:eR S w base e 1 (aJ (aA ⟨g,0,aB⟩) n cap) n xs)(H:1<=c)(T:c<=n):
  n<=cap/\cap<=maxLen/\∃W k,(∀ty,(Builtin.append_ #[ts,ts] ty #[aJ (aA ⟨g,0,aB⟩) 0 cap,aJ (if cap=c then aA ⟨g,0,aB⟩else aA ⟨g,c,aB⟩) (n-c) (cap-c)]).run zq w.drew= .ok (aJ (aA ⟨g,0,aB⟩) (n-c) cap) W)/\(∀ty,(Builtin.clear_ #[ts] ty #[aJ (aA ⟨g,n-c,aB⟩) c (cap-(n-c))]).run zq W= .ok (.tuple #[]) k)/\
   eR S k base e 1 (aJ (aA ⟨g,0,aB⟩) (n-c) cap) (n-c) (xs.drop c)/\w.grownBy k (aA g):=by
 obtain⟨b,F,U,O,N,M,B,L⟩:=J.row;have E:xs.length=n:=by have:=J.1.1;rw[zDv]at this;exact this
 rw[zDv]at M B;have i:b.toList.length=cap:=by rw[zDm,M]
 have t:∀x∈xs,S x:=λx f=>L x (zEb (by rw[B];exact f));have K:(xs.drop c).length=n-c:=by rw[zCh,E]
 have h:0+(xs.drop c).length<=b.toList.length:=by rw[K,i];omega
 obtain⟨W,s⟩:∃W,W=w.drew.setRow g (over b.toList 0 (xs.drop c)).toArray:=⟨_,rfl⟩;have v:W.heap[g]? =aA (aI (over b.toList 0 (xs.drop c)).toArray e (0,0)):=by rw[s];exact setRow_heap w.drew g b _ e _ F
 have R:∀ty,(Builtin.append_ #[ts,ts] ty #[aJ (aA ⟨g,0,aB⟩) 0 cap,aJ (if cap=c then aA ⟨g,0,aB⟩else aA ⟨g,c,aB⟩) (n-c) (cap-c)]).run zq w.drew= .ok (aJ (aA ⟨g,0,aB⟩) (n-c) cap) W:=λty=>by
  rw[s];have:=λa c' V=>run_append_room (P:=zq) w.drew ts ty e it d ti g 0 cap b F a (n-c) c' (xs.drop c) (by rw[K,C,zDv]) V (λu d=>y u (t u (zEn d))) (by omega) (by rw[zFk,<-zDm];exact h);rw[zFk,zAx]at this;by_cases I:cap=c;{rw[zAq I];refine this _ _ λj u d=> ?_;have:=(zAu.1 d).1;omega}
  .rw[zAn I];refine this _ _ λj u d=> ?_;rw[Addr.add_lit,zGv w.drew g _ b e (0,0) F,<-zBp];rw[zEu,<-B,zCs]at d;split at d
   .exact d
   .cases d
 obtain⟨k,r⟩:∃k,k=W.setRow g (over (over b.toList 0 (xs.drop c)) (n-c) (Builtin.zeroCells (Value.cells z) c).toList).toArray:=⟨_,rfl⟩;have o:(Builtin.zeroCells (Value.cells z) c).toList.length=c:=by rw[zDm,size_zeroCells,l,zDv]
 have G:∀ty,(Builtin.clear_ #[ts] ty #[aJ (aA ⟨g,n-c,aB⟩) c (cap-(n-c))]).run zq W= .ok (.tuple #[]) k:=λty=>by
  have:=JO (P:=zq) W ts ty e it z g (n-c) c (cap-(n-c)) _ e d ti Q H v (by rw[l,zDv,zAr,mA h,i];omega) (λu d=>y u (A u d))
  rw[this,r];congr 2;show(List.take (n-c) _++_++_).toArray=_;unfold over;rw[o,l,zDv]
 have D:n-c+(Builtin.zeroCells (Value.cells z) c).toList.length<=(over b.toList 0 (xs.drop c)).length:=by rw[mA h,i,o];omega
 refine⟨O,N,W,k,R,G,eR.of _ (by rw[r];exact setRow_heap W g _ _ e _ v) U (by omega) N ?_ ?_ ?_,?_⟩
 .rw[zAr,mA D,mA h,i,zDv]
 .have:=TC (c:=b.toList) (xs:=xs) (zs:=(Builtin.zeroCells (Value.cells z) c).toList) (p:=0) (q:=c) (m:=n) B (by omega) (by rw[i];exact O) o;rw[zDv];simpa using this
 .intro x f;obtain f|f:=TB f
  .obtain f|f:=TB f
   .exact L x f
   .exact t x (zEn f)
  .exact pT A c x f
 .rw[r,s];exact((OX w (aA g)).trans (kW _ _ _)).trans (kW _ _ _)
def Pd {S:zY->Prop}(a:∀x,S x->x.oneCell'=aE)(d:∀x∈(Value.cells (aK ⟨#[]⟩)).toList,S x)(base g n cap c:Nat)(xs:zV)(w:zW)(i:eR S w base 9 1 (aJ (aA ⟨g,0,aB⟩) n cap) n xs)(I:n<=1000000)(m:c<=n):
  Calls zq 65 #[aJ (aA ⟨g,0,aB⟩) n cap,aC aD 0,aC aD c] w λe p=>e=aL (aJ (aA ⟨g,0,aB⟩) (n-c) cap)/\eR S p base 9 1 (aJ (aA ⟨g,0,aB⟩) (n-c) cap) (n-c) (xs.drop c)/\w.grownBy p (aA g):=by
 obtain⟨G,r,_,J,F,_⟩:=i.row;have i2:(n:Int)<=(cap:Int):=by omega
 have i3:(cap:Int)<=9223372036854775807:=by simp only[maxLen]at F;omega
 have C:(0:Int)<=(c:Int):=by omega
 have B:(c:Int)<=(n:Int):=by omega
 by_cases E:c=0
 .subst E;have k:Hid (eR S w base 9 1 (aJ (aA ⟨g,0,aB⟩) n cap) n xs):=i;clear i a d r;go_enter (Qz.fn func65),ntmps65;go_wp2;go_ret;exact⟨rfl,k.out,xY w _⟩
 .obtain⟨it,ti,q,f,l⟩:=OU (t:=9) (z:=(aK ⟨#[]⟩)) (s:=1) (b:=16) (by kernel_rfl);obtain⟨_,_,K,W,y,D,j,H⟩:=Dn ((Qz.eO 82).trans underlying82) ti q f rfl a d base g n cap c xs w i (by omega) m;have k:Hid (eR S W base 9 1 (aJ (aA ⟨g,0,aB⟩) (n-c) cap) (n-c) (xs.drop c)):=j;have v:Hid (w.grownBy W (aA g)):=H;have A:c<=cap:=by{omega};have o:¬((0:Int)=(c:Int)):=by{omega};have u:((0:Int)==(c:Int))=aF:=by{simpa using o};have i5:n-(n-c)=c:=by{omega};have i6:¬(cap=n-c):=by{omega};have i7:(0:Int)<=((n-c:Nat):Int):=by{omega};have i8:((n-c:Nat):Int)<=(n:Int):=by{omega};have i9:((n-c:Nat):Int).toNat=n-c:=by{omega};clear i a d q f l ti j H r;go_enter (Qz.fn func65),ntmps65;go_wp2_with fail;go_region_law (refine jJ rfl _ _ 82 82 rfl _ _ (by simp[Act.eval,Act.put]) (by simp[Act.eval,Act.put]) (y _) ?_);go_wp2;{rename_i h;subst h;go_ret;exact⟨rfl,k.out,v.out⟩};{go_ret;exact⟨rfl,k.out,v.out⟩}
def Pe {S:zY->Prop}(a:∀x,S x->x.oneCell'=aE)(d:∀x∈(Value.cells (.pointer aB)).toList,S x)(base g n cap c:Nat)(xs:zV)(w:zW)(i:eR S w base 264 1 (aJ (aA ⟨g,0,aB⟩) n cap) n xs)(I:n<=1000000)(m:c<=n):
  Calls zq 220 #[aJ (aA ⟨g,0,aB⟩) n cap,aC aD 0,aC aD c] w λe p=>e=aL (aJ (aA ⟨g,0,aB⟩) (n-c) cap)/\eR S p base 264 1 (aJ (aA ⟨g,0,aB⟩) (n-c) cap) (n-c) (xs.drop c)/\w.grownBy p (aA g):=by
 obtain⟨G,r,_,J,F,_⟩:=i.row;have i2:(n:Int)<=(cap:Int):=by omega
 have i3:(cap:Int)<=9223372036854775807:=by simp only[maxLen]at F;omega
 have C:(0:Int)<=(c:Int):=by omega
 have B:(c:Int)<=(n:Int):=by omega
 by_cases E:c=0
 .subst E;have k:Hid (eR S w base 264 1 (aJ (aA ⟨g,0,aB⟩) n cap) n xs):=i;clear i a d r;go_enter (Qz.fn func220),ntmps220;go_wp2;go_ret;exact⟨rfl,k.out,xY w _⟩
 .obtain⟨it,ti,q,f,l⟩:=OU (t:=264) (z:=(.pointer aB)) (s:=1) (b:=8) (by kernel_rfl);obtain⟨_,_,K,W,y,D,j,H⟩:=Dn ((Qz.eO 166).trans underlying166) ti q f rfl a d base g n cap c xs w i (by omega) m;have k:Hid (eR S W base 264 1 (aJ (aA ⟨g,0,aB⟩) (n-c) cap) (n-c) (xs.drop c)):=j;have v:Hid (w.grownBy W (aA g)):=H;have A:c<=cap:=by{omega};have o:¬((0:Int)=(c:Int)):=by{omega};have u:((0:Int)==(c:Int))=aF:=by{simpa using o};have i5:n-(n-c)=c:=by{omega};have i6:¬(cap=n-c):=by{omega};have i7:(0:Int)<=((n-c:Nat):Int):=by{omega};have i8:((n-c:Nat):Int)<=(n:Int):=by{omega};have i9:((n-c:Nat):Int).toNat=n-c:=by{omega};clear i a d q f l ti j H r;go_enter (Qz.fn func220),ntmps220;go_wp2_with fail;go_region_law (refine jJ rfl _ _ 166 166 rfl _ _ (by simp[Act.eval,Act.put]) (by simp[Act.eval,Act.put]) (y _) ?_);go_wp2;{rename_i h;subst h;go_ret;exact⟨rfl,k.out,v.out⟩};{go_ret;exact⟨rfl,k.out,v.out⟩}
def jD (w:zW)(t b:Nat):zP:=λx=>x=t\/x=b\/eM w x
section
variable {w w1 w':zW}{t k room b cap n:Nat}{S:List (List bS)}{C C':zP}{cur:zA}{x1 x4 c:Int}{p:Option Nat}{all:List (Nat×ByteArray)}{F:zP}
def dN.hl (h:Hl t w w'):dN (jD w t b) w w':=⟨h.os,h.tape,h.output,h.size,λx d a=>h.block x d (λe=>a (aG e)) λz o i v g f j=>a (aH (aH ⟨z,o,i,v,g,f,j⟩))⟩
def dN.Uf (h:KG all w w')(a:∀x∈all,eM w x.1):dN (jD w t b) w w':=⟨h.os,h.tape,h.output,h.size,λx f g=>h.block x f λy d e=>g (aH (aH (e▸a y d)))⟩
def dN.step {b'}(h:dN (jD w t b) w w1)(g:dN (jD w1 t b') w1 w')(d:b'=b\/w.heap.size<=b'):dN (jD w t b) w w':=h.then g λx a bW f e=>by
 obtain a|a|a:=a
 .exact f (aG a)
 .obtain d|d:=d
  .exact f (aH (aG (a.trans d)))
  .omega
 .exact f (aH (aH (a.same e.symm)))
def Me {x}(h:oM C x):x.oneCell'=aE:=by obtain⟨p,rfl,_⟩:=h;cases p<;>rfl
def LD:∀x∈(Value.cells (.pointer aB)).toList,oM C x:=λx h=>by simp[Value.cells]at h;subst h;exact⟨aB,rfl,λb e=>by cases e⟩
def Eo (v:w.heap[b]? =aA (aI cur 264 (0,0)))(G:n<=cap)(g:cap<=maxLen)(D:cur.size=cap)(h:∀x∈cur.toList,oM C x)(hl:n<1000)(E:∀b,p=aA b->C b){vb}(B:w.heap[vb]? =aA (aI #[ptr p] 264 (0,0))):
  ∃f a W d,(∀ty,(Builtin.append_ #[166,166] ty #[aJ (aA ⟨b,0,aB⟩) n cap,aJ (aA ⟨vb,0,aB⟩) 1 1]).run zq w= .ok (aJ (aA ⟨f,0,aB⟩) (n+1) a) W)/\w.grownBy W (aA b)/\(f=b\/f=w.heap.size)/\
   W.heap[f]? =aA (aI d 264 (0,0))/\n+1<=a/\a<=maxLen/\d.size=a/\(∀x∈d.toList,oM C x)/\d.toList.take (n+1)=cur.toList.take n++[ptr p]:=by
 obtain⟨it,ti,A,i,l⟩:=SR;have y:eR (oM C) w b 264 1 (aJ (aA ⟨b,0,aB⟩) n cap) n (cur.toList.take n):=by have:=eR.of cur v (zAb _) G g (size:=1) (by omega) (by rw[zDv]) h;exact this
 have s:=(zAa.1 v).1;have H:=λty=>sP w (oM C) b 166 ty 264 it _ 1 8 ((Qz.eO 166).trans underlying166) ti A i l rfl (by omega) LD _ n _ y.1 y.2 ⟨vb,0,aB⟩ 1 1 [ptr p] rfl (λj u I=>by rw[addr_add,zAx,zGv w vb j _ 264 (0,0) B];simpa using I) (λu m=>by rw[zAm.1 m];cases p<;>rfl) (λu m=>by rw[zAm.1 m];exact⟨p,rfl,E⟩) (Nat.succ_pos _) (by simp only[maxLen];omega) (by omega) (by omega)
 obtain⟨f,a,W,M,L,r,q,J⟩:=H 0;have K:=r;have o:eR (oM C) W b 264 1 (aJ (aA ⟨f,0,aB⟩) (n+1) a) (n+1) (cur.toList.take n++[ptr p]):=⟨L,J⟩;obtain⟨d,Q,T,P,O,R,z,N⟩:=o.row;refine⟨f,a,W,d,λty=>M,K,?_,Q,P,O,by omega,N,by rw[zDv]at z;exact z⟩;obtain e|e:=q
 .exact aG (zAk e).symm
 .exact aH e
def QM (k:Nat)(w:zW)(cur:zA)(S:List (List bS)):Prop:=∀(i:Nat) us,S[i]? =aA us->∃p,cur[i]? =aA (ptr p)/\eL k w p us 0
def OI {cur:zA}(a:∀x∈cur.toList,oM C x){i:Nat}{p}(h:cur[i]? =aA (ptr p)):∀b,p=aA b->C b:=λb g=>by
 obtain⟨d,e,f⟩:=a _ (by rw[zDt];exact zBf h);subst g;cases d with
 |none=>cases e
 |some j=>cases e;exact f _ rfl
def QM.hl (e:1<=k)(a:k<=32)(h:QM k w cur S)(d:Hl t w w'):QM k w' cur S:=λi us hi=>by obtain⟨p,g,f⟩:=h i us hi;exact⟨p,g,f.hl e a d⟩
def QM.kept (h:QM k w cur S)(f:CS w C)(a:∀x∈cur.toList,oM C x)(d:∀x,C x->w'.heap[x]? =w.heap[x]?):QM k w' cur S:=λi us hi=>by obtain⟨p,e,g⟩:=h i us hi;exact⟨p,e,g.kept f (OI a e) d⟩
def Kk {a us}(h:QM k w cur S)(hl:S.length<=cur.size)(g:a.toList.take (S.length+1)=cur.toList.take S.length++[ptr p])(l:eL k w p us 0):QM k w a (S++[us]):=λi u hi=>by
 have d:∀(j:Nat),j<S.length+1->a[j]? =(cur.toList.take S.length++[ptr p])[j]? :=λj o=>by rw[<-g,zCs,zAq (by omega),zBp]
 have f:(cur.toList.take S.length).length=S.length:=by rw[zBj,show cur.toList.length=cur.size from zDm ..];omega
 by_cases e:i<S.length
 .rw[zCz e]at hi;obtain⟨q,d1,m⟩:=h i u hi;refine⟨q,?_,m⟩;rw[d i (by omega),zCz (by omega),zCs,zAq e,zBp];exact d1
 .have bW:=(zAu.1 hi).1;rw[zAi]at bW;simp only[List.length_singleton]at bW;obtain rfl:i=S.length:=by{omega};rw[zCu (zAb _),aFZ]at hi;simp only[zCw,aE1]at hi;subst hi;refine⟨p,?_,l⟩;rw[d _ (by omega),zCu (by omega),f,aFZ];rfl
def dA.mem (h:dA w t k room b cap S):∃C cur R c,kJ k t b cap S.length C cur (R:Nat) (oY S).length c w/\(∀x∈cur.toList,oM C x)/\QM k w cur S/\S.length<=cap/\cap<=maxLen/\cur.size=cap/\c+room<=R/\R<=1000000/\-(1000000*((R)-room))<=c:=by obtain⟨C,cur,c1,c2,c3,c4,c5,c6,a⟩:=h.row;obtain⟨R,c,d1,d,d3,d4⟩:=h.at';exact⟨C,cur,R,c,⟨h.gW,h.iM,d1,c1,c5⟩,c6,a,c2,c3,c4,d,d3,d4⟩
def kJ.JY {R:Nat}(h:kJ k t b cap S.length C cur (R:Nat) (oY S).length c w)(a:∀x∈cur.toList,oM C x)(f:QM k w cur S)(hl:S.length<=cap)(d:cap<=maxLen)(e:cur.size=cap)(g:c+room<=R)(d3:R<=1000000)(d4: -(1000000*((R:Int)-room))<=c)(k1:1<=k)(k2:k<=32)(EG:zq.globals.size<t)(PS:zq.globals.size<b)(st:∀us∈S,JC us/\us.length<=400)(len:S.length<=1000)(one:0<S.length):dA w t k room b cap S:=
 ⟨k1,k2,h.gW,h.iM,EG,PS,⟨R,c,h.tr,g,d3,d4⟩,⟨C,cur,h.rW,hl,d,e,h.cs,a,f⟩,st,len,one⟩
def kJ.CO {b' cap' n' i W}(h:kJ k t b cap n C cur x1 x4 c w)(D:zq.globals.size<t)(E:zq.globals.size<b)(j:w.grownBy W (aA b))(q:W.heap[b']? =aA (aI i 264 (0,0))):
  kJ k t b' cap' n' C i x1 x4 c (W.setCell ⟨t,3,aB⟩ (aJ (aA ⟨b',0,aB⟩) n' cap'))/\(∀x,eM w x->(W.setCell ⟨t,3,aB⟩ (aJ (aA ⟨b',0,aB⟩) n' cap')).heap[x]? =w.heap[x]?)/\dN (jD w t b) w (W.setCell ⟨t,3,aB⟩ (aJ (aA ⟨b',0,aB⟩) n' cap')):=by
 have r:=h.tr.lt;have s:t≠b:=λe=>by have l:=h.rW;have A:=h.tr;rw[<-e,A]at l;injection l with l;injection l with _ z;revert z;decide
 have y:=(j.block t r (λe=>s (zAk e))).trans h.tr;have u:b'≠t:=λe=>by rw[e,y]at q;injection q with q;injection q with _ z;revert z;decide
 obtain⟨V,g⟩:∃V,V=W.setCell ⟨t,3,aB⟩ (aJ (aA ⟨b',0,aB⟩) n' cap'):=⟨_,rfl⟩;have m:V.heap.size=W.heap.size:=by rw[g];simp[World.setCell]
 have d:∀x,x<w.heap.size->x≠b->x≠t->V.heap[x]? =w.heap[x]? :=λx f l A=>by rw[g,zGh _ _ _ _ A];exact j.block x f (λe=>l (zAk e))
 have a:∀x,eM w x->V.heap[x]? =w.heap[x]? :=λx f=>d x f.lt (f.ne h.rW (by decide)) (f.ne h.tr (by decide));have o:∀x,x<=zq.globals.size->V.heap[x]? =w.heap[x]? :=λx f=>d x (by omega) (by omega) (by omega);have v:dJ V t (aC aD k) (aC aD x1) (aK ⟨(dg k [0]).toArray⟩) (aJ (aA ⟨b',0,aB⟩) n' cap') (aC aD x4) c:=by rw[g];unfold dJ at y⊢;rw[eF y 3];rfl
 rw[<-g];refine⟨⟨h.gW.kept o,h.iM.kept (by rw[m];exact j.size) o,v,by rw[g,zGh _ _ _ _ u];exact q,h.cs.kept λx f=>a x (h.cs.cell f)⟩,a,?_⟩;refine⟨?_,?_,?_,by rw[m];exact j.size,λx f B=>d x f (λe=>B (aH (aG e))) (λe=>B (aG e))⟩
 .rw[g];exact j.os
 .rw[g];exact j.tape
 .rw[g];exact j.output
def kJ.sized (h:kJ k t b cap n C cur x1 x4 c w)(y:zq.globals.size<t)(a):
  kJ k t b cap n C cur x1 a c (w.setCell ⟨t,4,aB⟩ (aC aD a))/\(∀x,eM w x->(w.setCell ⟨t,4,aB⟩ (aC aD a)).heap[x]? =w.heap[x]?)/\dN (jD w t b) w (w.setCell ⟨t,4,aB⟩ (aC aD a)):=by
 have s:=h.tr.lt;have d:∀x,x≠t->(w.setCell ⟨t,4,aB⟩ (aC aD a)).heap[x]? =w.heap[x]? :=λx q=>zGh _ _ _ _ q;have g:(w.setCell ⟨t,4,aB⟩ (aC aD a)).heap.size=w.heap.size:=by simp[World.setCell]
 have f:∀x,eM w x->(w.setCell ⟨t,4,aB⟩ (aC aD a)).heap[x]? =w.heap[x]? :=λx j=>d x (j.ne h.tr (by decide));have i:∀x,x<=zq.globals.size->(w.setCell ⟨t,4,aB⟩ (aC aD a)).heap[x]? =w.heap[x]? :=λx j=>d x (by omega);have o:dJ (w.setCell ⟨t,4,aB⟩ (aC aD a)) t (aC aD k) (aC aD x1) (aK ⟨(dg k [0]).toArray⟩) (aJ (aA ⟨b,0,aB⟩) n cap) (aC aD a) c:=by have r:=h.tr;unfold dJ at r⊢;rw[eF r 4];rfl
 have m:b≠t:=λe=>by have l:=h.rW;have q:=h.tr;rw[e,q]at l;injection l with l;injection l with _ v;revert v;decide
 exact⟨⟨h.gW.kept i,h.iM.kept (by rw[g];exact zAb _) i,o,(d b m).trans h.rW,h.cs.kept λx j=>f x (h.cs.cell j)⟩,f,⟨rfl,rfl,rfl,by rw[g];exact zAb _,λx _ u=>d x λe=>u (aG e)⟩⟩
def GF (S)(us):oY (S++[us])=us:=by unfold oY;rw[List.getLast?_concat];rfl
end
section
variable {w:zW}{t k room b cap n:Nat}{S:List (List bS)}
def ZZ (h:dA w t k (room+n) b cap S)(hS:n<S.length):
  Calls zq 214 #[aN (aA ⟨t,0,aB⟩),aC aD n] w λe o=>e=aL (.tuple #[])/\dA o t k room b cap (S.drop n)/\dN (jD w t b) w o:=by
 obtain⟨C,d,R,c,hM,f,D,g1,g2,g3,g4,g5,g6⟩:=h.mem;have h1:=h.k1;have hk:=h.k2;have T:=h.EG;have hb:=h.PS;have hlen:=h.len;have s:=h.st;have Q:t≠b:=h.tb;have N:Hid (∀W c' (j:Nat),kJ k t b cap S.length C d R (oY S).length c' W->QM k W d S->dN (jD w t b) w W->c-102800*(j:Int)<=c'->c'<=c->j<n->∃O,W.cell? ⟨b,j,aB⟩=aA O/\W.cell? ⟨t,3,aB⟩=aA (aJ (aA ⟨b,0,aB⟩) S.length cap)/\Calls zq 219 #[aN (aA ⟨t,0,aB⟩),O] W λe o=>e=aL (.tuple #[])/\∃c2,kJ k t b cap S.length C d R (oY S).length c2 o/\QM k o d S/\dN (jD w t b) w o/\c-102800*((j+1:Nat):Int)<=c2/\c2<=c):=λW c' j a l r l1 l2 hj=>by obtain⟨us,z⟩:∃us,S[j]? =aA us:=⟨_,zAf (by omega)⟩;obtain⟨p,B,hr⟩:=l j us z;obtain⟨m,hm,U⟩:=hr.UN a.cs (OI f B) (zBr _);have hu:=(s us (zDb z)).2;have kp:m<=102800:=by{have:m<=257*us.length:=U;omega};refine⟨ptr p,by rw[aZ a.rW];exact B,(aZ a.tr 3).trans rfl,(LZ hm W _ _ _ _ _ c' .refl a.tr (by omega) (by omega)).1.mono λe o ⟨e1,L,c2,hT',k1,k2⟩=>⟨e1,c2,a.hl L T hT' (a.cs.hl L),l.hl h1 hk L,r.step (.hl L) (aG rfl),by omega,by omega⟩⟩
 have J:Hid (∀W c',kJ k t b cap S.length C d R (oY S).length c' W->QM k W d S->dN (jD w t b) w W->c-102800*(n:Int)<=c'->c'<=c->W.cell? ⟨t,3,aB⟩=aA (aJ (aA ⟨b,0,aB⟩) S.length cap)/\Calls zq 220 #[aJ (aA ⟨b,0,aB⟩) S.length cap,aC aD 0,aC aD n] W λe I=>e=aL (aJ (aA ⟨b,0,aB⟩) (S.length-n) cap)/\(∃x,I.cell? ⟨t,3,aB⟩=aA x)/\I.frozen? ⟨t,3,aB⟩=aF/\dA (I.setCell ⟨t,3,aB⟩ (aJ (aA ⟨b,0,aB⟩) (S.length-n) cap)) t k room b cap (S.drop n)/\dN (jD w t b) w (I.setCell ⟨t,3,aB⟩ (aJ (aA ⟨b,0,aB⟩) (S.length-n) cap))):=λW c' a l r l1 l2=>by
  refine⟨(aZ a.tr 3).trans rfl,?_⟩;have hO:eR (oM C) W b 264 1 (aJ (aA ⟨b,0,aB⟩) S.length cap) S.length (d.toList.take S.length):=by have:=eR.of (S:=oM C) (n:=S.length) d a.rW (zAb _) g1 g2 (size:=1) (by omega) (by rw[zDv]) f;exact this
  refine(Pe (S:=oM C) (λx P=>Me P) LD b b S.length cap n _ W hO (by omega) (by omega)).mono ?_;rintro e I ⟨rfl,h2,h3⟩;obtain⟨g,e1,e2,e3,e4,e5,e6,e7⟩:=eR.row h2;obtain⟨yv,y,A⟩:=a.CO (cap':=cap) (n':=S.length-n) T hb h3 e1;have E:=(h3.block t a.tr.lt (λe=>Q (zAk e))).trans a.tr;have Y:(S.drop n).length=S.length-n:=zCh ..;have V:oY (S.drop n)=oY S:=by unfold oY;rw[List.getLast?_drop,zAn (by omega)]
  refine⟨rfl,⟨_,(aZ E 3).trans rfl⟩,cW E 3,kJ.JY (R:=R) (C:=C) (cur:=g) (c:=c') (by rw[Y,V];exact yv) e7 (λi u hi=> ?_) (by omega) g2 (by omega) (by omega) g5 (by omega) h1 hk T hb (λu hu=>s u (zEn hu)) (by omega) (by omega),r.step A (aG rfl)⟩;rw[zEu]at hi;have bW:=(zAu.1 hi).1;obtain⟨q,d1,d2⟩:=l (n+i) u hi;refine⟨q,?_,d2.kept a.cs (OI f d1) λx P=>y x (a.cs.cell P)⟩;have v:g[i]? =(g.toList.take ((S.length-n)*1))[i]? :=by{rw[zCs,zAq (by omega),zBp]};rw[v,e6,zEu,zCs,zAq bW,zBp];exact d1
 have c3:w.cell? ⟨t,3,aB⟩=aA (aJ (aA ⟨b,0,aB⟩) S.length cap):=(aZ hM.tr 3).trans rfl;have HM:Hid (kJ k t b cap S.length C d R (oY S).length c w):=hM;have HTS:Hid (QM k w d S):=D;obtain⟨S',G⟩:∃S',S'=S.drop n:=⟨_,rfl⟩;rw[<-G]at J⊢;have dH:n<=cap:=by omega
 have Z:(n:Int)<=(cap:Int):=by omega
 have xo:(0:Int)<=(n:Int):=by omega
 have km:n<=1000:=by omega
 obtain⟨LU,H⟩:∃LU:Int,LU=((oY S).length:Int):=⟨_,rfl⟩;rw[<-H]at N J HM;clear G hM f h H s D;generalize S.length=ns at*;go_enter (Qz.fn func214),ntmps214;go_wp2_with fail;go_loopg [13] n (λq i wr=>∃(j:Nat)(c':Int),j+q=n/\i=aC aD (j:Int)/\kJ k t b cap ns C d R LU c' wr/\QM k wr d S/\dN (jD w t b) w wr/\c-102800*(j:Int)<=c'/\c'<=c);case atStart=>exact⟨0,c,by omega,rfl,HM.out,HTS.out,.refl _ _,by omega,by omega⟩
 case round=>
  obtain⟨j,c',hj,rfl,M,a2,a3,a4,a5⟩:=hrel
  by_cases bW:j<n
  .obtain⟨O,d1,t3,K⟩:=N.out wr c' j M a2 a3 a4 a5 bW;have Np:¬((j:Int)<0):=by{omega};have X:(j:Int)<(n:Int):=by{omega};clear N J M a2 a3 t3;go_wp2_with fail;refine K.mono ?_;clear K;rintro e w1 ⟨rfl,c2,b1,b2,b3,b4,b5⟩;go_wp2;go_roundg (n-(j+1));case measure=>omega
   case rel=>go_light;exact⟨j+1,c2,by omega,by go_num,b1,b2,b3,b4,b5⟩
  .obtain rfl:j=n:=by{omega};have X:¬((j:Int)<(j:Int)):=by{omega};obtain⟨t3,K⟩:=J.out wr c' M a2 a3 a4 a5;clear J M a2 a3 N;go_wp2_with fail;refine K.mono ?_;clear K t3;rintro e w2 ⟨rfl,⟨x,t3⟩,f3,hE,F⟩;have HE:Hid (dA (w2.setCell ⟨t,3,aB⟩ (aJ (aA ⟨b,0,aB⟩) (ns-j) cap)) t k room b cap S'):=hE;have HSv:Hid (dN (jD w t b) w (w2.setCell ⟨t,3,aB⟩ (aJ (aA ⟨b,0,aB⟩) (ns-j) cap))):=F;clear hE F;go_wp2;go_end0;exact⟨rfl,HE.out,HSv.out⟩
def SN (h:dA w t k room b cap S){i:Nat}{us}(hi:S[i]? =aA us):
  Calls zq 217 #[aN (aA ⟨t,0,aB⟩),aC aD i] w (RF λx j=>x=aK ⟨(jE k (bC us) 0).toArray⟩/\zb w j):=by
 obtain⟨C,r,R,c,a,g,f,y,u,s,g4,g5,g6⟩:=h.mem;obtain⟨p,d,l⟩:=f i us hi;have H:=hid (vQ ⟨a.tr.lt,(aZ a.tr 0).trans rfl,(aZ a.tr 2).trans rfl⟩ l);have c3:=(aZ a.tr 3).trans rfl;have d1:w.cell? ⟨b,i,aB⟩=aA (ptr p):=by rw[aZ a.rW];exact d
 have m:=(zAu.1 hi).1;have q:¬((i:Int)<0):=by omega
 have o:(i:Int)<(S.length:Int):=by omega
 generalize ptr p=v at*;generalize S.length=n at*;go_enter (Qz.fn func217),ntmps217;go_wp2_with fail;refine H.out.mono ?_;rintro e w1 ⟨rfl,rfl⟩;go_wp2;go_ret;exact .of ⟨rfl,zGe _ _⟩
end
section
variable {w:zW}{b:Nat}{z o:Option Nat}{i v g:zB}{hs:Int}{us us0 us1:List bS}{k d:Nat}{p:Option Nat}
end
section
variable {w:zW}{t k room b cap:Nat}{S:List (List bS)}
end
open Go
@[simp]theorem mq:zq.stoodInHeld 76=aF:=by kernel_rfl
@[simp]theorem sq:zq.eqGuardType zq.depth 76=aF:=by kernel_rfl
@[simp]theorem mr:zq.stoodInHeld 53=aF:=by kernel_rfl
@[simp]theorem sr:zq.eqGuardType zq.depth 53=aF:=by kernel_rfl
def BB (w:zW)(v:zO)(S:zLL):Prop:=0<S.length->∃g o,v=aA ⟨g,o,aB⟩/\g<w.heap.size/\∀i x,S[i]? =aA x->w.cell? ⟨g,o+i,aB⟩=aA (aK ⟨x.toArray⟩)
def BB.below {w w' B v S}(h:BB w v S)(b:Below B w w')(f:w.heap.size<=B):BB w' v S:=λj=>by obtain⟨g,o,e,a,d⟩:=h j;refine⟨g,o,e,zAc a b.size,λi x c=> ?_⟩;rw[b.cell (p:=⟨g,o+i,aB⟩) (zAc a f)];exact d i x c
def Bs (D:zB):∀S:zLL,(∀x∈S,x.length<=32)->(lA D S).length<=32*S.length
 |[],_=>zAb _
 |x::S,h=>by have i:=Bs D S λy a=>h y (zBh _ a);have b:=h x (zBk ..);rw[lA,zAi,zAh];split;{simp only[zBb];omega};{omega}
def vA (k d:Nat):zB:=[aFF k,aFF (d/256),aFF (d%256)]
def jT (D:zB)(k:Nat)(S:zLL)(X:zB):zB:=vA k S.length++(gM D S S.length++(lA D S++X))
def tP (w:zW)(base:Nat)(v:zY)(l:zB):Prop:=w.ownsRow base 5 1 v l.length (iC l).toList
def wrote (D:zB)(k:Nat)(S:zLL)(t:Nat):zB:=vA k S.length++(gM D S t++lA D (S.take t))
def Ef (D)(kd)(S)(t):(wrote D kd S t).length=3+(S.length+7)/8+(lA D (S.take t)).length:=by unfold wrote vA;simp only[zAi,sX,zAh,zBb];omega
def WV (D)(kd)(S)(t)(a:t<S.length)(h:S[t]=D):wrote D kd S (t+1)=wrote D kd S t:=by
 have b:S.getD t []=D:=by rw[zBo,zAf a];exact h
 unfold wrote;rw[gM,zAq b,zCp a,wE,h];simp[lA]
def WW (D)(kd)(S)(t)(a:t<S.length)(h:S[t]≠D):
  wrote D kd S (t+1)=(wrote D kd S t).set (3+t/8) (oV ((wrote D kd S t).getD (3+t/8) 0) (t%8))++S[t]:=by
 have c:¬S.getD t []=D:=by rw[zBo,zAf a];exact h
 have hl:=sX D S t;have d:(wrote D kd S t).getD (3+t/8) 0=(gM D S t).getD (t/8) 0:=by unfold wrote vA;rw[zBo,zCu (by simp),zCz (by simp;omega),zBo];simp
 rw[d];unfold wrote;rw[gM,zAn c,zCp a,wE];have e:∀b,(vA kd S.length++(gM D S t++lA D (S.take t))).set (3+t/8) b=vA kd S.length++((gM D S t).set (t/8) b++lA D (S.take t)):=λb=>by rw[List.set_append_right _ _ (by simp[vA]),List.set_append_left _ _ (by simp[vA];omega)];simp[vA]
 rw[e];simp[lA,h,zDa]
def Ep (D)(S:zLL)(t)(h:∀x∈S,x.length<=32):(lA D (S.take t)).length<=32*S.length:=by
 have c:=Bs D (S.take t) λx a=>h x (zEb a);have b:(S.take t).length<=S.length:=by rw[zBj];omega
 have:=aFO 32 b;omega
def Xl (x:UInt8)(r)(h:r<8):bits .or aP (x.toNat:Int) (128/2^r)=((oV x r).toNat:Int):=by
 have H:∀x:Fin 256,∀r:Fin 8,bits .or aP (x.val:Int) (128/2^r.val)=(((x.val|||128/2^r.val)%256:Nat):Int):=by decide+kernel
 have:=H ⟨x.toNat,x.toNat_lt⟩ ⟨r,h⟩;rw[oV,zDr];exact this
def tP.set {w base g n cap i l}(h:tP w base (aJ (aA ⟨g,0,aB⟩) n cap) l)(hi:i<l.length)(b:UInt8):tP (w.setCell ⟨g,i,aB⟩ (aC aP (b.toNat:Int))) base (aJ (aA ⟨g,0,aB⟩) n cap) (l.set i b):=by
 obtain⟨j,f⟩:=h;obtain⟨e,_⟩|⟨o,d,cur,e,hb,c,r1,r2,r3,r4⟩:=f
 .cases e
 .injection e with a m k;iterate 2 (injection a with a)
  subst a k;refine⟨by rw[zEe];simpa [iC]using j,aH ⟨g,cap,cur.setIfInBounds i (aC aP (b.toNat:Int)),by rw[zEe,m],hb,?_,by rw[zEe];exact r1,r2,by rw[zCi];exact r3,?_⟩⟩;{rw[setCell_eq_setRow w g i cur _ (0,0) _ c];exact setRow_heap w g cur _ _ _ c};{rw[<-yS,zDu,zDu,<-r4,zEe,List.take_set]}
def tP.cell {w base g n cap i l}(h:tP w base (aJ (aA ⟨g,0,aB⟩) n cap) l)(hi:i<l.length):w.cell? ⟨g,i,aB⟩=aA (aC aP ((l.getD i 0).toNat:Int))/\w.frozen? ⟨g,i,aB⟩=aF/\base<=g/\g<w.heap.size/\l.length<=cap/\n=l.length:=by
 obtain⟨e,_⟩|⟨j,c,cur,e,hb,b,r1,r2,r3,r4⟩:=h.2
 .cases e
 .injection e with a f d;iterate 2 (injection a with a)
  subst a d;refine⟨?_,by simp[World.frozen?,b],hb,(zAa.1 b).1,r1,f⟩;rw[zGv w g i cur _ (0,0) b,<-yT l i hi,<-zBp,<-zBp,<-r4,zCs,zAq (by omega)]
def tP.form {w base v l}(h:tP w base v l)(hl:0<l.length):∃g cap,v=aJ (aA ⟨g,0,aB⟩) l.length cap:=by
 obtain⟨_,b⟩|⟨a,c,_,e,_⟩:=h.2
 .omega
 .exact⟨a,c,e⟩
def Rx {w:zW}{base g cap:Nat}{l:zB}(h:tP w base (aJ (aA ⟨g,0,aB⟩) l.length cap) l):(convert 50 9 (aJ (aA ⟨g,0,aB⟩) l.length cap)).run zq w= .ok (aK ⟨l.toArray⟩) w:=
 lR (P:=zq) w 50 9 5 g 0 cap l ((Qz.eO 50).trans underlying50) ((Qz.eO 5).trans underlying5) ((Qz.eO 9).trans underlying9) (λj a=>by rw[zAx];exact(h.cell a).1)
def BM (s):aFI ⟨s.toArray⟩=(iC s).toList:=by simp[aFI,iC]
def wB (l m):(iC (l++m)).toList=(iC l).toList++(iC m).toList:=by simp[iC]
def Eh (a:Nat)(D X)(va)(vc)(S)(w)(Ya:a<=2)(hS:S.length<=256)(jy:∀x∈S,x.length<=32)(hX:X.length<=1000)(hD:D.length<=32)(hsv:BB w va S):
  Calls zq 161 #[aC aD a,aJ va S.length vc,aK ⟨D.toArray⟩,aK ⟨X.toArray⟩] w λe w'=>e=aL (aK ⟨(jT D a S X).toArray⟩)/\zb w w':=by
 have ai:=hid hsv;have Y:=hid jy;obtain⟨b,N⟩:∃b,(S.length+7)/8=b:=⟨_,rfl⟩;have R:=λW=>tL S.length W (by omega);rw[N]at R;have Da:∀W,(Instr.makeSlice 50 (aC aD (3+(b:Int))) (aC aD (3+(b:Int)))).run zq W= .ok (aJ (aA ⟨W.heap.size,0,aB⟩) (3+b) (3+b)) (W.alloc (aI (yP (3+b)) 5)):=λW=>by have:=FY (3+b) (by omega) W;rw[show((3+b:Nat):Int)=3+(b:Int) by omega]at this;exact this
 go_enter (Qz.fn func161),ntmps161;go_wp2_with fail;refine(R w).mono ?_;rintro e w1 ⟨rfl,ox⟩;obtain rfl:w=w1:=ox.symm;go_upto_region 3 with(fail)
 have O2:Hid (tP (w.alloc (aI (yP (3+b)) 5)) w.heap.size (aJ (aA ⟨w.heap.size,0,aB⟩) (3+b) (3+b)) (List.replicate (3+b) 0)):=by refine⟨by simp[iC],aH ⟨w.heap.size,3+b,yP (3+b),by rw[zDe],zAb _,zGn w _,by rw[zDe];exact zAb _,by simp only[maxLen];omega,by simp[yP,iC],?_⟩⟩;rw[zDe,zDv];show List.take _ (iC (List.replicate (3+b) 0)).toList=_;rw[zBv (by simp[iC])]
 have B2:Hid (zb w (w.alloc (aI (yP (3+b)) 5))):=(zGe _ _).alloc (zAb _) _;generalize w.alloc (aI (yP (3+b)) 5)=w2 at*;have hz:∀i,i<3->w2.cell? ⟨w.heap.size,i,aB⟩=aA (aC aP 0)/\w2.frozen? ⟨w.heap.size,i,aB⟩=aF:=λi hi=>by have:=O2.out.cell (i:=i) (by rw[zDe];omega);refine⟨?_,this.2.1⟩;rw[this.1,zBo,List.getElem?_replicate,zAq (by omega)];rfl
 obtain⟨z0,f0⟩:=hz 0 (by omega);obtain⟨z1,f1⟩:=hz 1 (by omega);obtain⟨z2,f2⟩:=hz 2 (by omega);have M:(0:Int)<3+(b:Int):=by omega
 have K:(1:Int)<3+(b:Int):=by omega
 have J:(2:Int)<3+(b:Int):=by omega
 clear hz Da;go_upto_region 4 with(fail)
 have G:Hid (tP (((w2.setCell ⟨w.heap.size,0,aB⟩ (aC aP (a:Int))).setCell ⟨w.heap.size,1,aB⟩ (aC aP ((S.length:Int)/256))).setCell ⟨w.heap.size,2,aB⟩ (aC aP ((S.length:Int)%256))) w.heap.size (aJ (aA ⟨w.heap.size,0,aB⟩) (3+b) (3+b)) (wrote D a S 0)):=by
  have h1:=O2.out.set (i:=0) (by rw[zDe];omega) (aFF a);have h2:=h1.set (i:=1) (by rw[zEe,zDe];omega) (aFF (S.length/256));have h3:=h2.set (i:=2) (by rw[zEe,zEe,zDe];omega) (aFF (S.length%256));have e1:(((aFF a).toNat:Nat):Int)=(a:Int):=by{rw[zDr];omega};have e2:(((aFF (S.length/256)).toNat:Nat):Int)=(S.length:Int)/256:=by{rw[zDr];omega};have e3:(((aFF (S.length%256)).toNat:Nat):Int)=(S.length:Int)%256:=by rw[zDr];omega
  rw[e1,e2,e3]at h3;have e4:(((List.replicate (3+b) (0:UInt8)).set 0 (aFF a)).set 1 (aFF (S.length/256))).set 2 (aFF (S.length%256))=wrote D a S 0:=by rw[show 3+b=b+1+1+1 by omega,List.replicate_succ,List.replicate_succ,List.replicate_succ];unfold wrote vA;rw[zFb,gM,N];simp[lA]
  rw[e4]at h3;exact h3
 have B3:Hid (zb w (((w2.setCell ⟨w.heap.size,0,aB⟩ (aC aP (a:Int))).setCell ⟨w.heap.size,1,aB⟩ (aC aP ((S.length:Int)/256))).setCell ⟨w.heap.size,2,aB⟩ (aC aP ((S.length:Int)%256)))):=((B2.out.setCell (zAb _) _).setCell (zAb _) _).setCell (zAb _) _;generalize((w2.setCell ⟨w.heap.size,0,aB⟩ (aC aP (a:Int))).setCell ⟨w.heap.size,1,aB⟩ (aC aP ((S.length:Int)/256))).setCell ⟨w.heap.size,2,aB⟩ (aC aP ((S.length:Int)%256))=w3 at*;clear z0 z1 z2 f0 f1 f2 M K J O2 B2;have HW:Hid (jT D a S X=wrote D a S S.length++X):=by show _=_;unfold jT wrote;rw[List.take_length,zDa,zDa]
 have I:Hid (∀t,(wrote D a S t).length<=10000/\3+(S.length+7)/8<=(wrote D a S t).length):=λt=>by have h1:=Ef D a S t;have h2:=Ep D S t Y.out;omega
 have tz:Hid (∀t (ht:t<S.length),S[t]=D->wrote D a S (t+1)=wrote D a S t):=WV D a S;have HMK:Hid (∀t (ht:t<S.length),S[t]≠D->wrote D a S (t+1)=(wrote D a S t).set (3+t/8) (oV ((wrote D a S t).getD (3+t/8) 0) (t%8))++S[t]):=WW D a S;go_upto_region 5 with(fail)
 obtain⟨n,hn⟩:∃n,n=S.length:=⟨_,rfl⟩;go_loopg [10,34] S.length (λq x i wr=>∃t:Nat,t+q=S.length/\i=aC aD (t:Int)/\zb w wr/\tP wr w.heap.size x (wrote D a S t));case atStart=>exact⟨0,by omega,rfl,B3.out,G.out⟩
 case round=>
  obtain⟨t,ht,rfl,b1,o1⟩:=hrel
  have B1:=hid b1
  have A:=hid o1
  have Q:=b1.size
  clear b1 o1
  by_cases bW:t<S.length
  .have hu:=zAf (l:=S) (i:=t) bW;have E:=tz.out t bW;have C:=HMK.out t bW;have WQ:=Y.out S[t] (zCx _);obtain⟨kq,hl2⟩:=I.out t;obtain⟨g,o,rfl,hg,j⟩:=ai.out.below B1.out (zAb _) (by omega);have q0:=j t S[t] hu;generalize S[t]=s at*;have Np:¬((t:Int)<0):=by{omega};have Vg:(t:Int)<(S.length:Int):=by{omega};by_cases m:s=D
   .have Z:Hid (wrote D a S (t+1)=wrote D a S t):=E m;have T:(s==D)=aE:=by{rw[m];exact zFd _};clear E C j hu m;generalize wrote D a S t=L at*;go_wp2_with fail;go_roundg (S.length-(t+1));case measure=>omega
    case rel=>
     go_light
     exact⟨t+1,by omega,by go_num,B1.out,by rw[Z.out];exact A.out⟩
   .have Z:Hid (wrote D a S (t+1)=(wrote D a S t).set (3+t/8) (oV ((wrote D a S t).getD (3+t/8) 0) (t%8))++s):=C m;have T:(s==D)=aF:=zBw.2 m;clear E C j hu m;generalize wrote D a S t=L at*;have F:3+t/8<L.length:=by omega
    obtain⟨u,c,rfl⟩:∃u c,u10=aJ (aA ⟨u,0,aB⟩) L.length c:=by obtain⟨_,h0⟩|⟨g',v,_,e,_⟩:=A.out.2;{omega};{exact⟨g',v,e⟩}
    obtain⟨y0,y1,y2,y3,y4,_⟩:=A.out.cell F;have H:Hid (bits .or aP ((L.getD (3+t/8) 0).toNat:Int) (128/2^(t%8))=((oV (L.getD (3+t/8) 0) (t%8)).toNat:Int)):=Xl _ _ (zFt _ (by omega));have hxr:=(L.getD (3+t/8) 0).toNat_lt;generalize L.getD (3+t/8) 0=B at*;obtain⟨r,hr⟩:∃r,t%8=r:=⟨_,rfl⟩;obtain⟨d,hd⟩:∃d,t/8=d:=⟨_,rfl⟩;have ht8:(t:Int)/8=(d:Int):=by{omega};have ht9:(t:Int)%8=(r:Int):=by{omega};have aA1:(t:Int).tdiv 8=(d:Int):=by{rw[Int.tdiv_eq_ediv_of_nonneg (by omega)];exact ht8};have aA0:(t:Int).tmod 8=(r:Int):=by{rw[aFL (by omega)];exact ht9};have hdi:(3:Int)+(d:Int)<(L.length:Int):=by{omega};have pw:r<8:=by{omega};rw[hd]at y0 y1 F Z;rw[hr]at H Z;clear hd hr;go_wp2_with fail;go_region;rw[H.out];have O4:Hid (tP (wr.setCell ⟨u,3+d,aB⟩ (aC aP ((oV B r).toNat:Int))).drew w.heap.size (aJ (aA ⟨u,0,aB⟩) L.length c) (L.set (3+d) (oV B r))):=A.out.set F (oV B r);have B4:Hid (zb w (wr.setCell ⟨u,3+d,aB⟩ (aC aP ((oV B r).toNat:Int))).drew):=jY (B1.out.setCell y2 _);generalize(wr.setCell ⟨u,3+d,aB⟩ (aC aP ((oV B r).toNat:Int))).drew=w4 at*;have z:w.heap.size<=w4.heap.size:=B4.out.size;clear y0 y1 H A B1 q0;obtain⟨ib,i1,i2,i3,i4⟩:=AX;have f:(⟨s.toArray⟩:ByteArray).size=s.length:=by show s.toArray.size=_;simp
    have U:(L.set (3+d) (oV B r)).length=L.length:=zEe ..;generalize L.set (3+d) (oV B r)=L2 at*;have O:=O4.out;unfold tP at O;rw[U]at O;go_wp2_with (at_builtin;refine aFJ _ rfl _ _ 50 9 rfl w.heap.size 5 ib ((Qz.eO 50).trans underlying50) ((Qz.eO 9).trans underlying9) i1 i2 i3 i4 _ L.length _ rfl O ⟨s.toArray⟩ rfl (by rw[f];simp only[maxLen];omega) (by rw[f];omega) z ?_;intro v' w5 h p _);have HO:Hid (tP w5 w.heap.size v' (L2++s)):=by show w5.ownsRow _ _ _ _ _ _;rw[zAi,wB,U,<-f];rw[BM]at h;exact h
    have y:w4.grownBy w5 (aA u):=p;have B5:Hid (zb w w5):=B4.out.grown y z λk P=>by{injection P with P;omega};clear h p y O i1 i2 i3 i4;go_roundg (S.length-(t+1));case measure=>omega
    case rel=>
     go_light
     exact⟨t+1,by omega,by go_num,B5.out,by rw[Z.out];exact HO.out⟩
  .obtain rfl:t=S.length:=by omega
   have kq:=(I.out S.length).1;have hl3:=(I.out S.length).2;have bW:=bW;have V:=HW.out;generalize wrote D a S S.length=L at*;have HW3:=hid V;clear V;obtain⟨u,c,rfl⟩:∃u c,u10=aJ (aA ⟨u,0,aB⟩) L.length c:=by obtain⟨_,h0⟩|⟨g',v,_,e,_⟩:=A.out.2;{omega};{exact⟨g',v,e⟩}
   obtain⟨_,_,y2,y3,y4,_⟩:=A.out.cell (i:=0) (by omega);obtain⟨ib,i1,i2,i3,i4⟩:=AX;have f:(⟨X.toArray⟩:ByteArray).size=X.length:=by show X.toArray.size=_;simp
   have O:=A.out;unfold tP at O;go_wp2_with (first
    |(at_builtin;refine aFJ _ rfl _ _ 50 9 rfl w.heap.size 5 ib ((Qz.eO 50).trans underlying50) ((Qz.eO 9).trans underlying9) i1 i2 i3 i4 _ L.length _ rfl O ⟨X.toArray⟩ rfl (by rw[f];simp only[maxLen];omega) (by rw[f];omega) Q ?_;intro v' w5 h p _;
      have HO:tP w5 w.heap.size v' (L++X):=(by show w5.ownsRow _ _ _ _ _ _;rw[zAi,wB,<-f];rw[BM]at h;exact h);
      obtain⟨gy,aC0,hvy⟩:=tP.form HO (by rw[zAi];omega);
      subst hvy;
      have Vh:=Rx HO;rw[zAi]at Vh;
      have B5:Hid (zb w w5):=B1.out.grown (show wr.grownBy w5 (aA u)from p) Q (λk P=>by injection P with P;omega);
      clear h p HO O i1 i2 i3 i4))
   go_ret;exact⟨by rw[HW3.out];simp,B5.out⟩
def Ou (k)(I)(T):lT k {HY k I []with fY:=T}=jT (dg k [0]) 0 T []:=rfl
def Ud (k)(I)(e)(T)(h:e.1=I):lT k {HY k I [e]with fY:=T}=jT (dg k [0]) 1 T e.2:=by rw[show HY k I [e]=⟨1,[],e.2,[],[]⟩from zAq h];rfl
def Uc (k)(I)(e)(T)(h:¬e.1=I):lT k {HY k I [e]with fY:=T}=jT (dg k [0]) 2 T (e.1++dg k (4::e.2)):=by rw[show HY k I [e]=⟨2,[],[],e.1,dg k (4::e.2)⟩from zAn h];rfl
def iZ (k:Nat)(I:zB)(us xs:List bS)(d:Nat)(T:zLL):Prop:=sD k I 256 (bC us) 0={sD k I (256-d) (bC xs) d with fY:=T++(sD k I (256-d) (bC xs) d).fY}
def WG (k)(I)(us):iZ k I us us 0 []:=rfl
def Kb (k)(I){xs d}(h:2<=xs.length)(c:d<256):sD k I (256-d) (bC xs) d={sD k I (256-(d+1)) (bC (bK d (bZ I d) xs)) (d+1)with fY:=gE k (bK d (1-bZ I d) xs) (d+1)::(sD k I (256-(d+1)) (bC (bK d (bZ I d) xs)) (d+1)).fY}:=by
 rw[show 256-d=(256-(d+1))+1 by omega,eU];unfold gE jE;rw[eU];match xs,h with
 |a::b::xs,_=>rfl
def iZ.step {k I us xs d T}(h:iZ k I us xs d T)(c:2<=xs.length)(a:d<256):iZ k I us (bK d (bZ I d) xs) (d+1) (T++[gE k (bK d (1-bZ I d) xs) (d+1)]):=by unfold iZ at h⊢;rw[h,Kb k I c a];simp only[zDa,List.singleton_append]
def Jz (k)(I){xs}(f d)(h:xs.length<=1):sD k I f (bC xs) d=HY k I (bC xs):=by
 match xs,h with
 |[],_=>cases f<;>rfl
 |[a],_=>cases f<;>rfl
def Ot (k)(I)(l):(HY k I l).fY=[]:=by
 match l with
 |[]=>rfl
 |e::l=>show(if e.1=I then(⟨1,[],e.2,[],[]⟩:PW)else⟨2,[],[],e.1,dg k (4::e.2)⟩).fY=[];split<;>rfl
def iZ.ends {k I us xs d T}(h:iZ k I us xs d T)(a:xs.length<=1):sD k I 256 (bC us) 0={HY k I (bC xs)with fY:=T}:=by rw[h,Jz k I _ _ a,Ot,zAy]
def Qe (w:zW)(base:Nat)(v:zY)(T:zLL):Prop:=Own w base 9 v T.length (T.map λx=>aK ⟨x.toArray⟩)
def Qe.strs {w base v T}(h:Qe w base v T):∃d c,v=aJ d T.length c/\BB w d T:=by
 by_cases j:0<T.length
 .obtain⟨g,cap,rfl⟩:=Own.form h j;refine⟨_,cap,rfl,λ_=>⟨g,0,rfl,(Own.base h).2.1,λi x f=> ?_⟩⟩;have hi:=(zAu.1 f).1;rw[zAx,Own.cell h i hi,zDo,f];rfl
 .obtain rfl:T=[]:=by
   cases T with
   |nil=>rfl
   |cons a T=>simp at j
  obtain⟨rfl,_⟩|⟨g,cap,cur,l,e,_⟩:=h.2;{exact⟨aB,0,rfl,λh=>absurd h (by simp)⟩};{exact⟨_,_,e,λh=>absurd h (by simp)⟩}
section
variable {w:zW}{t k room b cap:Nat}{S:List (List bS)}
def Gj (h:dA w t k room b cap S){i:Nat}{us}(hi:S[i]? =aA us)(I)(hI:I.length=32):
  Calls zq 216 #[aN (aA ⟨t,0,aB⟩),aC aD i,aK ⟨I.toArray⟩] w (RF λx l=>x=aK ⟨(lT k (sD k I 256 (bC us) 0)).toArray⟩/\zb w l):=by
 obtain⟨C,cur,R,c,hM,qz,yk,g1,g2,g3,g4,g5,g6⟩:=h.mem;obtain⟨p,Zv,hr⟩:=yk i us hi;have No:=h.k1;have U:=h.k2;have Nn:=h.st us (zDb hi);have HR:=hid hr;have HB:Hid (∀W (d:Nat),d<256->Calls zq 82 #[aK ⟨I.toArray⟩,aC aD d] W λe l=>e=aL (.bool (decide (bZ I d=1)))/\l=W):=λW d hd=>(kS ⟨I.toArray⟩ d W (by show d/8<I.length;omega) (by show I.length<=_;omega) (by omega)).mono λe l h=>by simpa using h
 have Xy:oF w t k:=⟨hM.tr.lt,(aZ hM.tr 0).trans rfl,(aZ hM.tr 2).trans rfl⟩;have iu:=hid Xy;have tw:=hid hM.iM;have M:Hid (∀W x f d,zb w W->eL k w x f d->Calls zq 226 #[aN (aA ⟨t,0,aB⟩),ptr x] W λe l=>e=aL (aK ⟨(gE k f d).toArray⟩)/\l=W):=λW x f d P hx=>vQ (Xy.below P (zAb _)) (hx.hl No U (.below (t:=t) P (zAb _)));have A:Hid (∀W x f d,zb w W->eL k w x f d->Calls zq 225 #[ptr x] W λe l=>e=aL (.bool (decide (f.length<=1)))/\l=W):=λW x f d P hx=>(cS.done (hx.hl No U (.below (t:=t) P (zAb _))) (zAb 0)).ends;have F:Hid (∀(kd:Nat)(X:zB)(T:zLL) O c W,kd<=2->X.length<=1000->T.length<=256->(∀x∈T,x.length<=32)->BB W O T->Calls zq 161 #[aC aD kd,aJ O T.length c,aK ⟨(dg k [0]).toArray⟩,aK ⟨X.toArray⟩] W λe l=>e=aL (aK ⟨(jT (dg k [0]) kd T X).toArray⟩)/\zb W l):=λkd X T O c W h1 h2 h3 h4 h5=>
  Eh kd (dg k [0]) X O c T W h1 h3 h4 h2 (by have:=fE k [0] U;omega) h5
 have c3:=(aZ hM.tr 3).trans rfl;have d1:w.cell? ⟨b,i,aB⟩=aA (ptr p):=by rw[aZ hM.rW];exact Zv
 have Zx:=(zAu.1 hi).1;have Np:¬((i:Int)<0):=by omega
 have Vg:(i:Int)<(S.length:Int):=by omega
 have aj:=hid Nn.1;have dq:=hM.tr.lt;obtain⟨WP,sb⟩:∃WP,WP=lT k (sD k I 256 (bC us) 0):=⟨_,rfl⟩;have tp:=hid sb;rw[<-sb];obtain⟨vp,Xw⟩:∃vp,vp=ptr p:=⟨_,rfl⟩;have HVP:=hid Xw;rw[<-Xw]at d1;clear h hi hM qz yk hr Zv Nn Xy sb Xw;generalize S.length=n at*;go_enter (Qz.fn func216),ntmps216;go_wp2_with fail;go_loopg [7,8] 257 (λq x s wr=>∃(d:Nat)(p':Option Nat)(f:List bS)(T:zLL),d+q=257/\d<=256/\x=ptr p'/\eL k w p' f d/\(∀u∈f,u∈us)/\T.length=d/\(∀y∈T,y.length<=32)/\Qe wr w.heap.size s T/\iZ k I us f d T/\zb w wr);case atStart=>exact⟨0,p,us,[],rfl,by omega,HVP.out,HR.out,λ_ h=>h,rfl,λ_ h=>by simp at h,Own.nil _ _ _,WG k I us,zGe _ _⟩
 case round=>
  obtain⟨d,p',f,T,hd,yc,rfl,r1,r2,r3,r4,r5,r6,r7⟩:=hrel
  subst r3
  have j:=hid r7
  have HA:=hid r6
  have HT:=hid r5
  have ja:=hid r4
  have ae:=yc
  have Q:∀u∈f,u.idx.length=32/\u.val.length<=100:=λu hu=>⟨aj.out.sub.idx u (r2 u hu),aj.out.val u (r2 u hu)⟩
  have V:=A.out wr p' f T.length r7 r1
  have e2:=(iu.out.below j.out (zAb _)).emp
  have a:∀{b:Nat}{z o:Option Nat}{i v g:zB}{hs:Int},aX w b z o i v g hs->aX wr b z o i v g hs:=λhc=>⟨by rw[j.out.block _ hc.lt];exact hc.at'⟩
  clear r4 r5 r6 r7
  cases r1 with
  |nil=>
   have G:Hid (WP=jT (dg k [0]) 0 T []):=by rw[tp.out,HA.out.ends (by simp)];exact Ou k I T
   rw[zCy (by simp)]at V;obtain⟨O,cT,Z,hS⟩:=HT.out.strs;subst Z;have H:=F.out 0 [] T O cT wr (by omega) (by simp) ae ja.out hS;generalize jT (dg k [0]) 0 T []=WB at*;generalize T.length=nT at*;clear F A M HB hS HT HA;go_wp2_with fail;refine V.mono ?_;clear V;rintro e w2 ⟨rfl,rfl⟩;go_wp2_with fail;refine H.mono ?_;clear H;rintro e w3 ⟨rfl,E⟩;have B3:=hid (bE j.out E j.out.size);clear E e2;go_wp2;go_ret;exact .of ⟨by rw[G.out];rfl,B3.out⟩
  | @leaf b' u _ hs hc=>
   have hv:=(Q u (by simp)).2;have hix:=(Q u (by simp)).1;have m:=a hc;have k2:=m.c2;have k3:=m.c3;have Vi:=m.lt;rw[zCy (by simp)]at V;obtain⟨O,cT,Z,hS⟩:=HT.out.strs;subst Z;have ai:=hid hS;have dp:=zAc dq j.out.size;have e0:=(iu.out.below j.out (zAb _)).wid;by_cases r:u.idx=I
   .have G:Hid (WP=jT (dg k [0]) 1 T u.val):=by
     show WP=_;rw[tp.out,HA.out.ends (by simp)];exact Ud k I (u.idx,u.val) T r
    have fp:(u.idx==I)=aE:=by{rw[r];exact zFd _};have H:Hid (∀W,zb wr W->Calls zq 161 #[aC aD 1,aJ O T.length cT,aK ⟨(dg k [0]).toArray⟩,aK ⟨u.val.toArray⟩] W λe l=>e=aL (aK ⟨(jT (dg k [0]) 1 T u.val).toArray⟩)/\zb W l):=λW P=>F.out 1 u.val T O cT W (by omega) (by omega) ae ja.out (ai.out.below P (zAb _));rw[r]at k2;generalize jT (dg k [0]) 1 T u.val=WB at*;generalize T.length=nT at*;generalize u.val=uv at*;clear F A M HB hS HT HA ai hc m a Q r fp hix;go_wp2_with fail;refine V.mono ?_;clear V;rintro e w2 ⟨rfl,rfl⟩;go_upto_region 13 with(fail)
    go_quiet (fail);have J:Hid (zb w2 (w2.drewN nq)):=⟨rfl,rfl,rfl,zAb _,λ_ _=>rfl⟩;have e3:(w2.drewN nq).cell? ⟨t,2,aB⟩=aA (aK ⟨(dg k [0]).toArray⟩):=e2;generalize w2.drewN nq=wn at*;go_wp2_with fail;refine(H.out wn J.out).mono ?_;clear H;rintro e w3 ⟨rfl,E⟩;have B3:Hid (zb w w3):=bE (bE j.out J.out j.out.size).out E (zAw j.out.size J.out.size);clear E e2;go_wp2;go_ret;exact .of ⟨by rw[G.out];rfl,B3.out⟩
   .have G:Hid (WP=jT (dg k [0]) 2 T (u.idx++dg k (4::u.val))):=by
     show WP=_;rw[tp.out,HA.out.ends (by simp)];exact Uc k I (u.idx,u.val) T r
    have fp:(u.idx==I)=aF:=zBw.2 r;have hdv:=fE k (4::u.val) U;have H:Hid (∀W,zb wr W->Calls zq 161 #[aC aD 2,aJ O T.length cT,aK ⟨(dg k [0]).toArray⟩,aK ⟨(u.idx++dg k (4::u.val)).toArray⟩] W λe l=>e=aL (aK ⟨(jT (dg k [0]) 2 T (u.idx++dg k (4::u.val))).toArray⟩)/\zb W l):=λW P=>F.out 2 _ T O cT W (by omega) (by rw[zAi];omega) ae ja.out (ai.out.below P (zAb _));have HV:=quiet_of (w:=wr) λW P=>AZ k ⟨u.val.toArray⟩ W No U (by show u.val.toArray.size<=_;simp;omega) ((tw.out.below j.out (zAb _)).below P (zAb _));have tt:=hid HV.out;have q0:=cX k2 Vi;have q1:=cX k3 Vi;have q2:=cX e0 dp;generalize jT (dg k [0]) 2 T (u.idx++dg k (4::u.val))=WB at*;generalize T.length=nT at*;generalize dg k (4::u.val)=DV at*;clear F A M HB hS HT HA ai hc m a Q HV;generalize u.val=uv at*;generalize hui:u.idx=ui at*;clear hui;go_wp2_with fail;refine V.mono ?_;clear V;rintro e w2 ⟨rfl,rfl⟩;go_upto_region 10 with(fail)
    refine zGr (by kernel_rfl) (by kernel_rfl) ?_;(repeat (any_goals(first|go_big_quiet_step (exact tt.out _ _)|quiet_step (exact tt.out _ _))));refine zGy ?_;intro wn dk;obtain⟨q,hq⟩:=dk;have J:Hid (zb w2 wn):=by{rw[hq];exact zGl w2 q.d q.os};have e3:wn.cell? ⟨t,2,aB⟩=aA (aK ⟨(dg k [0]).toArray⟩):=by{rw[J.out.cell (p:=⟨t,2,aB⟩) dp];exact e2};clear hq tt q0 q1 q2;go_wp2_with fail;refine(H.out wn J.out).mono ?_;clear H;rintro e w3 ⟨rfl,E⟩;have B3:Hid (zb w w3):=bE (bE j.out J.out j.out.size).out E (zAw j.out.size J.out.size);clear E e2;go_wp2;go_ret;exact .of ⟨by rw[G.out];rfl,B3.out⟩
  | @node b' _ _ z o hs h2 ku hc hz ho=>
   rw[zBs (by omega)]at V;have m:=a hc;have k0:=m.c0;have k1:=m.c1;have Yf:∀f:List bS,(gE k f (T.length+1)).length<=32:=λf=>by{have:=yG (us:=f) (d:=T.length+1) U;omega};obtain⟨O,cT,Z,hS⟩:=HT.out.strs;subst Z;clear hS;obtain h0|h0:=jQ I T.length
   .have uj:Hid (∀W,Calls zq 82 #[aK ⟨I.toArray⟩,aC aD (T.length:Int)] W λe l=>e=aL (.bool aF)/\l=W):=λW=>by
     have:=HB.out W T.length ku;rw[zBs (by omega)]at this;exact this
    have N:=HA.out.step h2 ku;rw[h0]at N;have Zj:=hid N;have HN:Hid (∀W,zb w W->Calls zq 226 #[aN (aA ⟨t,0,aB⟩),ptr o] W λe l=>e=aL (aK ⟨(gE k (bK T.length 1 f) (T.length+1)).toArray⟩)/\l=W):=λW P=>M.out W o _ (T.length+1) P ho;have tv:=hid hz;have ua:Hid (∀u∈bK T.length 0 f,u∈us):=λu hu=>r2 u (zBa.1 hu).1;have qy:=Yf (bK T.length 1 f);obtain⟨vz,K⟩:∃vz,vz=ptr z:=⟨_,rfl⟩;obtain⟨vo,L⟩:∃vo,vo=ptr o:=⟨_,rfl⟩;have tq:=hid K;rw[<-K]at k0;rw[<-L]at k1;rw[<-L]at HN;generalize gE k (bK T.length 1 f) (T.length+1)=DG at*;clear K L N HA HB M A F Yf hc m a hz ho r2 Q HR h2 h0 e2;go_wp2_with fail;refine V.mono ?_;clear V;rintro e w2 ⟨rfl,rfl⟩;go_upto_region 4 with(fail)
    go_quiet (fail);have J:Hid (zb w (w2.drewN nq)):=⟨j.out.os,j.out.tape,j.out.output,j.out.size,j.out.block⟩;have O2:Hid (Own (w2.drewN nq) w.heap.size 9 (aJ O T.length cT) T.length (T.map λx=>aK ⟨x.toArray⟩)):=Own.kept HT.out λ_ _=>rfl;have qp:T.length+1<=1000000:=by omega
    generalize w2.drewN nq=wn at*;have fl:w.heap.size<=wn.heap.size:=J.out.size;go_wp2_with fail;refine(uj.out wn).mono ?_;rintro e w3 ⟨rfl,rfl⟩;go_wp2_with fail;refine(HN.out w3 J.out).mono ?_;rintro e w4 ⟨rfl,rfl⟩;go_wp2_with (first|(at_builtin;refine pE rfl _ _ rfl w.heap.size _ _ _ rfl O2.out [_] 1 rfl (by simp) (by simp[Value.oneCell']) qp fl ?_;intro v5 w5 D Yc));have B5:Hid (zb w w5):=pB (B:=w.heap.size) J.out O2.out Yc (zAb _) fl;have O5:Hid (Qe w5 w.heap.size v5 (T++[DG])):=by show Own _ _ _ _ _ _;rw[zAi,zDi];exact D
    have Zk:Hid (∀y∈T++[DG],y.length<=32):=λy Y=>by obtain Y|Y:=zAg.1 Y;{exact ja.out y Y};{rw[zAm.1 Y];exact qy}
    clear D Yc;go_roundg (257-(T.length+1));case measure=>omega
    case rel=>
     go_light
     exact⟨T.length+1,z,_,T++[DG],by omega,by omega,tq.out,tv.out,ua.out,by rw[zAi];rfl,Zk.out,O5.out,Zj.out,B5.out⟩
   .have uj:Hid (∀W,Calls zq 82 #[aK ⟨I.toArray⟩,aC aD (T.length:Int)] W λe l=>e=aL (.bool aE)/\l=W):=λW=>by
     have:=HB.out W T.length ku;rw[zCy h0]at this;exact this
    have N:=HA.out.step h2 ku;rw[h0]at N;have Zj:=hid N;have HN:Hid (∀W,zb w W->Calls zq 226 #[aN (aA ⟨t,0,aB⟩),ptr z] W λe l=>e=aL (aK ⟨(gE k (bK T.length 0 f) (T.length+1)).toArray⟩)/\l=W):=λW P=>M.out W z _ (T.length+1) P hz;have tv:=hid ho;have ua:Hid (∀u∈bK T.length 1 f,u∈us):=λu hu=>r2 u (zBa.1 hu).1;have qy:=Yf (bK T.length 0 f);obtain⟨vz,K⟩:∃vz,vz=ptr z:=⟨_,rfl⟩;obtain⟨vo,L⟩:∃vo,vo=ptr o:=⟨_,rfl⟩;have tq:=hid L;rw[<-K]at k0;rw[<-L]at k1;rw[<-K]at HN;generalize gE k (bK T.length 0 f) (T.length+1)=DG at*;clear K L N HA HB M A F Yf hc m a hz ho r2 Q HR h2 h0 e2;go_wp2_with fail;refine V.mono ?_;clear V;rintro e w2 ⟨rfl,rfl⟩;go_upto_region 4 with(fail)
    go_quiet (fail);have J:Hid (zb w (w2.drewN nq)):=⟨j.out.os,j.out.tape,j.out.output,j.out.size,j.out.block⟩;have O2:Hid (Own (w2.drewN nq) w.heap.size 9 (aJ O T.length cT) T.length (T.map λx=>aK ⟨x.toArray⟩)):=Own.kept HT.out λ_ _=>rfl;have qp:T.length+1<=1000000:=by omega
    generalize w2.drewN nq=wn at*;have fl:w.heap.size<=wn.heap.size:=J.out.size;go_wp2_with fail;refine(uj.out wn).mono ?_;rintro e w3 ⟨rfl,rfl⟩;go_wp2_with fail;refine(HN.out w3 J.out).mono ?_;rintro e w4 ⟨rfl,rfl⟩;go_wp2_with (first|(at_builtin;refine pE rfl _ _ rfl w.heap.size _ _ _ rfl O2.out [_] 1 rfl (by simp) (by simp[Value.oneCell']) qp fl ?_;intro v5 w5 D Yc));have B5:Hid (zb w w5):=pB (B:=w.heap.size) J.out O2.out Yc (zAb _) fl;have O5:Hid (Qe w5 w.heap.size v5 (T++[DG])):=by show Own _ _ _ _ _ _;rw[zAi,zDi];exact D
    have Zk:Hid (∀y∈T++[DG],y.length<=32):=λy Y=>by obtain Y|Y:=zAg.1 Y;{exact ja.out y Y};{rw[zAm.1 Y];exact qy}
    clear D Yc;go_roundg (257-(T.length+1));case measure=>omega
    case rel=>
     go_light
     exact⟨T.length+1,o,_,T++[DG],by omega,by omega,tq.out,tv.out,ua.out,by rw[zAi];rfl,Zk.out,O5.out,Zj.out,B5.out⟩
end
def Yx (e:rU):bS:=⟨e.1,e.2,aF⟩
def br (s:St)(k:Nat):Nat:=((List.range k).filterMap (dW s)).length
def Lw (s):br s 64=(dG s).length:=rfl
def Ss (s):∀k,br s k<=k:=λk=>by have:=zFz (dW s) (List.range k);rw[List.length_range]at this;exact this
def dE.len {w base v l}(h:dE w base v l):∃a c,v=aJ a l.length c/\(0<l.length->∃g,a=aA ⟨g,0,aB⟩/\base<=g/\g<w.heap.size):=by
 obtain⟨rfl,d⟩|⟨g,cap,cur,rfl,hb,b,_⟩:=h.2
 .exact⟨aB,0,by rw[d],λe=>by omega⟩
 .exact⟨_,cap,rfl,λ_=>⟨g,rfl,hb,(zAa.1 b).1⟩⟩
def dE.cellAt {w base g c l}(h:dE w base (aJ (aA ⟨g,0,aB⟩) l.length c) l)(i)(u)(a:l[i]? =aA u)(j)(b:j<3):w.cell? ⟨g,i*3+j,aB⟩=u.cells[j]? :=by have hi:=(zAu.1 a).1;rw[World.ownsRow.cellAt h (i*3+j) (by omega)];exact qK l i u a j b
def reaches {name f}(h:(zq.info? 146).bind (λi=>(i.methods.find? (·.name==name)).map λm=>(m.path,m.func))=aA (#[],aA (f,aE)))(a)(w):
  (method (zq.types.size+100) 146 (.pointer a) name).run zq w= .ok (f,.pointer a) w:=by
 cases hi:zq.info? 146 with
 |none=>rw[hi]at h;cases h
 |some i=>
  rw[hi]at h;simp only[zCr]at h;cases hm:i.methods.find? (·.name==name)with
  |none=>rw[hm]at h;cases h
  |some m=>rw[hm]at h;simp only[zBe,aE1,aFE]at h;rw[show zq.types.size+100=(zq.types.size+99)+1 from rfl];have c:=run_underlying ((Qz.eO 146).trans underlying146);have b:(typeInfo 146).run zq w= .ok i w:=by{simp[typeInfo,hi]};unfold method;simp only[Sem.run_bind,b,aFK,hm,h.1,h.2];simp[follow,receiverAt,c,Place.get]
def fZ (S:zLL):zV:=S.map λx=>aK ⟨x.toArray⟩
def PZ (x:zY):Prop:=∃s,x=aK s
structure cJ (w:zW)(d k win first hb dH t room b cap:Nat)(S:List (List bS))(H:zLL):Prop where
 JY:dA w t k room b cap S
 Oz:zq.globals.size<d
 qC:zq.globals.size<hb
 at':w.heap[d]? =aA (aI #[aC aD k,aC aD win,aC aD first,aJ (aA ⟨hb,0,aB⟩) S.length dH,.iface 146 (aN (aA ⟨t,0,aB⟩))] 86 (0,0))
 hlen:H.length=S.length
 Nu:∀h∈H,h.length<=32
 fX:eR PZ w hb 9 1 (aJ (aA ⟨hb,0,aB⟩) S.length dH) S.length (fZ H)
 f1:first<=1000000
section
variable {w w':zW}{d k win first hb dH t room b cap:Nat}{S:List (List bS)}{H:zLL}
def cJ.lt (h:cJ w d k win first hb dH t room b cap S H):d<w.heap.size:=(zAa.1 h.at').1
def cJ.cell (h:cJ w d k win first hb dH t room b cap S H)(i:Nat):w.cell? ⟨d,i,aB⟩=(#[aC aD k,aC aD win,aC aD first,aJ (aA ⟨hb,0,aB⟩) S.length dH,.iface 146 (aN (aA ⟨t,0,aB⟩))]:zA)[i]? :=zGv w d i _ _ (0,0) h.at'
def cJ.below {B:Nat}(h:cJ w d k win first hb dH t room b cap S H)(a:Below B w w')(c:w.heap.size<=B):cJ w' d k win first hb dH t room b cap S H:=⟨h.JY.below a c,h.Oz,h.qC,by rw[a.block d (zAc h.lt c)];exact h.at',h.hlen,h.Nu,h.fX.below a c,h.f1⟩
def UC (h:cJ w d k win first hb dH t room b cap S H):
  Calls zq 23 #[aN (aA ⟨d,0,aB⟩)] w λe w'=>e=aL (.tuple #[aC aD first,aC aD ((first:Int)+(S.length:Int)-1)])/\zb w w':=by
 have g:=cX ((h.cell 2).trans (rfl:_=aA (Value.int aD first))) h.lt;have f:=cX ((h.cell 3).trans (rfl:_=aA (Value.slice (aA ⟨hb,0,aB⟩) S.length dH))) h.lt;have i:=h.f1;have hl:=h.JY.len;clear h;generalize S.length=n at*;go_enter (Qz.fn func23),ntmps23;go_upto_region 1 with(fail)
 refine zGr (by kernel_rfl) (by kernel_rfl) ?_;repeat (any_goals(first|go_big_quiet_step (fail)|quiet_step (fail)))
 refine zGy ?_;intro W a;obtain⟨q,c⟩:=a;have hb:Hid (zb w W):=by rw[c];exact zGl w q.d q.os
 clear c g f;go_wp2;go_ret2;exact⟨rfl,hb.out⟩
def tZ (h:cJ w d k win first hb dH t room b cap S H){i:Nat}(hi:i<S.length):
  Calls zq 36 #[aN (aA ⟨d,0,aB⟩),aC aD ((first:Int)+(i:Int))] w λe w'=>e=aL (.bool aE)/\zb w w':=by
 have a:=UC h;have f:(first:Int)<=(first:Int)+(i:Int):=by omega
 have c:(first:Int)+(i:Int)<=(first:Int)+(S.length:Int)-1:=by omega
 clear h hi;generalize(first:Int)+(S.length:Int)-1=l at*;generalize(first:Int)+(i:Int)=g at*;go_enter (Qz.fn func36),ntmps36;go_wp2_with fail;refine a.mono ?_;clear a;rintro e w2 ⟨rfl,hb⟩;have B:Hid (zb w w2):=hb;clear hb;dsimp only;go_wp2;go_ret;exact⟨by simp[f,c],B.out⟩
def VF (h:cJ w d k win first hb dH t room b cap S H){i:Nat}{us:List bS}(hi:S[i]? =aA us):
  Calls zq 21 #[aN (aA ⟨d,0,aB⟩),aC aD ((first:Int)+(i:Int))] w (RF λx w'=>x= .tuple #[aK ⟨(jE k (bC us) 0).toArray⟩,aC aD 0]/\zb w w'):=by
 have j:=(zAu.1 hi).1;have m:=tZ h j;have n:Hid (cJ w d k win first hb dH t room b cap S H):=h;have z:=h.f1;have hl:=h.JY.len;have r:Hid (S[i]? =aA us):=hi;have y:∀W,(method (zq.types.size+100) 146 (aN (aA ⟨t,0,aB⟩)) "Root").run zq W= .ok (217,aN (aA ⟨t,0,aB⟩)) W:=λW=>reaches (by kernel_rfl) _ W;have p:IntKind.i64.wrap (i:Int)=(i:Int):=by rw[zGj];omega
 have l:(first:Int)+(i:Int)-(first:Int)=(i:Int):=by omega
 clear h hi;go_enter (Qz.fn func21),ntmps21;go_wp2_with fail;refine m.mono ?_;clear m;rintro e w2 ⟨rfl,a⟩;have v:Hid (zb w w2):=a;have E:Hid (cJ w2 d k win first hb dH t room b cap S H):=n.out.below a (zAb _);clear a n;dsimp only;have o:w2.cell? ⟨d,2,aB⟩=aA (aC aD first):=E.out.cell 2;have q:w2.cell? ⟨d,4,aB⟩=aA (.iface 146 (aN (aA ⟨t,0,aB⟩))):=E.out.cell 4;have s:Hid (dA w2.drew t k room b cap S):=E.out.JY.kept (zAb _) λ_ _=>rfl;have B:Hid (zb w w2.drew):=jY v.out;have f:w.heap.size<=w2.drew.heap.size:=B.out.size;go_wp2_with fail;go_region_with (first
  |(go_at_call 217;refine(SN s.out r.out).mono ?_;rintro e w3 (⟨_,rfl,rfl,g⟩|⟨c,rfl,he⟩);rotate_left;exact⟨rfl,.told he⟩;dsimp only))
 all_goals
  have u:Hid (zb w w3):=bE B.out g f
  clear g o q
  go_wp2
  go_ret2
  exact .of ⟨rfl,u.out⟩
def PG (h:cJ w d k win first hb dH t room b cap S H){i:Nat}{us:List bS}(hi:S[i]? =aA us)(I:zB)(m:I.length=32):
  Calls zq 24 #[aN (aA ⟨d,0,aB⟩),aC aD ((first:Int)+(i:Int)),aK ⟨I.toArray⟩] w (RF λx w'=>x= .tuple #[aK ⟨(lT k (sD k I 256 (bC us) 0)).toArray⟩,aC aD 0]/\zb w w'):=by
 have s:(⟨I.toArray⟩:ByteArray).size=32:=by show I.toArray.size=32;simpa using m
 have j:=(zAu.1 hi).1;have n:=tZ h j;have o:Hid (cJ w d k win first hb dH t room b cap S H):=h;have C:=h.f1;have hl:=h.JY.len;have u:Hid (S[i]? =aA us):=hi;have A:∀W,(method (zq.types.size+100) 146 (aN (aA ⟨t,0,aB⟩)) "Prove").run zq W= .ok (216,aN (aA ⟨t,0,aB⟩)) W:=λW=>reaches (by kernel_rfl) _ W;have r:IntKind.i64.wrap (i:Int)=(i:Int):=by rw[zGj];omega
 have l:(first:Int)+(i:Int)-(first:Int)=(i:Int):=by omega
 clear h hi;go_enter (Qz.fn func24),ntmps24;go_wp2_with fail;refine n.mono ?_;clear n;rintro e w2 ⟨rfl,a⟩;have z:Hid (zb w w2):=a;have E:Hid (cJ w2 d k win first hb dH t room b cap S H):=o.out.below a (zAb _);clear a o;dsimp only;have p:w2.cell? ⟨d,2,aB⟩=aA (aC aD first):=E.out.cell 2;have q:w2.cell? ⟨d,4,aB⟩=aA (.iface 146 (aN (aA ⟨t,0,aB⟩))):=E.out.cell 4;have v:Hid (dA w2.drew t k room b cap S):=E.out.JY.kept (zAb _) λ_ _=>rfl;have B:Hid (zb w w2.drew):=jY z.out;have f:w.heap.size<=w2.drew.heap.size:=B.out.size;go_wp2_with fail;go_region_with (first
  |(go_at_call 216;refine(Gj v.out u.out I m).mono ?_;rintro e w3 (⟨_,rfl,rfl,g⟩|⟨c,rfl,he⟩);rotate_left;exact⟨rfl,.told he⟩;dsimp only))
 all_goals
  have y:Hid (zb w w3):=bE B.out g f
  clear g p q
  go_wp2
  go_ret2
  exact .of ⟨rfl,y.out⟩
end
structure Base (w:zW):Prop where
 gW:mQ w
 iM:fF w
 low:zq.globals.size<w.heap.size
def Base.below {w w':zW}{B:Nat}(h:Base w)(a:Below B w w')(b:w.heap.size<=B):Base w':=
 ⟨h.gW.kept λx c=>a.block x (by have:=h.low;omega),h.iM.below a b,zAc h.low a.size⟩
def Ua {w}(h:Base w)(k room t c:Nat)(j:1<=k)(g:k<=32)(f:room<=1000000)(n:dJ w t (aC aD k) (aC aD room) (aK ⟨(dg k [0]).toArray⟩) (aJ (aA ⟨c,0,aB⟩) 1 1) (aC aD 0) 0)(o:w.heap[c]? =aA (aI #[.pointer aB] 264 (0,0)))(d:zq.globals.size<t)(l:zq.globals.size<c):dA w t k room c 1 [[]]:=by
 refine⟨j,g,h.gW,h.iM,d,l,⟨room,0,n,by omega,f,by omega⟩,⟨λ_=>False,_,o,zAb _,by simp only[maxLen];omega,rfl,λx a=>a.elim,λx a=> ?_,λi us hi=> ?_⟩,λus m=> ?_,by simp,by simp⟩
 .simp only[zAe,zAo,zCa]at a;subst a;exact⟨aB,rfl,λb e=>by cases e⟩
 .match i,hi with
  |0,hi=>simp at hi;subst hi;exact⟨aB,rfl,.nil 0⟩
 .rw[zAm.1 m];exact⟨JC.nil,zBr _⟩
def Te (k room:Nat)(w)(h:Base w)(c:1<=k)(b:k<=32)(f:room<=1000000):
  Calls zq 87 #[aC aD k,aC aD room] w λe g=>∃t i,e=aL (aN (aA ⟨t,0,aB⟩))/\dA g t k room i 1 [[]]/\w.heap.size<=t/\w.heap.size<=i/\zb w g:=by
 have H:=hid h;go_enter (Qz.fn func87),ntmps87;go_wp2_with fail;refine(MY k w c b H.out.iM).mono ?_;rintro e w1 ⟨rfl,d⟩;have B:=hid d;have H1:=hid (H.out.below d (zAb _));go_wp2_with fail;have a:∀(v:zW)(o:Obj),(v.alloc o).heap.size=v.heap.size+1:=λv o=>zBt ..;have k1:Hid (cD ((w1.alloc (aI #[.pointer aB] 264)).alloc (aI #[aC aD (k:Int),aC aD (room:Int),aK ⟨(dg k [0]).toArray⟩,aJ (aA ⟨w1.heap.size,0,aB⟩) 1 1,aC aD 0,aC aD 0] 168)) w1.heap.size 264 #[.pointer aB]):=(cD.new _ _ _).alloc _;have k2:Hid (cD ((w1.alloc (aI #[.pointer aB] 264)).alloc (aI #[aC aD (k:Int),aC aD (room:Int),aK ⟨(dg k [0]).toArray⟩,aJ (aA ⟨w1.heap.size,0,aB⟩) 1 1,aC aD 0,aC aD 0] 168)) (w1.heap.size+1) 168 #[aC aD (k:Int),aC aD (room:Int),aK ⟨(dg k [0]).toArray⟩,aJ (aA ⟨w1.heap.size,0,aB⟩) 1 1,aC aD 0,aC aD 0]):=by have:=cD.new (w1.alloc (aI #[.pointer aB] 264)) 168 #[aC aD (k:Int),aC aD (room:Int),aK ⟨(dg k [0]).toArray⟩,aJ (aA ⟨w1.heap.size,0,aB⟩) 1 1,aC aD 0,aC aD 0];rw[a]at this;exact this
 have j:Hid (zb w1 ((w1.alloc (aI #[.pointer aB] 264)).alloc (aI #[aC aD (k:Int),aC aD (room:Int),aK ⟨(dg k [0]).toArray⟩,aJ (aA ⟨w1.heap.size,0,aB⟩) 1 1,aC aD 0,aC aD 0] 168))):=((zGe _ _).alloc (zAb _) _).alloc (by rw[a];omega) _;generalize(w1.alloc (aI #[.pointer aB] 264)).alloc (aI #[aC aD (k:Int),aC aD (room:Int),aK ⟨(dg k [0]).toArray⟩,aJ (aA ⟨w1.heap.size,0,aB⟩) 1 1,aC aD 0,aC aD 0] 168)=w2 at*;have n:=hid (bE B.out j.out B.out.size);have hl:=H1.out.low;have l:=B.out.size;have m:=hid (Ua (H1.out.below j.out (zAb _)) k room _ _ c b f k2.out k1.out (by omega) hl);go_ret;exact⟨w1.heap.size+1,w1.heap.size,rfl,m.out,by omega,l,n.out⟩
def OS (k a cells:Nat)(w)(g:1<=k)(f:k<=32)(d:1<=a)(h:a<=50)(j:1<=cells)(i:cells<=100000):
  Calls zq 57 #[.agg #[aC aD 0,aC aD k,aC aD a,aC aD cells]] w λe c=>e=aL (.bool aE)/\zb w c:=by
 have r:Hid (zb w (w.alloc (aI #[aC aD 0,aC aD (k:Int),aC aD (a:Int),aC aD (cells:Int)] 23))):=(zGe _ _).alloc (zAb _) _;have b:Hid (cD (w.alloc (aI #[aC aD 0,aC aD (k:Int),aC aD (a:Int),aC aD (cells:Int)] 23)) w.heap.size 23 #[aC aD 0,aC aD (k:Int),aC aD (a:Int),aC aD (cells:Int)]):=cD.new _ _ _;have q:(1:Int)<=(k:Int):=by omega
 have p:(k:Int)<=32:=by omega
 have o:(1:Int)<=(a:Int):=by omega
 have n:(a:Int)<=50:=by omega
 have m:(1:Int)<=(cells:Int):=by omega
 have l:(cells:Int)<=100000:=by omega
 go_enter (Qz.fn func57),ntmps57;go_upto_region 1 with(fail)
 generalize w.alloc (aI #[aC aD 0,aC aD (k:Int),aC aD (a:Int),aC aD (cells:Int)] 23)=w0 at*;have c0:=(b.out.cell 0).trans rfl;have c1:=(b.out.cell 1).trans rfl;have c2:=(b.out.cell 2).trans rfl;have c3:=(b.out.cell 3).trans rfl;go_wp2;go_ret;exact⟨by simp[q,p,o,n,m,l],r.out⟩
def PE (k a room:Nat)(w)(h:Base w)(i:1<=k)(g:k<=32)(f:room<=1000000):
  Calls zq 59 #[.agg #[aC aD 0,aC aD k,aC aD a,aC aD room]] w λe l=>∃t b,e=aL (.iface 146 (aN (aA ⟨t,0,aB⟩)))/\dA l t k room b 1 [[]]/\w.heap.size<=t/\w.heap.size<=b/\zb w l:=by
 have c:Hid (zb w (w.alloc (aI #[aC aD 0,aC aD (k:Int),aC aD (a:Int),aC aD (room:Int)] 23))):=(zGe _ _).alloc (zAb _) _;have d:Hid (cD (w.alloc (aI #[aC aD 0,aC aD (k:Int),aC aD (a:Int),aC aD (room:Int)] 23)) w.heap.size 23 #[aC aD 0,aC aD (k:Int),aC aD (a:Int),aC aD (room:Int)]):=cD.new _ _ _;have H:=hid h;go_enter (Qz.fn func59),ntmps59;go_upto_region 1 with(fail)
 generalize w.alloc (aI #[aC aD 0,aC aD (k:Int),aC aD (a:Int),aC aD (room:Int)] 23)=w0 at*;have c0:=(d.out.cell 0).trans rfl;have c1:=(d.out.cell 1).trans rfl;have c3:=(d.out.cell 3).trans rfl;go_wp2_with fail;refine(Te k room w0 (H.out.below c.out (zAb _)) i g f).mono ?_;rintro e w1 ⟨t,b,rfl,m,p,o,j⟩;have B:=hid (bE c.out j c.out.size);have E:=hid m;have n:=c.out.size;go_wp2;go_ret;exact⟨t,b,rfl,E.out,by omega,by omega,B.out⟩
def JX (k:Nat)(w)(d:fF w)(a:1<=k)(h:k<=32):
  Calls zq 58 #[aC aD k] w λe c=>e=aL (aK ⟨(dg k [3]).toArray⟩)/\zb w c:=by
 have f:=rH k ⟨#[3]⟩ w a h (by decide) d;have H:=hid f;go_enter (Qz.fn func58),ntmps58;go_wp2_with fail;refine H.out.mono ?_;rintro e w1 ⟨rfl,b⟩;have B:=hid b;go_wp2;go_ret;exact⟨rfl,B.out⟩
def Dm {w:zW}{d k a e t room b:Nat}{h:zB}(g:dA w t k room b 1 [[]])(f:w.heap[d]? =aA (aI #[aC aD k,aC aD a,aC aD 0,aJ (aA ⟨e,0,aB⟩) 1 1,.iface 146 (aN (aA ⟨t,0,aB⟩))] 86 (0,0)))(hh:w.heap[e]? =aA (aI #[aK ⟨h.toArray⟩] 9 (0,0)))(hl:h.length<=32)(j:zq.globals.size<d)(i:zq.globals.size<e):
  cJ w d k a 0 e 1 t room b 1 [[]] [h]:=
 ⟨g,j,i,f,rfl,λx c=>by rw[zAm.1 c];exact hl,eR.of _ hh (zAb _) (zAb _) (by simp only[maxLen];omega) rfl rfl (λx c=>by simp only[zAe,zAo,zCa]at c;exact⟨_,c⟩),zBr _⟩
def Af (k a room:Nat)(w:zW)(h:Base w)(r:1<=k)(n:k<=32)(G:1<=a)(F:a<=50)(J:1<=room)(I:room<=100000):
  Calls zq 35 #[.agg #[aC aD 0,aC aD k,aC aD a,aC aD room]] w λe l=>∃d S t j,e=aL (.tuple #[aN (aA ⟨d,0,aB⟩),aC aD 0])/\cJ l d k a 0 S 1 t room j 1 [[]] [dg k [3]]/\w.heap.size<=d/\w.heap.size<=S/\w.heap.size<=t/\w.heap.size<=j/\zb w l:=by
 have L:Hid (zb w (w.alloc (aI #[aC aD 0,aC aD (k:Int),aC aD (a:Int),aC aD (room:Int)] 23))):=(zGe _ _).alloc (zAb _) _;have A:Hid (cD (w.alloc (aI #[aC aD 0,aC aD (k:Int),aC aD (a:Int),aC aD (room:Int)] 23)) w.heap.size 23 #[aC aD 0,aC aD (k:Int),aC aD (a:Int),aC aD (room:Int)]):=cD.new _ _ _;have HB:Hid (Base w):=h;have qC:=h.low;clear h;go_enter (Qz.fn func35),ntmps35;go_upto_region 1 with(fail)
 generalize w.alloc (aI #[aC aD 0,aC aD (k:Int),aC aD (a:Int),aC aD (room:Int)] 23)=w0 at*;go_wp2_with (refine zGm rfl 23 _ rfl w.heap.size rfl 23 _ (0,0) _ A.out ((Qz.eO 23).trans underlying23) rfl (by kernel_rfl) ?_);refine(OS k a room w0 r n G F J I).mono ?_;rintro e w1 ⟨rfl,u⟩;have C:Hid (zb w w1):=bE L.out u L.out.size;have K1:Hid (cD w1 w.heap.size 23 #[aC aD 0,aC aD (k:Int),aC aD (a:Int),aC aD (room:Int)]):=A.out.below u A.out.lt;have H1:Hid (Base w1):=HB.out.below C.out (zAb _);have R:=C.out.size;clear u L A HB;dsimp only;go_upto_region 3 with(fail)
 have M:Hid (∀W,zb w1 W->W.cell? ⟨w.heap.size,0,aB⟩=aA (aC aD 0)/\W.cell? ⟨w.heap.size,1,aB⟩=aA (aC aD (k:Int))/\W.cell? ⟨w.heap.size,2,aB⟩=aA (aC aD (a:Int))/\W.cell? ⟨w.heap.size,3,aB⟩=aA (aC aD (room:Int))/\w.heap.size<W.heap.size):=λW o=>⟨((K1.out.below o K1.out.lt).cell 0).trans rfl,((K1.out.below o K1.out.lt).cell 1).trans rfl,((K1.out.below o K1.out.lt).cell 2).trans rfl,((K1.out.below o K1.out.lt).cell 3).trans rfl,(K1.out.below o K1.out.lt).lt⟩;obtain⟨c0,c1,c2,c3,c4⟩:=M.out w1 (zGe _ _);have y:(dg k [3]).length<=32:=by have:=fE k [3] n;omega
 have z:Hid ((dg k [3]).length<=32):=y;have Z:Hid (∀W,zb w1 W->Calls zq 58 #[aC aD k] W λe l=>e=aL (aK ⟨(dg k [3]).toArray⟩)/\zb W l):=λW o=>JX k W (H1.out.below o (zAb _)).iM r n;have N:Hid (∀W,zb w1 W->Calls zq 59 #[.agg #[aC aD 0,aC aD k,aC aD a,aC aD room]] W λe l=>∃t j,e=aL (.iface 146 (aN (aA ⟨t,0,aB⟩)))/\dA l t k room j 1 [[]]/\W.heap.size<=t/\W.heap.size<=j/\zb W l):=λW o=>PE k a room W (H1.out.below o (zAb _)) r n (by omega);generalize H3:dg k [3]=i at*;have E3:Hid (dg k [3]=i):=H3;clear H3;clear y K1 H1;go_region_held3 (λl=>l.cell? ⟨w.heap.size,0,aB⟩=aA (aC aD 0)/\l.cell? ⟨w.heap.size,1,aB⟩=aA (aC aD (k:Int))/\l.cell? ⟨w.heap.size,2,aB⟩=aA (aC aD (a:Int))/\l.cell? ⟨w.heap.size,3,aB⟩=aA (aC aD (room:Int))) (go_keep) (first
  |(go_at_call 58;
    first
    |(refine(Z.out _ (jY (zGe _ w1))).mono ?_;rintro e wf ⟨rfl,m⟩;have c:Hid (zb w1 wf):=NG m)
    |(refine(Z.out _ f.out).mono ?_;rintro e wf ⟨rfl,m⟩;have c:Hid (zb w1 wf):=bE f.out m f.out.size);
    obtain⟨f0,f1,f2,f3,f4⟩:=M.out wf c.out;dsimp only)
  |(go_at_call 59;
    first
    |(refine(N.out _ (jY (zGe _ w1))).mono ?_;rintro e b ⟨t,j,rfl,B,x,v,g⟩;have f:Hid (zb w1 b):=NG g)
    |(refine(N.out _ c.out).mono ?_;rintro e b ⟨t,j,rfl,B,x,v,g⟩;have f:Hid (zb w1 b):=bE c.out g c.out.size)
    |(refine(N.out _ (c.out.alloc c.out.size _)).mono ?_;rintro e b ⟨t,j,rfl,B,x,v,g⟩;have f:Hid (zb w1 b):=bE (c.out.alloc c.out.size _) g (c.out.alloc c.out.size _).size);
    obtain⟨g0,V,U,T,g4⟩:=M.out b f.out;have H:Hid (dA b t k room j 1 [[]]):=B;have s:=g;clear B;dsimp only))
 .have q:cD (wf.alloc (aI #[aK ⟨i.toArray⟩] 9)) wf.heap.size 9 #[aK ⟨i.toArray⟩]:=cD.new _ _ _;have Y:Hid (cD b wf.heap.size 9 #[aK ⟨i.toArray⟩]):=q.below s q.lt;have D:=c.out.size;have p:(wf.alloc (aI #[aK ⟨i.toArray⟩] 9)).heap.size=wf.heap.size+1:=zBt ..;have E:=f.out.size;have P:Hid (zb w (b.alloc (aI #[aC aD (k:Int),aC aD (a:Int),aC aD 0,aJ (aA ⟨wf.heap.size,0,aB⟩) 1 1,.iface 146 (aN (aA ⟨t,0,aB⟩))] 86))):=(bE C.out f.out R).out.alloc (by omega) _;have K:Hid (cD (b.alloc (aI #[aC aD (k:Int),aC aD (a:Int),aC aD 0,aJ (aA ⟨wf.heap.size,0,aB⟩) 1 1,.iface 146 (aN (aA ⟨t,0,aB⟩))] 86)) b.heap.size 86 #[aC aD (k:Int),aC aD (a:Int),aC aD 0,aJ (aA ⟨wf.heap.size,0,aB⟩) 1 1,.iface 146 (aN (aA ⟨t,0,aB⟩))]):=cD.new _ _ _;have O:Hid (cJ (b.alloc (aI #[aC aD (k:Int),aC aD (a:Int),aC aD 0,aJ (aA ⟨wf.heap.size,0,aB⟩) 1 1,.iface 146 (aN (aA ⟨t,0,aB⟩))] 86)) b.heap.size k a 0 wf.heap.size 1 t room j 1 [[]] [i]):=Dm (H.out.below ((zGe _ _).alloc (zAb _) _) (zAb _)) K.out (Y.out.alloc _) z.out (by omega) (by omega);generalize b.alloc (aI #[aC aD (k:Int),aC aD (a:Int),aC aD 0,aJ (aA ⟨wf.heap.size,0,aB⟩) 1 1,.iface 146 (aN (aA ⟨t,0,aB⟩))] 86)=w9 at*;clear q s g m c0 c1 c2 c3 f0 f1 f2 f3 g0 V U T Y K;go_wp2;go_ret2;exact⟨b.heap.size,wf.heap.size,t,j,rfl,by rw[E3.out];exact O.out,by omega,by omega,by omega,by omega,P.out⟩
 .have D:=c.out.size;have E:=f.out.size;have p:∀Q,(b.alloc Q).heap.size=b.heap.size+1:=λQ=>zBt ..;have X:Hid (cD ((b.alloc (aI #[aK ⟨i.toArray⟩] 9)).alloc (aI #[aC aD (k:Int),aC aD (a:Int),aC aD 0,aJ (aA ⟨b.heap.size,0,aB⟩) 1 1,.iface 146 (aN (aA ⟨t,0,aB⟩))] 86)) b.heap.size 9 #[aK ⟨i.toArray⟩]):=(cD.new _ _ _).alloc _;have K:Hid (cD ((b.alloc (aI #[aK ⟨i.toArray⟩] 9)).alloc (aI #[aC aD (k:Int),aC aD (a:Int),aC aD 0,aJ (aA ⟨b.heap.size,0,aB⟩) 1 1,.iface 146 (aN (aA ⟨t,0,aB⟩))] 86)) (b.heap.size+1) 86 #[aC aD (k:Int),aC aD (a:Int),aC aD 0,aJ (aA ⟨b.heap.size,0,aB⟩) 1 1,.iface 146 (aN (aA ⟨t,0,aB⟩))]):=by
   have:=cD.new (b.alloc (aI #[aK ⟨i.toArray⟩] 9)) 86 #[aC aD (k:Int),aC aD (a:Int),aC aD 0,aJ (aA ⟨b.heap.size,0,aB⟩) 1 1,.iface 146 (aN (aA ⟨t,0,aB⟩))];rw[p]at this;exact this
  have be:zb b ((b.alloc (aI #[aK ⟨i.toArray⟩] 9)).alloc (aI #[aC aD (k:Int),aC aD (a:Int),aC aD 0,aJ (aA ⟨b.heap.size,0,aB⟩) 1 1,.iface 146 (aN (aA ⟨t,0,aB⟩))] 86)):=((zGe _ _).alloc (zAb _) _).alloc (by rw[p];omega) _;have P:Hid (zb w ((b.alloc (aI #[aK ⟨i.toArray⟩] 9)).alloc (aI #[aC aD (k:Int),aC aD (a:Int),aC aD 0,aJ (aA ⟨b.heap.size,0,aB⟩) 1 1,.iface 146 (aN (aA ⟨t,0,aB⟩))] 86))):=bE (bE C.out f.out R).out be (by omega);have O:Hid (cJ ((b.alloc (aI #[aK ⟨i.toArray⟩] 9)).alloc (aI #[aC aD (k:Int),aC aD (a:Int),aC aD 0,aJ (aA ⟨b.heap.size,0,aB⟩) 1 1,.iface 146 (aN (aA ⟨t,0,aB⟩))] 86)) (b.heap.size+1) k a 0 b.heap.size 1 t room j 1 [[]] [i]):=Dm (H.out.below be (zAb _)) K.out X.out z.out (by omega) (by omega);generalize(b.alloc (aI #[aK ⟨i.toArray⟩] 9)).alloc (aI #[aC aD (k:Int),aC aD (a:Int),aC aD 0,aJ (aA ⟨b.heap.size,0,aB⟩) 1 1,.iface 146 (aN (aA ⟨t,0,aB⟩))] 86)=w9 at*;clear s g m c0 c1 c2 c3 f0 f1 f2 f3 g0 V U T X K be;go_wp2;go_ret2;exact⟨b.heap.size+1,b.heap.size,t,j,rfl,by rw[E3.out];exact O.out,by omega,by omega,by omega,by omega,P.out⟩
def Ns (k a:Nat)(h r:zB)(w:zW)(l:fF w)(i:1<=k)(g:k<=32)(hh:h.length<=32)(x:r.length<=32)(o:a<=2000000):
  Calls zq 40 #[aC aD k,aK ⟨h.toArray⟩,aC aD a,aK ⟨r.toArray⟩] w λe w'=>e=aL (aK ⟨(dg k (3::(h++eight a++r))).toArray⟩)/\zb w w':=by
 have s:Hid (fF w):=l;have u:Hid (∀W (m:ByteArray),m.size<=1000->fF W->Calls zq 53 #[aC aD k,aK m] W λe w'=>e=aL (aK ⟨(dg k m.data.toList).toArray⟩)/\zb W w'):=λW m y q=>rH k m W i g (by omega) q;have p:(eight a).length=8:=by simp[eight]
 clear l;go_enter (Qz.fn func40),ntmps40;go_wp2_with fail;refine(tH a w).mono ?_;rintro e w1 ⟨rfl,f⟩;have B:Hid (zb w w1):=f;clear f;generalize n:eight a=E at*;have j:Hid (eight a=E):=n;clear n;dsimp only;go_wp2_with fail;refine(u.out w1 _ ?_ (s.out.below B.out (zAb _))).mono ?_
 .simp only[ByteArray.size_append];show 1+h.toArray.size+E.toArray.size+r.toArray.size<=1000;simp only[zAr];omega
 rintro e w2 ⟨rfl,c⟩;have v:Hid (zb w w2):=bE B.out c B.out.size;clear c;dsimp only;go_wp2;go_ret;exact⟨by rw[j.out];congr 5,v.out⟩
def jV (w:zW)(d hb t b:Nat):zP:=λx=>x=d\/x=hb\/jD w t b x
def dN.four {w w1 w' d hb c t b b'}(h:dN (jV w d hb t b) w w1)(j:dN (jV w1 d c t b') w1 w')(i:c=hb\/w.heap.size<=c)(g:b'=b\/w.heap.size<=b'):dN (jV w d hb t b) w w':=h.then j λx a bW f e=>by
 obtain a|a|a|a|a:=a
 .exact f (aG a)
 .obtain i|i:=i
  .exact f (aH (aG (a.trans i)))
  .omega
 .exact f (aH (aH (aG a)))
 .obtain g|g:=g
  .exact f (aH (aH (aH (aG (a.trans g)))))
  .omega
 .exact f (aH (aH (aH (aH (a.same e.symm)))))
section
variable {w w':zW}{d k win first hb dH t room b cap:Nat}{S:List (List bS)}{H:zLL}
def FF {x y:Nat}{cs cs' c ty j i}(g:w.heap[x]? =aA (aI cs c j))(h:w.heap[y]? =aA (aI cs' ty i))(a:c≠ty):x≠y:=λe=>by subst e;rw[g]at h;injection h with h;injection h with _ f;exact a f
def cJ.ne (h:cJ w d k win first hb dH t room b cap S H):d≠hb/\d≠t/\d≠b/\hb≠t/\hb≠b:=by obtain⟨a,c1⟩:=h.JY.lf;obtain⟨ct,t1⟩:=h.JY.jl;obtain⟨c,e,_⟩:=eR.row h.fX;exact⟨FF h.at' e (by decide),FF h.at' t1 (by decide),FF h.at' c1 (by decide),FF e t1 (by decide),FF e c1 (by decide)⟩
def cJ.two (h:cJ w d k win first hb dH t room b cap S H):¬jD w t b d/\¬jD w t b hb:=by
 obtain⟨i,f,n3,e,n⟩:=h.ne;obtain⟨c,g,_⟩:=eR.row h.fX;refine⟨λa=> ?_,λa=> ?_⟩
 .obtain a|a|a:=a
  .exact f a
  .exact n3 a
  .exact a.ne h.at' (by decide) rfl
 .obtain a|a|a:=a
  .exact e a
  .exact n a
  .exact a.ne g (by decide) rfl
def cJ.less {room':Nat}(h:cJ w d k win first hb dH t room b cap S H)(a:room'<=room):cJ w d k win first hb dH t room' b cap S H:=⟨h.JY.less a,h.Oz,h.qC,h.at',h.hlen,h.Nu,h.fX,h.f1⟩
def cJ.bW (h:cJ w d k win first hb dH t room b cap S H):hb<w.heap.size:=by obtain⟨c,e,_⟩:=eR.row h.fX;exact(zAa.1 e).1
def vD {c:Nat}(h:cJ w d k win first hb dH t (room+c) b cap S H)(I:c<S.length):
  Calls zq 41 #[aN (aA ⟨d,0,aB⟩),aC aD c] w λe w'=>e=aL (.tuple #[])/\(first+c<=1000000->cJ w' d k win (first+c) hb dH t room b cap (S.drop c) (H.drop c))/\dN (jV w d hb t b) w w':=by
 obtain⟨z,N,n3,M,L⟩:=h.ne;have u:=ZZ h.JY I;have G:∀W,(method (zq.types.size+100) 146 (aN (aA ⟨t,0,aB⟩)) "Forget").run zq W= .ok (214,aN (aA ⟨t,0,aB⟩)) W:=λW=>reaches (by kernel_rfl) _ W;have D:w.cell? ⟨d,4,aB⟩=aA (.iface 146 (aN (aA ⟨t,0,aB⟩))):=h.cell 4;have a:Hid (cJ w d k win first hb dH t (room+c) b cap S H):=h;have hlen:=h.JY.len;have P:=h.f1;clear h;go_enter (Qz.fn func41),ntmps41;go_wp2_with fail;refine u.mono ?_;clear u;rintro e w1 ⟨rfl,q,i⟩;have E:Hid (dA w1 t k room b cap (S.drop c)):=q;have V:Hid (dN (jD w t b) w w1):=i;have D1:Hid (cD w1 d 86 #[aC aD k,aC aD win,aC aD first,aJ (aA ⟨hb,0,aB⟩) S.length dH,.iface 146 (aN (aA ⟨t,0,aB⟩))]):=(i.block d a.out.lt a.out.two.1).trans a.out.at';have p:=a.out.fX;have O:Hid (eR PZ w1 hb 9 1 (aJ (aA ⟨hb,0,aB⟩) S.length dH) S.length (fZ H)):=p.kept λg v=>by have e:hb=g:=zAk v;subst e;exact i.block hb a.out.bW a.out.two.2
 clear q i p D G;dsimp only;have F:w1.cell? ⟨d,3,aB⟩=aA (aJ (aA ⟨hb,0,aB⟩) S.length dH):=(D1.out.cell 3).trans rfl;have C:=Pd (S:=PZ) (λx j=>by obtain⟨s,rfl⟩:=j;rfl) (λx j=>by simp[Value.cells]at j;exact⟨_,j⟩) hb hb S.length dH c (fZ H) w1 O.out (by omega) (by omega);go_wp2_with fail;refine C.mono ?_;clear C;rintro e w2 ⟨rfl,m,f⟩;have D2:Hid (cD w2 d 86 #[aC aD k,aC aD win,aC aD first,aJ (aA ⟨hb,0,aB⟩) S.length dH,.iface 146 (aN (aA ⟨t,0,aB⟩))]):=D1.out.grown f (λe=>by injection e with e;exact z e);obtain⟨A,r,_⟩:=eR.row O.out;have K:Hid (dA w2 t k room b cap (S.drop c)):=E.out.other f r (by decide) a.out.qC;have J:Hid (dN (jV w d hb t b) w w2):=(V.out.mono λx j=>aH (aH j)).trans (dN.grown f (aH (aG rfl)));have B:Hid (eR PZ w2 hb 9 1 (aJ (aA ⟨hb,0,aB⟩) (S.length-c) dH) (S.length-c) (fZ (H.drop c))):=by have e:List.drop c (fZ H)=fZ (H.drop c):=by{simp[fZ]};rw[e]at m;exact m
 have p3:w2.cell? ⟨d,3,aB⟩=aA (aJ (aA ⟨hb,0,aB⟩) S.length dH):=(D2.out.cell 3).trans rfl;have p2:w2.cell? ⟨d,2,aB⟩=aA (aC aD first):=(D2.out.cell 2).trans rfl;have f3:=D2.out.frozen 3;have f2:=D2.out.frozen 2;clear m f r F E V O D1;dsimp only;go_wp2_with fail;go_end0;have n:(w2.setCell ⟨d,3,aB⟩ (aJ (aA ⟨hb,0,aB⟩) (S.length-c) dH)).setCell ⟨d,2,aB⟩ (aC aD ((first:Int)+(c:Int)))=w2.setRow d (#[aC aD k,aC aD win,aC aD ((first:Int)+(c:Int)),aJ (aA ⟨hb,0,aB⟩) (S.length-c) dH,.iface 146 (aN (aA ⟨t,0,aB⟩))]:zA):=by rw[setCell_eq_setRow w2 d 3 _ _ (0,0) _ D2.out,setCell_eq_setRow _ d 2 _ _ (0,0) _ (D2.out.dV _),setRow_setRow];rfl
 have l:=kW w2 d (#[aC aD k,aC aD win,aC aD ((first:Int)+(c:Int)),aJ (aA ⟨hb,0,aB⟩) (S.length-c) dH,.iface 146 (aN (aA ⟨t,0,aB⟩))]:zA);have o:=D2.out.dV (#[aC aD k,aC aD win,aC aD ((first:Int)+(c:Int)),aJ (aA ⟨hb,0,aB⟩) (S.length-c) dH,.iface 146 (aN (aA ⟨t,0,aB⟩))]:zA);rw[n];refine⟨rfl,λy=>⟨K.out.other l D2.out (by decide) a.out.Oz,a.out.Oz,a.out.qC,by rw[zCh];exact o,by rw[zCh,zCh,a.out.hlen],λx j=>a.out.Nu x (zEn j),?_,y⟩,J.out.trans (dN.grown l (aG rfl))⟩;rw[zCh];exact B.out.kept λg v=>by have e:hb=g:=zAk v;subst e;exact l.block hb ((eR.lt B.out hb rfl).2) (λe=>by injection e with e;exact z e.symm)
end
end Go.Proofs.Zq
