import Derived.Shelf.Strconv.Clone
import Derived.Lib.Bytealg
import Derived.Defers
import Derived.Maps.AppendAt
import Derived.Laws.CopyRow
import Derived.Lib.AppendStr
import Derived.Test.YtghpcgagijhlaaaGreatDoorC06
set_option linter.all false
set_option maxRecDepth 100000
set_option maxHeartbeats 16000000
open Option renaming some->aA,none->aB
open Bool renaming true->aF,false->aG
open Or renaming inl->aH,inr->aI
open Go.Ending renaming returned->aM
open Go.Obj renaming cells->aJ
open Go.IntKind renaming i64->aD,u8->aQ
open Go.Value renaming slice->aK,string->aL,pointer->aO,int->aC
open Array renaming replicate_zero->aEY,toList_append->aEZ
open Bool renaming eq_iff_iff->aE0
open Go.Lib renaming compareBytes->aE1
open Go.Result renaming andThen_ok->aE2
open Int renaming tmod_eq_zero_of_dvd->aE3,dvd_of_emod_eq_zero->aE4,emod_eq_zero_of_dvd->aE5,dvd_of_tmod_eq_zero->aE6
open Nat renaming succ_mul->aE7,mul_add->aE8,add_le_add->aE9,pow_succ->aFa,pow_zero->aFb,div_one->aFc,mul_comm->aFd,div_div_eq_div_mul->aFe,le_of_eq->aFf,add_mul->aFg,mul_le_mul_right->aFh,min_eq_left->aFi
open Option.some renaming injEq->aEr
open Prod.mk renaming injEq->aFj
open UInt8 renaming ofNat->aEX,lt_irrefl->aFk,toNat_lt->aFl
open Go.Proofs.Tryz
namespace Go.Proofs
open Go.Shelf
def Qz.OG:Go.Shelf.Ren:=⟨λ|316=>100|n=>n,λ|9=>9|3=>3|4=>4|37=>50|0=>0|127=>184|5=>5|n=>n,λ|n=>n⟩
def Qz.Md:Go.Proofs.LaysM.n316 zq Qz.OG:={
 mixed:=by kernel_rfl
 f316:=(Qz.fn func100).trans (congrArg aA (by kernel_rfl))
 t0:=((Qz.eZ 0).trans Tryz.underlying0)
 a0:=(λw=>(Qz.isAgg w 0).trans (Tryz.isAgg0 w))
 z0:=(λw=>(Qz.sizeOf w 0).trans (Tryz.sizeOf0 w))
 v0:=(λw=>(Qz.zeroValue w 0).trans (Tryz.zeroValue0 w))
 t3:=((Qz.eZ 3).trans Tryz.underlying3)
 a3:=(λw=>(Qz.isAgg w 3).trans (Tryz.isAgg3 w))
 z3:=(λw=>(Qz.sizeOf w 3).trans (Tryz.sizeOf3 w))
 v3:=(λw=>(Qz.zeroValue w 3).trans (Tryz.zeroValue3 w))
 t4:=((Qz.eZ 4).trans Tryz.underlying4)
 a4:=(λw=>(Qz.isAgg w 4).trans (Tryz.isAgg4 w))
 z4:=(λw=>(Qz.sizeOf w 4).trans (Tryz.sizeOf4 w))
 v4:=(λw=>(Qz.zeroValue w 4).trans (Tryz.zeroValue4 w))
 t9:=((Qz.eZ 9).trans Tryz.underlying9)
 a9:=(λw=>(Qz.isAgg w 9).trans (Tryz.isAgg9 w))
 z9:=(λw=>(Qz.sizeOf w 9).trans (Tryz.sizeOf9 w))
 v9:=(λw=>(Qz.zeroValue w 9).trans (Tryz.zeroValue9 w))
 t37:=((Qz.eZ 50).trans Tryz.underlying50)
 a37:=(λw=>(Qz.isAgg w 50).trans (Tryz.isAgg50 w))
 z37:=(λw=>(Qz.sizeOf w 50).trans (Tryz.sizeOf50 w))
 v37:=(λw=>(Qz.zeroValue w 50).trans (Tryz.zeroValue50 w))
 t127:=((Qz.eZ 184).trans Tryz.underlying184)
 a127:=(λw=>(Qz.isAgg w 184).trans (Tryz.isAgg184 w))
 z127:=(λw=>(Qz.sizeOf w 184).trans (Tryz.sizeOf184 w))
 v127:=(λw=>(Qz.zeroValue w 184).trans (Tryz.zeroValue184 w))
 t5:=((Qz.eZ 5).trans Tryz.underlying5)
 a5:=(λw=>(Qz.isAgg w 5).trans (Tryz.isAgg5 w))
 z5:=(λw=>(Qz.sizeOf w 5).trans (Tryz.sizeOf5 w))
 v5:=(λw=>(Qz.zeroValue w 5).trans (Tryz.zeroValue5 w))
 i0:=by kernel_rfl
 i3:=by kernel_rfl
 i4:=by kernel_rfl
 i5:=by kernel_rfl
 i9:=by kernel_rfl
 i37:=by kernel_rfl
 i127:=by kernel_rfl}
open Go.RowKit in
def Qz.stringslite_Clone (s:ByteArray)(w:zW)(h:s.size<=281474976710656):
  Calls zq 100 #[aL s] w λe a=>e=aM (aL s)/\zb w a:=Any.stringslite_Clone Qz.Md s w h
end Go.Proofs
namespace Go.Proofs.Zq
open Go.RowKit Sha
def YK (r idx)(w)(d:1<=r.size)(c:r.size<=32)(b:idx.size=32):Calls zq 54 #[aL r,aL idx] w λe a=>e=aM (.bool aF)/\a=w:=by go_enter (Qz.fn func54),ntmps54;go_wp2_with fail;refine(BR _ w (by omega) (by omega)).mono ?_;rintro e w2 ⟨rfl,h⟩;obtain rfl:w=w2:=h.symm;go_wp2;go_ret;exact⟨rfl,rfl⟩
def MD (s)(w)(h:s.size<=1000):Calls zq 85 #[aL s] w λe a=>e=aM (aL s)/\zb w a:=by go_enter (Qz.fn func85),ntmps85;go_wp2_with fail;refine(Qz.stringslite_Clone s w (by omega)).mono ?_;rintro e w2 ⟨rfl,hb⟩;have H:=hid hb;go_wp2;go_ret;exact⟨rfl,H.out⟩
def dV (c:Int)(n:Int):Int:=(if c<0 then-(c+1)else c)%n
def SE (c)(n)(h:0<n):0<=dV c n/\dV c n<n:=⟨Int.emod_nonneg _ (by omega),Int.emod_lt_of_pos _ h⟩
def iL (c)(n:Nat)(h:0<n):∃m:Nat,dV c (n)=(m)/\m<n:=by obtain⟨b,a⟩:=SE c n (by omega);exact⟨(dV c n).toNat,by omega,by omega⟩
def pW (c n)(w)(i: -9223372036854775808<=c)(g:c<=9223372036854775807)(f:1<=n)(d:n<=256):
  Calls zq 15 #[aC aD c,aC aD n] w λe b=>e=aM (aC aD (dV c n))/\b=w:=by
 by_cases a:c<0
 .have h:Hid (dV c n= -(c+1).tmod n):=by{show _=_;rw[dV,zAv a,<-Int.neg_tmod,Int.tmod_eq_emod_of_nonneg (by omega)]};go_enter (Qz.fn func15),ntmps15;go_wp2;go_ret;exact⟨by rw[h.out];rfl,rfl⟩
 .have h:Hid (dV c n=c%n):=by{show _=_;rw[dV,zAt a]};go_enter (Qz.fn func15),ntmps15;go_wp2;go_ret;exact⟨by rw[h.out];rfl,rfl⟩
def rH (l:zB):zA:=(l.map λb=>Value.int aQ (b.toNat:Int)).toArray
def KC (l)(i)(h:i<l.length):(rH l)[i]? =aA (aC aQ ((l.getD i 0).toNat:Int)):=by simp[rH,h]
def KB (l)(i)(b:UInt8):(rH l).setIfInBounds i (aC aQ (b.toNat:Int))=rH (l.set i b):=by apply zDx.1;rw[zGa];simp[rH,List.map_set]
def WA (n:Nat):zA:=rH (List.replicate n 0)
def YM (n:Nat)(e:n<=1000)(W):(Instr.makeSlice 50 (aC aD (n)) (aC aD (n))).run zq W= .ok (aK (aA ⟨W.heap.size,0,aB⟩) n n) (W.alloc (aJ (WA n) 5)):=by
 obtain⟨i,d,c,b,a⟩:=Hr;have:=run_make W 50 5 i (aC aQ 0) ((Qz.eZ 50).trans underlying50) d c aD aD (n:Int) (n:Int) (by omega) (Int.le_refl _) (by rw[a];omega) (by omega);have h:(madeCells (Value.int aQ 0).cells n)=WA n:=by apply zDx.1;rw[show(Value.int aQ 0).cells= #[Value.int aQ 0]from rfl,toList_madeCells_one];simp[WA,rH]
 rw[this,b,zEa,show((n:Int)).toNat=n from by omega,h]
def NC {W:zW}{g:Nat}{l:zB}(h:cB W g 5 (rH l))(c:Nat):(convert 50 9 (aK (aA ⟨g,0,aB⟩) l.length c)).run zq W= .ok (aL ⟨l.toArray⟩) W:=
 pH (P:=zq) W 50 9 5 g 0 c l ((Qz.eZ 50).trans underlying50) ((Qz.eZ 5).trans underlying5) ((Qz.eZ 9).trans underlying9) (λj a=>by rw[zAz,h.cell j];exact KC l j a)
def idxOf (n:Int):zB:=((List.replicate 32 0).set 0 (aEX ((dV n 64).toNat/2*8))).set 31 (aEX ((dV n 64).toNat%2))
def kK (n):(idxOf n).length=32:=by simp[idxOf]
def sW (n)(w)(q: -9223372036854775808<=n)(p:n<=9223372036854775807):
  Calls zq 22 #[aC aD n] w λe d=>e=aM (aL ⟨(idxOf n).toArray⟩)/\zb w d:=by
 have a:∀W,(Instr.makeSlice 50 (aC aD 32) (aC aD 32)).run zq W= .ok (aK (aA ⟨W.heap.size,0,aB⟩) 32 32) (W.alloc (aJ (WA 32) 5)):=YM 32 (by omega);have r:Hid (zb w (w.alloc (aJ (WA 32) 5))):=(zGm _ _).alloc (zAb _) _;have k:Hid (cB (w.alloc (aJ (WA 32) 5)) w.heap.size 5 (rH (List.replicate 32 0))):=cB.new _ _ _;go_enter (Qz.fn func22),ntmps22;go_wp2_with fail;generalize w.alloc (aJ (WA 32) 5)=w0 at*;refine(pW n 64 w0 q p (by omega) (by omega)).mono ?_;rintro e w2 ⟨rfl,h⟩;obtain rfl:w0=w2:=h.symm;clear h a;obtain⟨m,b,c⟩:=iL n 64 (by omega);have H:Hid (dV n 64=(m:Int)):=b;rw[show dV n 64=(m:Int)from b];clear b;have l:((m:Int)/2*8)=((aEX (m/2*8)).toNat:Int):=by rw[zEt];omega
 have j:((m:Int)%2)=((aEX (m%2)).toNat:Int):=by rw[zEt];omega
 have o:Hid (idxOf n=((List.replicate 32 0).set 0 (aEX (m/2*8))).set 31 (aEX (m%2))):=by rw[idxOf,H.out];rfl
 have i:=(aEX (m/2*8)).toNat_lt;have g:=(aEX (m%2)).toNat_lt;generalize aEX (m/2*8)=x at*;generalize aEX (m%2)=y at*;have t:w0.cell? ⟨w.heap.size,0,aB⟩=aA (aC aQ 0):=by rw[k.out.cell];rfl
 have f0:=k.out.frozen 0;have k1:Hid (cB (w0.setCell ⟨w.heap.size,0,aB⟩ (aC aQ (x.toNat:Int))) w.heap.size 5 (rH ((List.replicate 32 0).set 0 x))):=by have:=k.out.dT 0 (aC aQ (x.toNat:Int));rw[KB]at this;exact this
 have s:(w0.setCell ⟨w.heap.size,0,aB⟩ (aC aQ (x.toNat:Int))).cell? ⟨w.heap.size,31,aB⟩=aA (aC aQ 0):=by rw[k1.out.cell,KC _ _ (by simp)];rfl
 have f1:=k1.out.frozen 31;have k2:Hid (cB ((w0.setCell ⟨w.heap.size,0,aB⟩ (aC aQ (x.toNat:Int))).setCell ⟨w.heap.size,31,aB⟩ (aC aQ (y.toNat:Int))) w.heap.size 5 (rH (idxOf n))):=by have:=k1.out.dT 31 (aC aQ (y.toNat:Int));rw[KB,<-o.out]at this;exact this
 have f:(convert 50 9 (aK (aA ⟨w.heap.size,0,aB⟩) 32 32)).run zq ((w0.setCell ⟨w.heap.size,0,aB⟩ (aC aQ (x.toNat:Int))).setCell ⟨w.heap.size,31,aB⟩ (aC aQ (y.toNat:Int)))= .ok (aL ⟨(idxOf n).toArray⟩) ((w0.setCell ⟨w.heap.size,0,aB⟩ (aC aQ (x.toNat:Int))).setCell ⟨w.heap.size,31,aB⟩ (aC aQ (y.toNat:Int))):=by have:=NC k2.out 32;rw[kK]at this;exact this
 have i1:(0:Int)<=(m:Int)/2*8:=by omega
 have i2:(m:Int)/2*8<256:=by omega
 go_wp2;go_ret;exact⟨rfl,(r.out.setCell (by simp) _).setCell (by simp) _⟩
def valOf (n:Int):zB:=List.replicate ((dV n 30).toNat%5) (aEX (97+(dV n 30).toNat))
def vT (n):(valOf n).length<=4:=by rw[valOf,List.length_replicate];omega
def AX (n)(w)(z: -9223372036854775808<=n)(y:n<=9223372036854775807):
  Calls zq 37 #[aC aD n] w λe g=>e=aM (aL ⟨(valOf n).toArray⟩)/\zb w g:=by
 go_enter (Qz.fn func37),ntmps37;go_wp2_with fail;refine(pW n 30 w z y (by omega) (by omega)).mono ?_;rintro e w2 ⟨rfl,h⟩;obtain rfl:w=w2:=h.symm;obtain⟨m,d,c⟩:=iL n 30 (by omega);have A:Hid (dV n 30=(m:Int)):=d;rw[show dV n 30=(m:Int)from d];have H:Hid (valOf n=List.replicate (m%5) (aEX (97+m))):=by show _=_;rw[valOf,A.out];rfl
 have f:(97:Int)+(m:Int)=((aEX (97+m)).toNat:Int):=by rw[zEt];omega
 have B:=hid f;clear f;obtain⟨r,a⟩:∃r:Nat,r=m%5:=⟨_,rfl⟩;have p:(m:Int)%5=(r:Int):=by omega
 have s:r<5:=by omega
 rw[<-a]at H;clear a;generalize aEX (97+m)=b at*;have t:=b.toNat_lt;go_wp2;go_loopg [4,5] r (λq x i wr=>∃j:Nat,j+q=r/\i=aC aD (j:Int)/\x=aL ⟨(List.replicate j b).toArray⟩/\zb w wr);case atStart=>exact⟨0,by omega,rfl,rfl,zGm _ _⟩
 case round=>
  obtain⟨j,D,rfl,rfl,c1⟩:=hrel
  have C:=hid c1
  clear c1
  by_cases bT:j<r
  .have k:(⟨(List.replicate j b).toArray⟩:ByteArray).size=j:=by show(List.replicate j b).length=j;simp
   have o:(convert 50 9 (aK (aA ⟨wr.heap.size,0,aB⟩) 1 1)).run zq (wr.alloc (aJ #[aC aQ (b.toNat:Int)] 5))= .ok (aL ⟨#[b]⟩) (wr.alloc (aJ #[aC aQ (b.toNat:Int)] 5)):=NC (l:=[b]) (cB.new _ _ _) 1;have v:Hid ((⟨(List.replicate j b).toArray⟩:ByteArray)++⟨#[b]⟩=⟨(List.replicate (j+1) b).toArray⟩):=by apply zFy;apply zDx.1;simp[zDt,List.replicate_succ']
   have u:=B.out;generalize(⟨(List.replicate j b).toArray⟩:ByteArray)=X at*;go_wp2;go_roundg (r-(j+1));case measure=>omega
   case rel=>
    go_light
    exact⟨j+1,by omega,by go_num,by rw[<-v.out],C.out.alloc C.out.size _⟩
  .obtain rfl:j=r:=by{omega};go_wp2;go_ret;exact⟨by rw[H.out];rfl,C.out⟩
def EP (k:Nat)(s:ByteArray)(w:zW)(a:1<=k)(h:k<=32)(hs:s.size<=140737488351232)(b:fF w):
  Calls zq 17 #[aC aD k,aL s] w λe c=>e=aM (aL ⟨(dg k s.data.toList).toArray⟩)/\zb w c:=by
 go_enter (Qz.fn func17),ntmps17;go_wp2_with fail;refine(GQ k s w a h hs b).mono ?_;rintro e w1 ⟨rfl,hb⟩;have B:Hid (zb w w1):=hb;clear hb b;rw[Yd];go_wp2;go_ret;exact⟨rfl,B.out⟩
structure bK where
 idx:zB
 val:zB
 gone:Bool
def bK.cells (u:bK):zV:=[aL ⟨u.idx.toArray⟩,aL ⟨u.val.toArray⟩,.bool u.gone]
def cE (l:List bK):zV:=l.flatMap bK.cells
def uJ (u)(l):cE (u::l)=u.cells++cE l:=rfl
def uI (l)(u):cE (l++[u])=cE l++u.cells:=by simp[cE]
def mC (l):(cE l).length=l.length*3:=by
 induction l with
 |nil=>rfl
 |cons u l i=>rw[uJ,zAc,i,zAf];show 3+_=_;omega
def qG (l):∀(i)(u),l[i]? =aA u->∀j,j<3->(cE l)[i*3+j]? =u.cells[j]? :=by
 induction l with
 |nil=>intro i u h;cases h
 |cons a l b=>
  intro i u h j c;rw[uJ];cases i with
  |zero=>simp only[zCw,aEr]at h;subst h;rw[zCh (by show _<3;omega)];simp
  |succ i=>rw[zBh (by show 3<=_;omega),show(i+1)*3+j-a.cells.length=i*3+j by show(i+1)*3+j-3=_;omega];exact b i u (by simpa using h) j c
def vU (u:bK):∀x∈u.cells,x.oneCell'=aF:=by intro x h;simp only[bK.cells,zAg,zAo,zCe]at h;obtain rfl|rfl|rfl:=h<;>rfl
def cI (w:zW)(base:Nat)(v:zY)(l:List bK):Prop:=w.ownsRow base 53 3 v l.length (cE l)
def cI.nil (w)(base):cI w base (aK aB 0 0) []:=World.ownsRow_nil _ _ _ _
def cI.alloc {w base v l}(h:cI w base v l)(o):cI (w.alloc o) base v l:=World.ownsRow.alloc h o
def cI.lt {w base v l}(h:cI w base v l):∀k,v.ownBlock=aA k->base<=k/\k<w.heap.size:=World.ownsRow.lt h
def cI.kept {w w' base v l}(h:cI w base v l)(b:∀g,v.ownBlock=aA g->w'.heap[g]? =w.heap[g]?):cI w' base v l:=by
 obtain⟨d,a⟩:=h;refine⟨d,?_⟩;obtain a|⟨g,cap,cur,rfl,hb,c,r⟩:=a
 .exact aH a
 .exact aI ⟨g,cap,cur,rfl,hb,by rw[b g rfl];exact c,r⟩
def cI.below {w w':zW}{B base:Nat}{v:zY}{l:List bK}(h:cI w base v l)(b:Below B w w')(c:w.heap.size<=B):cI w' base v l:=
 h.kept λg a=>b.block g (zAd (h.lt g a).2 c)
def DM:∃i,zq.info? 53=aA i/\i.zero=aA (.agg #[aL ⟨#[]⟩,aL ⟨#[]⟩,.bool aG])/\i.size=3/\i.bytes=40:=by
 have h:(zq.info? 53).map (λi=>(i.zero,i.size,i.bytes))=aA (aA (.agg #[aL ⟨#[]⟩,aL ⟨#[]⟩,.bool aG]),3,40):=by kernel_rfl
 cases a:zq.info? 53 with
 |none=>rw[a]at h;cases h
 |some i=>rw[a]at h;simp only[zBf,aEr,aFj]at h;exact⟨i,rfl,h.1,h.2.1,h.2.2⟩
def jP {W ops rest o a Q}(f:o.guard=aB)(s x)
  (r:o.op= .call {callee:= .builtin .append,args:= #[s,x],argTypes:= #[48,48]})
  (base) (v) (l) (hs:a.eval s=v) (b:cI W base v l) (u) (c) (q:a.eval x=aK (aA ⟨W.heap.size,0,aB⟩) 1 c)
  (z:l.length<=1000000) (m:base<=W.heap.size)
  (h:∀g cap w',cI w' base (aK (aA ⟨g,0,aB⟩) (l.length+1) cap) (l++[u])->W.grownBy w' v.ownBlock->wpList zq ops Q rest (a.put o.dst (aK (aA ⟨g,0,aB⟩) (l.length+1) cap)) w'):wpList zq ops Q (o::rest) a (W.alloc (aJ #[aL ⟨u.idx.toArray⟩,aL ⟨u.val.toArray⟩,.bool u.gone] 53)):=by
 obtain⟨i,hi,n,e,k⟩:=DM;refine wpList_append_lies _ f s x 48 r base 53 i _ 3 40 ((Qz.eZ 48).trans underlying48) hi n e k rfl (by omega) v l.length (cE l) hs (World.ownsRow.alloc b _) ⟨W.heap.size,0,aB⟩ 1 c u.cells q rfl (λj y p=> ?_) (vU u) (by omega) (by simp only[maxLen];omega) (by omega) (by rw[size_alloc];omega) _ rfl (λg cap w' w t _ _=>h g cap w' ?_ (kL t))
 .have d:(⟨W.heap.size,0,aB⟩:Addr).add j=⟨W.heap.size,j,aB⟩:=by{unfold Addr.add;split<;>simp_all};rw[d];show(W.alloc (aJ u.cells.toArray 53)).cell? _=_;rw[(cB.new W 53 u.cells.toArray).cell j];simpa using p
 .unfold cI;rw[uI,zAc];exact w
def eL {w0 w w':zW}{B base:Nat}{v:zY}{l:List bK}(d:Below B w0 w)(h:cI w base v l)(c:w.grownBy w' v.ownBlock)(e:B<=base)(a:B<=w.heap.size):Below B w0 w':=
 d.grown c a λk b=>zBc e (h.lt k b).1
def dQ (r:Int×Int):bK:=if r.2%7=0 then⟨idxOf r.1,[],aF⟩else⟨idxOf r.1,valOf r.2,aG⟩
structure tF (w:zW)(v:zY)(l:zII):Prop where
 fits:∀r∈l,-9223372036854775808<=r.1/\r.1<=9223372036854775807/\-9223372036854775808<=r.2/\r.2<=9223372036854775807
 OF:(l=[]/\∃a c,v=aK a 0 c)\/∃g o c,v=aK (aA ⟨g,o,aB⟩) l.length c/\g<w.heap.size/\∀i r,l[i]? =aA r->w.cell? ⟨g,o+i*2,aB⟩=aA (aC aD r.1)/\w.cell? ⟨g,o+i*2+1,aB⟩=aA (aC aD r.2)
def tF.below {w w' B v l}(h:tF w v l)(a:Below B w w')(d:w.heap.size<=B):tF w' v l:=by
 refine⟨h.fits,?_⟩;obtain h1|⟨g,o,c,h1,b,f⟩:=h.OF
 .exact aH h1
 .refine aI ⟨g,o,c,h1,zAd b a.size,λi r e=> ?_⟩;rw[a.cell (zAd b d),a.cell (zAd b d)];exact f i r e
def dC:∀a:zB,Lib.compareBytes a a=0
 |[]=>rfl
 |x::a=>by rw[aE1,zAt (aFk x),zAt (aFk x)];exact dC a
def jC:∀{a b:zB},aE1 a b=0->a=b
 |[],[],_=>rfl
 |[],_::_,h=>by simp[aE1]at h
 |_::_,[],h=>by simp[aE1]at h
 |x::a,y::b,h=>by
  rw[aE1]at h;by_cases d:x<y;{rw[zAv d]at h;cases h}
  .rw[zAt d]at h;by_cases c:y<x
   .rw[zAv c]at h;cases h
   .rw[zAt c]at h;have e:=zGg (zEw.1 c) (zEw.1 d);rw[e,jC h]
def gQ:∀a b:zB,aE1 a b= -1\/aE1 a b=0\/aE1 a b=1
 |[],[]=>aI (aH rfl)
 |[],_::_=>aH rfl
 |_::_,[]=>aI (aI rfl)
 |x::a,y::b=>by
  rw[aE1];by_cases c:x<y;{rw[zAv c];exact aH rfl}
  .rw[zAt c];by_cases h:y<x
   .rw[zAv h];exact aI (aI rfl)
   .rw[zAt h];exact gQ a b
def fS:∀a b:zB,aE1 b a= -aE1 a b
 |[],[]=>rfl
 |[],_::_=>rfl
 |_::_,[]=>rfl
 |x::a,y::b=>by
  rw[aE1,aE1];by_cases h:x<y;{rw[zAv h,zAt (zEw.2 (UInt8.le_of_lt h)),zAv h];rfl}
  .by_cases c:y<x
   .simp only[zAv c,zAt h]
   .simp only[zAt c,zAt h];exact fS a b
def nF:∀{a b c:zB},aE1 a b= -1->aE1 b c= -1->aE1 a c= -1
 |[],[],_,h,_=>by simp[aE1]at h
 |_::_,[],_,h,_=>by simp[aE1]at h
 |[],_::_,[],_,h=>by simp[aE1]at h
 |[],_::_,_::_,_,_=>rfl
 |_::_,_::_,[],_,h=>by simp[aE1]at h
 |x::a,y::b,z::c,h1,i=>by
  rw[aE1]at h1 i⊢;by_cases g:x<y
  .by_cases d:y<z
   .rw[zAv (UInt8.lt_trans g d)]
   .rw[zAt d]at i;by_cases f:z<y
    .rw[zAv f]at i;simp at i
    .have e:=zGg (zEw.1 f) (zEw.1 d);rw[<-e,zAv g]
  .rw[zAt g]at h1;by_cases j:y<x
   .rw[zAv j]at h1;simp at h1
   .rw[zAt j]at h1;have e:=zGg (zEw.1 j) (zEw.1 g);subst e;by_cases d:x<z
    .rw[zAv d]
    .rw[zAt d]at i⊢;by_cases f:z<x
     .rw[zAv f]at i;simp at i
     .rw[zAt f]at i⊢;exact nF h1 i
def gM (l:List rQ):Prop:=l.Pairwise λa b=>aE1 a.1 b.1= -1
def wX (l:List rQ)(u:bK):List rQ:=
 l.filter (λe=>decide (aE1 e.1 u.idx= -1))++((if u.gone then []else [(u.idx,u.val)])++l.filter (λe=>decide (aE1 e.1 u.idx=1)))
def cP (l:List rQ)(us:List bK):List rQ:=us.foldl wX l
def vL {l u}(h:gM l):gM (wX l u):=by
 unfold wX gM;rw[zCg,zCg];refine⟨h.filter _,⟨?_,h.filter _,?_⟩,?_⟩
 .split<;>simp
 .intro a d b c;split at d
  .cases d
  .rw[zAs]at d;subst d;have:=of_decide_eq_true (zBb.1 c).2;rw[fS b.1 u.idx,this]
 .intro a d b c;have e:=of_decide_eq_true (zBb.1 d).2;obtain c|c:=zAi.1 c
  .split at c
   .cases c
   .rw[zAs]at c;subst c;exact e
  .have f:=of_decide_eq_true (zBb.1 c).2;exact nF e (by rw[fS b.1 u.idx,f])
def qL {us}:∀{l},gM l->gM (cP l us):=by
 induction us with
 |nil=>intro l h;exact h
 |cons u us i=>intro l h;exact i (vL h)
def ix (k:Nat):zB:=idxOf (k:Int)
def TS (n):idxOf n=ix (dV n 64).toNat:=by
 unfold ix idxOf;obtain⟨m,h,hl⟩:=iL n 64 (by omega);have e:dV n 64=(m:Int):=h;rw[e,zFp];have a:dV (m:Int) 64=(m:Int):=by unfold dV;rw[zAt (by omega)];omega
 rw[a,zFp]
def KT (n):(dV n 64).toNat<64:=by obtain⟨m,h,hl⟩:=iL n 64 (by omega);have e:dV n 64=(m:Int):=h;rw[e,zFp];exact hl
def tR (k):(ix k).length=32:=kK _
def AA (j k)(a:j<64)(h:k<64):aE1 (ix j) (ix k)=if j<k then-1 else if k<j then 1 else 0:=by
 have H:∀j k:Fin 64,aE1 (ix j.val) (ix k.val)=if j.val<k.val then-1 else if k.val<j.val then 1 else 0:=by decide+kernel
 exact H ⟨j,a⟩ ⟨k,h⟩
abbrev St:=Nat->Option (zB)
def St.put (s:St)(m:Nat)(v:Option (zB)):St:=λk=>if k=m then v else s k
def dJ (s:St)(k:Nat):Option rQ:=(s k).map λv=>(ix k,v)
def cO (s:St):List rQ:=(List.range 64).filterMap (dJ s)
def range_split (m)(b:m<64):List.range 64=List.range m++(m::(List.range (63-m)).map (·+(m+1))):=by
 apply List.ext_getElem (by simp;omega);intro i d c;simp only[List.getElem_range];by_cases h:i<m
 .rw[List.getElem_append_left (by simpa using h)];simp
 .rw[List.getElem_append_right (by simpa using zEy.1 h)];simp only[List.length_range];by_cases a:i=m
  .subst a;simp
  .obtain⟨j,rfl⟩:∃j,i=m+1+j:=⟨i-(m+1),by omega⟩;simp[show m+1+j-m=j+1 by omega];omega
def nV {s s':St}{l:List Nat}(h:∀k∈l,s k=s' k):l.filterMap (dJ s)=l.filterMap (dJ s'):=
 by
 induction l with
 |nil=>rfl
 |cons a l i=>have e:dJ s a=dJ s' a:=by{unfold dJ;rw[h a (zBl ..)]};rw[zEc,zEc,e,i λk b=>h k (zBm _ b)]
def filter_all {s}{l:List Nat}{p}(h:∀k∈l,∀v,p (ix k,v)=aF):(l.filterMap (dJ s)).filter p=l.filterMap (dJ s):=by
 rw[zFh];intro e d;obtain⟨k,c,a⟩:=zFl.1 d;unfold dJ at a;cases b:s k with
 |none=>rw[b]at a;cases a
 |some v=>rw[b]at a;simp only[zBf,aEr]at a;subst a;exact h k c v
def filter_none {s}{l:List Nat}{p}(h:∀k∈l,∀v,p (ix k,v)=aG):(l.filterMap (dJ s)).filter p=[]:=by
 rw[zFo];intro e d;obtain⟨k,c,a⟩:=zFl.1 d;unfold dJ at a;cases b:s k with
 |none=>rw[b]at a;cases a
 |some v=>rw[b]at a;simp only[zBf,aEr]at a;subst a;rw[h k c v];decide
def Kw (s)(m)(d:m<64)(v)(g):wX (cO s) ⟨ix m,v,g⟩=cO (s.put m (if g then aB else aA v)):=by
 unfold cO wX;have a:∀k∈List.range m,k<m:=λk h=>zCb.1 h;have b:∀k∈(List.range (63-m)).map (·+(m+1)),m<k/\k<64:=λk h=>by obtain⟨j,u,rfl⟩:=zCi.1 h;have:=zCb.1 u;omega
 rw[range_split m d];simp only[zEj,zEc,zDb];generalize List.range m=A at*;generalize(List.range (63-m)).map (·+(m+1))=C at*;have q:(A.filterMap (dJ s)).filter (λe=>decide (aE1 e.1 (ix m)= -1))=A.filterMap (dJ s):=filter_all λk h v=>by have:=a k h;rw[show((ix k,v):rQ).1=ix k from rfl,AA k m (by omega) d,zAv this];decide
 have p:(A.filterMap (dJ s)).filter (λe=>decide (aE1 e.1 (ix m)=1))=[]:=filter_none λk h v=>by have:=a k h;rw[show((ix k,v):rQ).1=ix k from rfl,AA k m (by omega) d,zAv this];decide
 have i:(C.filterMap (dJ s)).filter (λe=>decide (aE1 e.1 (ix m)= -1))=[]:=filter_none λk h v=>by have:=b k h;rw[show((ix k,v):rQ).1=ix k from rfl,AA k m (by omega) d,zAt (by omega),zAv (by omega)];decide
 have f:(C.filterMap (dJ s)).filter (λe=>decide (aE1 e.1 (ix m)=1))=C.filterMap (dJ s):=filter_all λk h v=>by have:=b k h;rw[show((ix k,v):rQ).1=ix k from rfl,AA k m (by omega) d,zAt (by omega),zAv (by omega)];decide
 have o:A.filterMap (dJ (s.put m (if g then aB else aA v)))=A.filterMap (dJ s):=nV λk h=>by have:=a k h;unfold St.put;rw[zAt (by omega)]
 have n:C.filterMap (dJ (s.put m (if g then aB else aA v)))=C.filterMap (dJ s):=nV λk h=>by have:=b k h;unfold St.put;rw[zAt (by omega)]
 have l:dJ (s.put m (if g then aB else aA v)) m=if g then aB else aA (ix m,v):=by unfold dJ St.put;rw[zAv rfl];cases g<;>rfl
 rw[o,n,l,q,p];cases c:dJ s m with
 |none=>rw[i,f];cases g<;>simp
 |some e=>
  have t:aE1 e.1 (ix m)=0:=by
   unfold dJ at c;cases r:s m with
   |none=>rw[r]at c;cases c
   |some x=>rw[r]at c;simp only[zBf,aEr]at c;rw[<-c];exact dC _
  rw[zAp (by rw[t];decide),zAp (by rw[t];decide),i,f];cases g<;>simp
def St.with (s:St)(l:zII):St:=(l.take 20).foldl (λs r=>s.put (dV r.1 64).toNat (if r.2%7=0 then aB else aA (valOf r.2))) s
def Dq (s)(l):cP (cO s) ((l.take 20).map dQ)=cO (s.with l):=by
 unfold cP St.with;generalize l.take 20=r;induction r generalizing s with
 |nil=>rfl
 |cons x r i=>rw[zDy,zEx,zEx,<-i];congr 1;unfold dQ;by_cases h:x.2%7=0;{rw[zAv h,zAv h,TS,Kw _ _ (KT _)];rfl};{rw[zAt h,zAt h,TS,Kw _ _ (KT _)];rfl}
def sE {s e}(h:e∈cO s):∃k,k<64/\e.1=ix k/\s k=aA e.2:=by
 obtain⟨k,c,a⟩:=zFl.1 h;unfold dJ at a;cases b:s k with
 |none=>rw[b]at a;cases a
 |some v=>rw[b]at a;simp only[zBf,aEr]at a;subst a;exact⟨k,zCb.1 c,rfl,b⟩
def Mh {j k}(c:j<64)(b:k<64)(h:ix j=ix k):j=k:=by
 have a:=AA j k c b;rw[h,dC]at a;split at a
 .cases a
 .split at a
  .cases a
  .omega
def Ed {s}(g:∀k v,s k=aA v->v.length<=100):oA (cO s):=by
 refine⟨λe a=> ?_,λe a=> ?_,λe a n b h=> ?_⟩
 .obtain⟨k,_,d,_⟩:=sE a;rw[d];exact tR k
 .obtain⟨k,_,_,c⟩:=sE a;exact g k _ c
 .obtain⟨j,l,d,c⟩:=sE a;obtain⟨k,i,m,f⟩:=sE b;have:j=k:=Mh l i (by rw[<-d,<-m,h]);subst this;rw[c]at f;exact Prod.ext h (zAk f)
def Wi {s}(d:∀k v,s k=aA v->v.length<=100)(m)(b:m<64):eT (cO s) (ix m)=s m:=by
 cases a:s m with
 |some v=>exact Gy (Ed d) (zFl.2 ⟨m,zCb.2 b,by unfold dJ;rw[a];rfl⟩)
 |none=>refine fN λe g h=> ?_;obtain⟨k,f,i,c⟩:=sE g;have:k=m:=Mh f b (by rw[<-i,h]);subst this;rw[a]at c;cases c
def Jc {s:St}(a:∀k v,s k=aA v->v.length<=100)(l):∀k v,s.with l k=aA v->v.length<=100:=by
 unfold St.with;generalize l.take 20=r;induction r generalizing s with
 |nil=>exact a
 |cons x r i=>
  rw[zEx];refine i λk v h=> ?_;unfold St.put at h;split at h
  .split at h
   .cases h
   .have:=vT x.2;simp only[aEr]at h;subst h;omega
  .exact a k v h
def DX (s):gM (cO s):=by
 unfold cO gM;have h:(List.range 64).Pairwise (·<·):=List.pairwise_lt_range;rw[List.pairwise_filterMap];refine h.imp_of_mem λ{j k} g hk f=> ?_;intro a d b c;have l:a.1=ix j:=by
  unfold dJ at d;cases e:s j with
  |none=>rw[e]at d;cases d
  |some v=>rw[e]at d;simp only[zBf,aEr]at d;rw[<-d]
 have i:b.1=ix k:=by
  unfold dJ at c;cases e:s k with
  |none=>rw[e]at c;cases c
  |some v=>rw[e]at c;simp only[zBf,aEr]at c;rw[<-c]
 rw[l,i,AA j k (zCb.1 g) (zCb.1 hk),zAv f]
def IU {α β:Type}(l:List α)(f:α->β)(t)(h:t<l.length):(l.take (t+1)).map f=(l.take t).map f++[f l[t]]:=by rw[zDp h,zEo];rfl
def tF.at {w w' v vc l}(h:tF w (aK v l.length vc) l)(b:zb w w')(t)(a:t<l.length):
  ∃g o,v=aA ⟨g,o,aB⟩/\w'.cell? ⟨g,o+t*2,aB⟩=aA (aC aD l[t].1)/\w'.cell? ⟨g,o+t*2+1,aB⟩=aA (aC aD l[t].2):=by
 obtain⟨rfl,_⟩|⟨g,o,c,h1,d,e⟩:=h.OF
 .simp at a
 .injection h1 with h1 _ _;have:=e t l[t] (zAh a);refine⟨g,o,h1,?_,?_⟩
  .rw[b.cell d];exact this.1
  .rw[b.cell d];exact this.2
def Ic (v)(l)(w)(hl:tF w v l)(hlen:l.length<=4611686018427387904):
  Calls zq 20 #[v] w λe G=>∃U,e=aM U/\cI G w.heap.size U ((l.take 20).map dQ)/\zb w G:=by
 obtain⟨T,S,hv⟩:∃T S,v=aK T l.length S:=by obtain⟨rfl,a,c,rfl⟩|⟨g,o,c,rfl,_⟩:=hl.OF;{exact⟨a,c,rfl⟩};{exact⟨_,c,rfl⟩}
 subst hv;have Q:=hid hl;go_enter (Qz.fn func20),ntmps20;go_wp2;go_loopg [3,4] 20 (λq out i wr=>∃t:Nat,t+q=20/\t<=l.length/\i=aC aD (t:Int)/\zb w wr/\cI wr w.heap.size out ((l.take t).map dQ));case atStart=>exact⟨0,rfl,zBs _,rfl,zGm _ _,cI.nil _ _⟩
 case round=>
  obtain⟨t,ht,ny,rfl,b1,b2⟩:=hrel
  have B:=hid b1
  have K:=hid b2
  by_cases L:t<l.length/\t<20
  .obtain⟨bT,ju⟩:=L;have Yz:(t:Int)<(l.length:Int):=by{omega};have Y:(t:Int)<20:=by omega
   obtain⟨g,o,rfl,c1,_⟩:=Q.out.at B.out t bT;have d:=Q.out.fits l[t] (zDh _);have E:Hid (∀W,zb w W->W.cell? ⟨g,o+t*2+1,aB⟩=aA (aC aD l[t].2)):=λW hW=>by obtain⟨g',o',e,_,Z⟩:=Q.out.at hW t bT;injection e with e;injection e with O N;subst O;subst N;exact Z
   have Hs:=hid (IU l dQ t bT);generalize l[t]=r at*;obtain⟨r1,r2⟩:=r;dsimp only at*;go_wp2_with fail;refine(sW r1 wr d.1 d.2.1).mono ?_;rintro e w2 ⟨rfl,x⟩;have k:=hid (B.out.trans (x.mono B.out.size));have R:=hid (K.out.below x (zAb _));clear x c1 B K;go_upto_region 6 with(fail)
   have A:Hid (cB (w2.alloc (aJ #[aL ⟨(idxOf r1).toArray⟩,aL ⟨#[]⟩,.bool aG] 53)) w2.heap.size 53 #[aL ⟨(idxOf r1).toArray⟩,aL ⟨#[]⟩,.bool aG]):=cB.new _ _ _;have f:Hid (zb w (w2.alloc (aJ #[aL ⟨(idxOf r1).toArray⟩,aL ⟨#[]⟩,.bool aG] 53))):=k.out.alloc k.out.size _;have J:Hid (cI (w2.alloc (aJ #[aL ⟨(idxOf r1).toArray⟩,aL ⟨#[]⟩,.bool aG] 53)) w.heap.size u3 ((l.take t).map dQ)):=R.out.alloc _;have X:=k.out.size;have HN:Hid (∀g,u3.ownBlock=aA g->g<w2.heap.size):=λg C=>(R.out.lt g C).2;generalize w2.alloc (aJ #[aL ⟨(idxOf r1).toArray⟩,aL ⟨#[]⟩,.bool aG] 53)=w3 at*;clear k R;have c3:=E.out w3 f.out;by_cases I:r2%7=0
   .have M:=aE3 (aE4 I);have N:w3.cell? ⟨w2.heap.size,2,aB⟩=aA (.bool aG):=by{rw[A.out.cell];rfl};have f2:=A.out.frozen 2;have P:dQ (r1,r2)=⟨idxOf r1,[],aF⟩:=zAv I;go_upto_region 9 with(fail)
    have z:Hid (cB (w3.setCell ⟨w2.heap.size,2,aB⟩ (.bool aF)) w2.heap.size 53 #[aL ⟨(idxOf r1).toArray⟩,aL ⟨#[]⟩,.bool aF]):=A.out.dT 2 _;have H:Hid (zb w (w3.setCell ⟨w2.heap.size,2,aB⟩ (.bool aF))):=f.out.setCell X _;have C4:Hid (cI (w3.setCell ⟨w2.heap.size,2,aB⟩ (.bool aF)) w.heap.size u3 ((l.take t).map dQ)):=J.out.kept λg C=>zGr _ _ _ _ (by have:=HN.out g C;simp only;omega);generalize w3.setCell ⟨w2.heap.size,2,aB⟩ (.bool aF)=w4 at*;clear A f J N f2 c3;have u:=H.out.size;have j:((l.take t).map dQ).length=t:=by{rw[zDg,zBe];omega};have p:((l.take t).map dQ).length<=1000000:=by{omega};have y:=hid j;clear j;go_wp2_with (first|(refine zGs rfl 53 _ rfl w2.heap.size rfl 53 _ (0,0) _ z.out ((Qz.eZ 53).trans underlying53) rfl (by kernel_rfl) ?_)|(at_builtin;refine jP rfl _ _ rfl w.heap.size _ _ rfl C4.out ⟨idxOf r1,[],aF⟩ 1 rfl p u ?_;intro g' D G b s));go_roundg (19-t);case measure=>omega
    case rel=>
     go_light
     refine⟨t+1,by omega,by omega,by go_num,eL H.out C4.out s (zAb _) H.out.size,?_⟩
     rw[Hs.out,show dQ (r1,r2)=⟨idxOf r1,[],aF⟩from P]
     rw[y.out]at b
     exact b
   .have M:¬r2.tmod 7=0:=λh=>I (aE5 (aE6 h));have P:dQ (r1,r2)=⟨idxOf r1,valOf r2,aG⟩:=zAt I;go_wp2_with fail;refine(AX r2 w3 d.2.2.1 d.2.2.2).mono ?_;rintro e w5 ⟨rfl,m⟩;have n:Hid (cB w5 w2.heap.size 53 #[aL ⟨(idxOf r1).toArray⟩,aL ⟨#[]⟩,.bool aG]):=A.out.below m A.out.lt;have F:Hid (zb w w5):=f.out.trans (m.mono f.out.size);have C5:Hid (cI w5 w.heap.size u3 ((l.take t).map dQ)):=J.out.below m (zAb _);have O:w5.cell? ⟨w2.heap.size,1,aB⟩=aA (aL ⟨#[]⟩):=by{rw[n.out.cell];rfl};have f1:w5.frozen? ⟨w2.heap.size,1,aB⟩=aG:=n.out.frozen 1;clear m A f J c3;go_upto_region 9 with(fail)
    have z:Hid (cB (w5.setCell ⟨w2.heap.size,1,aB⟩ (aL ⟨(valOf r2).toArray⟩)) w2.heap.size 53 #[aL ⟨(idxOf r1).toArray⟩,aL ⟨(valOf r2).toArray⟩,.bool aG]):=n.out.dT 1 _;have H:Hid (zb w (w5.setCell ⟨w2.heap.size,1,aB⟩ (aL ⟨(valOf r2).toArray⟩))):=F.out.setCell X _;have C4:Hid (cI (w5.setCell ⟨w2.heap.size,1,aB⟩ (aL ⟨(valOf r2).toArray⟩)) w.heap.size u3 ((l.take t).map dQ)):=C5.out.kept λg C=>zGr _ _ _ _ (by have:=HN.out g C;simp only;omega);generalize w5.setCell ⟨w2.heap.size,1,aB⟩ (aL ⟨(valOf r2).toArray⟩)=w4 at*;clear n F C5 O f1;have u:=H.out.size;have j:((l.take t).map dQ).length=t:=by{rw[zDg,zBe];omega};have p:((l.take t).map dQ).length<=1000000:=by{omega};have y:=hid j;clear j;go_wp2_with (first|(refine zGs rfl 53 _ rfl w2.heap.size rfl 53 _ (0,0) _ z.out ((Qz.eZ 53).trans underlying53) rfl (by kernel_rfl) ?_)|(at_builtin;refine jP rfl _ _ rfl w.heap.size _ _ rfl C4.out ⟨idxOf r1,valOf r2,aG⟩ 1 rfl p u ?_;intro g' D G b s));go_roundg (19-t);case measure=>omega
    case rel=>
     go_light
     refine⟨t+1,by omega,by omega,by go_num,eL H.out C4.out s (zAb _) H.out.size,?_⟩
     rw[Hs.out,show dQ (r1,r2)=⟨idxOf r1,valOf r2,aG⟩from P]
     rw[y.out]at b
     exact b
  .have V:(l.take t).map dQ=(l.take 20).map dQ:=by
    by_cases h:t<l.length;{obtain rfl:t=20:=by{omega};rfl};{rw[zCm (by omega),zCm (by omega)]}
   have Hq:=hid V;clear V;by_cases h:t<l.length;{have h1:(t:Int)<(l.length:Int):=by{omega};have Z:¬(t:Int)<20:=by{omega};go_wp2;go_ret;exact⟨u3,rfl,by rw[<-List.map_take,<-Hq.out];exact K.out,B.out⟩};{have h1:¬(t:Int)<(l.length:Int):=by{omega};go_wp2;go_ret;exact⟨u3,rfl,by rw[<-List.map_take,<-Hq.out];exact K.out,B.out⟩}
def nL (is:Nat->Bool)(v:Nat->zB):zA:=(((List.range 64).map λk=>Value.bool (is k))++((List.range 64).map λk=>Value.string ⟨(v k).toArray⟩)).toArray
def iI (is)(v):(nL is v).size=128:=by simp[nL]
def oO (is)(v)(k)(h:k<64):(nL is v)[k]? =aA (.bool (is k)):=by simp only[nL,zDk];rw[zCh (by simpa using h)];simp[h]
def oN (is)(v)(k)(h:k<64):(nL is v)[64+k]? =aA (aL ⟨(v k).toArray⟩):=by simp only[nL,zDk];rw[zBh (by simp)];simp[h]
def RY {is i a v}(c:∀k,k<64->is k=i k)(b:∀k,k<64->a k=v k):nL is a=nL i v:=by unfold nL;rw[zEb (λk h=>by rw[c k (zCb.1 h)]),zEb (f:=λk=>Value.string ⟨(a k).toArray⟩) (λk h=>by rw[b k (zCb.1 h)])]
def kP {α:Type}(f:Nat->α)(m:Nat)(v:α):Nat->α:=λk=>if k=m then v else f k
def EX (is)(v)(m)(h:m<64)(b):(nL is v).setIfInBounds m (.bool b)=nL (kP is m b) v:=by
 apply zBx;intro i;rw[zBq,iI];by_cases hi:i<64
 .rw[oO (kP is m b) v i hi];by_cases e:m=i
  .subst e;rw[zAv rfl,zAv (by omega)];unfold kP;rw[zAv rfl]
  .rw[zAt e,oO _ _ _ hi];unfold kP;rw[zAt (zDi e)]
 .rw[zAt (by omega)];by_cases a:i<128
  .obtain⟨j,rfl⟩:∃j,i=64+j:=⟨i-64,by omega⟩;rw[oN _ _ _ (by omega),oN _ _ _ (by omega)]
  .rw[zBj (by rw[iI];omega),zBj (by rw[iI];omega)]
def vK (is)(a)(m)(h:m<64)(v):(nL is a).setIfInBounds (64+m) (aL ⟨v.toArray⟩)=nL is (kP a m v):=by
 apply zBx;intro i;rw[zBq,iI];by_cases hi:i<64
 .rw[zAt (by omega),oO _ _ _ hi,oO _ _ _ hi]
 .by_cases b:i<128
  .obtain⟨j,rfl⟩:∃j,i=64+j:=⟨i-64,by omega⟩;rw[oN is (kP a m v) _ (by omega)];by_cases e:m=j
   .subst e;rw[zAv rfl,zAv (by omega)];unfold kP;rw[zAv rfl]
   .rw[zAt (by omega),oN _ _ _ (by omega)];unfold kP;rw[zAt (zDi e)]
  .rw[zAt (by omega),zBj (by rw[iI];omega),zBj (by rw[iI];omega)]
def dR (s:St):zA:=nL (λk=>(s k).isSome) (λk=>(s k).getD [])
def Ee (s:St)(m:Nat)(v:zB):nL (kP (λk=>(s k).isSome) m aF) (kP (kP (λk=>(s k).getD []) m []) m v)=dR (s.put m (aA v)):=
 RY (λk _=>by simp only[kP,St.put];split<;>rfl) (λk _=>by simp only[kP,St.put];split<;>rfl)
def WX (s:St)(m:Nat):nL (kP (λk=>(s k).isSome) m aG) (kP (λk=>(s k).getD []) m [])=dR (s.put m aB):=
 RY (λk _=>by simp only[kP,St.put];split<;>rfl) (λk _=>by simp only[kP,St.put];split<;>rfl)
def RX (is)(v):∀u∈(nL is v).toList,u.oneCell'=aF:=by intro u h;simp only[nL,zAi,zCi]at h;obtain⟨k,_,rfl⟩|⟨k,_,rfl⟩:=h<;>rfl
def St.one (s:St)(r:Int×Int):St:=s.put (dV r.1 64).toNat (if r.2%7=0 then aB else aA (valOf r.2))
def JW (s)(l:zII):s.with l=(l.take 20).foldl St.one s:=rfl
def fold_succ (s)(l:zII)(t)(h:t<l.length):(l.take (t+1)).foldl St.one s=((l.take t).foldl St.one s).one l[t]:=by rw[zDp h,List.foldl_append];rfl
def Jd (s)(v)(l)(w)(hl:tF w v l)(hlen:l.length<=4611686018427387904):
  Calls zq 18 #[.agg (dR s),v] w λe w'=>e=aM (.agg (dR (s.with l)))/\zb w w':=by
 obtain⟨va,vc,hv⟩:∃va vc,v=aK va l.length vc:=by obtain⟨rfl,a,c,rfl⟩|⟨g,o,c,rfl,_⟩:=hl.OF;{exact⟨a,c,rfl⟩};{exact⟨_,c,rfl⟩}
 subst hv;have HL:=hid hl;have p:Hid (dR s=dR ((l.take 0).foldl St.one s)):=rfl;have HW:Hid (s.with l=(l.take 20).foldl St.one s):=rfl;rw[HW.out];have HG:Hid (∀t,t<l.length->(l.take (t+1)).foldl St.one s=((l.take t).foldl St.one s).one (l.getD t (0,0))):=λt h=>by rw[fold_succ s l t h,zCt,zAh h];rfl
 have HE:Hid (∀t,¬(t<l.length/\t<20)->t<=l.length->t<=20->(l.take t).foldl St.one s=(l.take 20).foldl St.one s):=λt h h1 h2=>by by_cases h3:t<l.length;{obtain rfl:t=20:=by{omega};rfl};{rw[zCm (by omega),zCm (by omega)]}
 have HF:Hid (∀t,(l.take t).foldl St.one s=(l.take t).foldl St.one s):=λ_=>rfl;generalize Y:(λt=>(l.take t).foldl St.one s)=Fd at*;have X:∀t,(l.take t).foldl St.one s=Fd t:=λt=>by rw[<-Y]
 simp only[X]at*;generalize dR s=R at*;go_enter (Qz.fn func18),ntmps18;go_upto_region 2 with(fail)
 go_loopg [5] 20 (λq i wr=>∃t:Nat,t+q=20/\t<=l.length/\i=aC aD (t:Int)/\zb w wr/\cB wr w.heap.size 43 (dR (Fd t))/\cB wr (w.heap.size+1) 43 zeroCells43);case atStart=>
  refine⟨0,rfl,zBs _,rfl,((zGm _ _).alloc (zAb _) _).alloc (by rw[size_alloc];omega) _,?_,?_⟩
  .rw[<-p.out];exact(cB.new _ _ _).alloc _
  .have:=cB.new (w.alloc (aJ R 43)) 43 zeroCells43;rw[size_alloc]at this;exact this
 case round=>
  obtain⟨t,ht,U,rfl,b1,b2,b3⟩:=hrel
  have D:=hid b1
  have B:=hid b2
  have y:=hid b3
  by_cases I:t<l.length/\t<20
  .obtain⟨bT,ju⟩:=I;have Yz:(t:Int)<(l.length:Int):=by{omega};have aCt:(t:Int)<20:=by omega
   obtain⟨g,o,rfl,c1,c2⟩:=HL.out.at D.out t bT;have f:=HL.out.fits l[t] (zDh _);have L:Hid (∀W,zb w W->W.cell? ⟨g,o+t*2+1,aB⟩=aA (aC aD l[t].2)):=λW hW=>by obtain⟨g',o',e,_,h2⟩:=HL.out.at hW t bT;injection e with e;injection e with e1 e2;subst e1;subst e2;exact h2
   have Hs:Hid (Fd (t+1)=(Fd t).one l[t]):=by have:=HG.out t bT;rw[zCt,zAh bT]at this;exact this
   generalize l[t]=r at*;obtain⟨r1,r2⟩:=r;dsimp only at*;obtain⟨m,hm,b⟩:=iL r1 64 (by omega);have z:dV r1 64=(m:Int):=hm;have x:Hid ((Fd t).one (r1,r2)=(Fd t).put m (if r2%7=0 then aB else aA (valOf r2))):=by show(Fd t).put (dV r1 64).toNat _=_;rw[z,zFp]
   generalize Fd t=S at*;have H:=λW=>pW r1 64 W f.1 f.2.1 (by omega) (by omega);rw[z]at H;clear hm z;go_wp2_with fail;refine(H wr).mono ?_;rintro e w5 ⟨rfl,G⟩;obtain rfl:wr=w5:=G.symm;clear G H;have k0:wr.cell? ⟨w.heap.size,m,aB⟩=aA (.bool (S m).isSome):=by{rw[B.out.cell];exact oO _ _ m b};have k1:=B.out.frozen m;have jg:(m:Int)<64:=by{omega};have df:(0:Int)<=(m:Int):=by{omega};by_cases O:r2%7=0
   .have h7':=aE3 (aE4 O);have d:Hid (S.one (r1,r2)=S.put m aB):=by{have:=x.out;rw[zAv O]at this;exact this};go_upto_region 6 with(fail)
    have N:Hid (zb w (wr.setCell ⟨w.heap.size,m,aB⟩ (.bool aG))):=D.out.setCell (zAb _) _;have K:Hid (cB (wr.setCell ⟨w.heap.size,m,aB⟩ (.bool aG)) w.heap.size 43 (nL (kP (λk=>(S k).isSome) m aG) (λk=>(S k).getD []))):=by have:=B.out.dT m (.bool aG);rw[dR,EX _ _ m b]at this;exact this
    have J:Hid (cB (wr.setCell ⟨w.heap.size,m,aB⟩ (.bool aG)) (w.heap.size+1) 43 zeroCells43):=y.out.bS _ _ (by simp);generalize wr.setCell ⟨w.heap.size,m,aB⟩ (.bool aG)=j at*;clear D B y k0 k1 c1 c2;have k2:j.cell? ⟨w.heap.size,64+m,aB⟩=aA (aL ⟨((S m).getD []).toArray⟩):=by{rw[K.out.cell];exact oN _ _ m b};have Q:j.frozen? ⟨w.heap.size,64+m,aB⟩=aG:=K.out.frozen _;go_upto_region 7 with(fail)
    have E:Hid (zb w (j.setCell ⟨w.heap.size,64+m,aB⟩ (aL ⟨#[]⟩))):=N.out.setCell (zAb _) _;have C:Hid (cB (j.setCell ⟨w.heap.size,64+m,aB⟩ (aL ⟨#[]⟩)) w.heap.size 43 (nL (kP (λk=>(S k).isSome) m aG) (kP (λk=>(S k).getD []) m []))):=by have:=K.out.dT (64+m) (aL ⟨([]:zB).toArray⟩);rw[vK _ _ m b]at this;exact this
    have Z:Hid (cB (j.setCell ⟨w.heap.size,64+m,aB⟩ (aL ⟨#[]⟩)) (w.heap.size+1) 43 zeroCells43):=J.out.bS _ _ (by simp);generalize j.setCell ⟨w.heap.size,64+m,aB⟩ (aL ⟨#[]⟩)=F at*;clear N K J k2 Q;have k4:F.cell? ⟨w.heap.size,m,aB⟩=aA (.bool aG):=by rw[C.out.cell,oO _ _ m b];unfold kP;rw[zAv rfl]
    go_wp2_with fail;go_roundg (19-t);case measure=>omega
    case rel=>
     go_light
     refine⟨t+1,by omega,by omega,by go_num,E.out,?_,Z.out⟩
     rw[Hs.out,d.out,<-WX]
     exact C.out
   .have h7':(r2.tmod 7 !=0)=aF:=by{rw[bne_iff_ne];exactλh=>O (aE5 (aE6 h))};have d:Hid (S.one (r1,r2)=S.put m (aA (valOf r2))):=by{have:=x.out;rw[zAt O]at this;exact this};go_upto_region 6 with(fail)
    have N:Hid (zb w (wr.setCell ⟨w.heap.size,m,aB⟩ (.bool aF))):=D.out.setCell (zAb _) _;have K:Hid (cB (wr.setCell ⟨w.heap.size,m,aB⟩ (.bool aF)) w.heap.size 43 (nL (kP (λk=>(S k).isSome) m aF) (λk=>(S k).getD []))):=by have:=B.out.dT m (.bool aF);rw[dR,EX _ _ m b]at this;exact this
    have J:Hid (cB (wr.setCell ⟨w.heap.size,m,aB⟩ (.bool aF)) (w.heap.size+1) 43 zeroCells43):=y.out.bS _ _ (by simp);generalize wr.setCell ⟨w.heap.size,m,aB⟩ (.bool aF)=j at*;clear D B y k0 k1 c1 c2;have k2:j.cell? ⟨w.heap.size,64+m,aB⟩=aA (aL ⟨((S m).getD []).toArray⟩):=by{rw[K.out.cell];exact oN _ _ m b};have Q:j.frozen? ⟨w.heap.size,64+m,aB⟩=aG:=K.out.frozen _;go_upto_region 7 with(fail)
    have E:Hid (zb w (j.setCell ⟨w.heap.size,64+m,aB⟩ (aL ⟨#[]⟩))):=N.out.setCell (zAb _) _;have C:Hid (cB (j.setCell ⟨w.heap.size,64+m,aB⟩ (aL ⟨#[]⟩)) w.heap.size 43 (nL (kP (λk=>(S k).isSome) m aF) (kP (λk=>(S k).getD []) m []))):=by have:=K.out.dT (64+m) (aL ⟨([]:zB).toArray⟩);rw[vK _ _ m b]at this;exact this
    have Z:Hid (cB (j.setCell ⟨w.heap.size,64+m,aB⟩ (aL ⟨#[]⟩)) (w.heap.size+1) 43 zeroCells43):=J.out.bS _ _ (by simp);generalize j.setCell ⟨w.heap.size,64+m,aB⟩ (aL ⟨#[]⟩)=F at*;clear N K J k2 Q;have k4:F.cell? ⟨w.heap.size,m,aB⟩=aA (.bool aF):=by rw[C.out.cell,oO _ _ m b];unfold kP;rw[zAv rfl]
    have k5:=L.out F E.out;go_wp2_with fail;refine(AX r2 F f.2.2.1 f.2.2.2).mono ?_;rintro e wc ⟨rfl,n⟩;have Bc:Hid (zb w wc):=E.out.trans (n.mono E.out.size);have Kc:Hid (cB wc w.heap.size 43 (nL (kP (λk=>(S k).isSome) m aF) (kP (λk=>(S k).getD []) m []))):=C.out.below n C.out.lt;have Zc:Hid (cB wc (w.heap.size+1) 43 zeroCells43):=Z.out.below n Z.out.lt;clear n E C Z k4 k5;have k6:wc.cell? ⟨w.heap.size,64+m,aB⟩=aA (aL ⟨([]:zB).toArray⟩):=by rw[Kc.out.cell,oN _ _ m b];unfold kP;rw[zAv rfl]
    have k7:wc.frozen? ⟨w.heap.size,64+m,aB⟩=aG:=Kc.out.frozen _;go_wp2_with fail;go_roundg (19-t);case measure=>omega
    case rel=>
     go_light
     refine⟨t+1,by omega,by omega,by go_num,Bc.out.setCell (zAb _) _,?_,Zc.out.bS _ _ (by simp)⟩
     have:=Kc.out.dT (64+m) (aL ⟨(valOf r2).toArray⟩)
     rw[vK _ _ m b,Ee]at this
     rw[Hs.out,d.out]
     exact this
  .have hq:=HE.out t I U (by omega);rw[hq]at B;have hi:Hid ((zq.info? 43).map (·.size)=aA (dR (Fd 20)).size):=by
    show _=_;rw[dR,iI];kernel_rfl
   have T:Hid (zeroCells43.size=(dR (Fd 20)).size):=by show _=_;rw[dR,iI];kernel_rfl
   have V:Hid ((dR (Fd 20)).all (·.oneCell')=aF):=by show _=_;rw[zFn];exactλu hu=>RX _ _ u (by simpa [dR]using hu)
   clear hq HE HG HW p;obtain⟨P,A⟩:∃P,dR (Fd 20)=P:=⟨_,rfl⟩;have M:=hid A;rw[A]at hi T V B;clear A;by_cases h:t<l.length
   .have h1:(t:Int)<(l.length:Int):=by{omega};have h2:¬(t:Int)<20:=by omega
    go_wp2_with (first
     |refine zGs rfl 43 _ rfl w.heap.size rfl 43 _ (0,0) _ B.out ((Qz.eZ 43).trans underlying43) rfl hi.out ?_
     |refine zGu rfl 43 _ _ rfl (w.heap.size+1) _ rfl rfl _ _ y.out hi.out T.out V.out ?_)
    refine zGz (v:= .agg P) ?_ rfl ⟨by rw[M.out],cZ D.out (by omega) _⟩;exact results_cell_row results18 _ _ (w.heap.size+1) _ _ _ _ rfl (y.out.eG _) ((Qz.eZ 43).trans underlying43) rfl hi.out
   .have h1:¬(t:Int)<(l.length:Int):=by omega
    go_wp2_with (first
     |refine zGs rfl 43 _ rfl w.heap.size rfl 43 _ (0,0) _ B.out ((Qz.eZ 43).trans underlying43) rfl hi.out ?_
     |refine zGu rfl 43 _ _ rfl (w.heap.size+1) _ rfl rfl _ _ y.out hi.out T.out V.out ?_)
    refine zGz (v:= .agg P) ?_ rfl ⟨by rw[M.out],cZ D.out (by omega) _⟩;exact results_cell_row results18 _ _ (w.heap.size+1) _ _ _ _ rfl (y.out.eG _) ((Qz.eZ 43).trans underlying43) rfl hi.out
def fH:Nat->List rQ->List rQ->Nat->Nat
 |0,_,_,_=>0
 |f+1,l,w,d=>if l.length<2\/l=w then 0 else 1+(fH f (dB l d 0) (dB w d 0) (d+1)+fH f (dB l d 1) (dB w d 1) (d+1))
def BN (l w:List rQ):Nat:=(l.filter λe=> !w.contains e).length+fH 256 l w 0
def GA (l)(d):(dB l d 0).length+(dB l d 1).length=l.length:=by
 unfold dB;induction l with
 |nil=>rfl
 |cons e l i=>obtain h|h:=tZ e.1 d;{rw[zAy (by rw[h];rfl),zAp (by rw[h];decide),zAf,zAf];omega};{rw[zAp (by rw[h];decide),zAy (by rw[h];rfl),zAf,zAf];omega}
def sP:∀(f:Nat)(l w:List rQ)(d:Nat),fH f l w d<=f*(l.length-1)
 |0,_,_,_=>zBs _
 |f+1,l,w,d=>by rw[fH];split;{exact zBs _};{rename_i h;have i:=sP f (dB l d 0) (dB w d 0) (d+1);have g:=sP f (dB l d 1) (dB w d 1) (d+1);have hl:=GA l d;have c:2<=l.length:=by{omega};generalize(dB l d 0).length=a at*;generalize(dB l d 1).length=b at*;generalize l.length=n at*;subst hl;have e:(f+1)*(a+b-1)=f*(a+b-1)+(a+b-1):=by{rw[aE7]};have j:f*(a-1)+f*(b-1)<=f*(a+b-1):=by{rw[<-aE8];exact Nat.mul_le_mul_left _ (by omega)};rw[e];omega}
def YI (f)(l)(d):fH f l l d=0:=by
 cases f with
 |zero=>rfl
 |succ f=>rw[fH,zAv (aI rfl)]
def YH (f)(l w)(d):fH (f+1) l w d<=1+(fH f (dB l d 0) (dB w d 0) (d+1)+fH f (dB l d 1) (dB w d 1) (d+1)):=by
 rw[fH];split
 .exact zBs _
 .exact zAb _
def iQ (l:List rQ):Nat->Nat->List rQ
 |0,_=>l
 |n+1,p=>dB (iQ l n (p/2)) n (p%2)
def sumTo (f:Nat->Nat):Nat->Nat
 |0=>0
 |n+1=>sumTo f n+f n
def sumTo_le {f g:Nat->Nat}:∀n,(∀i,i<n->f i<=g i)->sumTo f n<=sumTo g n
 |0,_=>zAb _
 |n+1,h=>aE9 (sumTo_le n λi hi=>h i (by omega)) (h n (by omega))
def KF (f:Nat->Nat):∀n,sumTo f (2*n)=sumTo (λp=>f (2*p)+f (2*p+1)) n
 |0=>rfl
 |n+1=>by rw[show 2*(n+1)=2*n+1+1 by omega,sumTo,sumTo,KF f n,sumTo];omega
def SU (l w)(f):∀n,fH (n+f) l w 0<=(2^n-1)+sumTo (λp=>fH f (iQ l n p) (iQ w n p) n) (2^n):=by
 intro n;induction n generalizing f with
 |zero=>simp[sumTo,iQ]
 |succ n b=>
  have h:=b (f+1);rw[show n+1+f=n+(f+1) by omega];have d:sumTo (λp=>fH (f+1) (iQ l n p) (iQ w n p) n) (2^n)<=sumTo (λp=>1+(fH f (iQ l (n+1) (2*p)) (iQ w (n+1) (2*p)) (n+1)+fH f (iQ l (n+1) (2*p+1)) (iQ w (n+1) (2*p+1)) (n+1))) (2^n):=sumTo_le _ λp _=>by have:=YH f (iQ l n p) (iQ w n p) n;rw[iQ,iQ,iQ,iQ,show 2*p/2=p by omega,show(2*p+1)/2=p by omega,show 2*p%2=0 by omega,show(2*p+1)%2=1 by omega];exact this
  have c:∀(g:Nat->Nat) m,sumTo (λp=>1+g p) m=m+sumTo g m:=by
   intro g m;induction m with
   |zero=>rfl
   |succ m i=>rw[sumTo,sumTo,i];omega
  rw[c]at d;have a:=KF (λp=>fH f (iQ l (n+1) p) (iQ w (n+1) p) (n+1)) (2^n);rw[show 2*2^n=2^(n+1) by rw[aFa];omega]at a;have j:2^(n+1)=2*2^n:=by{rw[aFa];omega};have e:=Nat.two_pow_pos n;rw[a];omega
def cQ (s:St)(p:Nat):List rQ:=[2*p,2*p+1].filterMap (dJ s)
def Ce (k)(h:k<64)(i)(hi:i<5):eN (ix k) i=k/2/2^(4-i)%2:=by
 have H:∀k:Fin 64,∀i:Fin 5,eN (ix k.val) i.val=k.val/2/2^(4-i.val)%2:=by decide+kernel
 exact H ⟨k,h⟩ ⟨i,hi⟩
def gh (p q)(b:p<32)(a:q<32)(h:∀i,i<5->p/2^(4-i)%2=q/2^(4-i)%2):p=q:=by
 have H:∀p q:Fin 32,(∀i:Fin 5,p.val/2^(4-i.val)%2=q.val/2^(4-i.val)%2)->p=q:=by decide+kernel
 exact congrArg Fin.val (H ⟨p,b⟩ ⟨q,a⟩ λi=>h i.val i.isLt)
def OL (n p:Nat)(x:zB):Bool:=decide (∀i,i<n->eN x i=p/2^(n-1-i)%2)
def qS (n p)(x):OL n p x=aF↔∀i,i<n->eN x i=p/2^(n-1-i)%2:=by unfold OL;exact decide_eq_true_iff
def SH (l):∀n p,iQ l n p=l.filter λe=>OL n p e.1:=by
 intro n;induction n with
 |zero=>intro p;rw[iQ,zFh.2];intro e _;rw[qS];intro i hi;omega
 |succ n b=>
  intro p;rw[iQ,dB,b,zEi];apply List.filter_congr;intro e _;rw[aE0,zBd,qS,qS,zDn];constructor
  .rintro⟨c,a⟩ i hi;by_cases h:i=n
   .subst h;rw[show i+1-1-i=0 by omega,aFb,aFc];exact c
   .rw[a i (by omega),show n+1-1-i=(n-1-i)+1 by omega,aFa,aFd,aFe]
  .intro a;refine⟨?_,λi hi=> ?_⟩
   .have:=a n (by omega);rw[show n+1-1-n=0 by omega,aFb,aFc]at this;exact this
   .rw[a i (by omega),show n+1-1-i=(n-1-i)+1 by omega,aFa,aFd,aFe]
def KW (s)(p)(e:p<32):iQ (cO s) 5 p=cQ s p:=by
 rw[SH];have c:∀k,k<64->OL 5 p (ix k)=decide (k/2=p):=λk b=>by rw[aE0,qS,zBr];constructor;{intro h;exact gh _ _ (by omega) e λi hi=>by rw[<-Ce k b i hi];exact h i hi};{intro h i hi;rw[Ce k b i hi,h]}
 unfold cO cQ;rw[range_split (2*p) (by omega)];have d:(List.range (63-2*p)).map (·+(2*p+1))=(2*p+1)::(List.range (62-2*p)).map (·+(2*p+2)):=by rw[show 63-2*p=(62-2*p)+1 by omega,List.range_succ_eq_map,zDy,zEg];congr 1;{omega};{apply zEb;intro a _;show a+1+(2*p+1)=a+(2*p+2);omega}
 rw[d,show List.range (2*p)++2*p::(2*p+1)::(List.range (62-2*p)).map (·+(2*p+2))=List.range (2*p)++([2*p,2*p+1]++(List.range (62-2*p)).map (·+(2*p+2)))from rfl];rw[zEj,zEj,zDb,zDb];rw[filter_none (λk b v=>by have:=zCb.1 b;refine(c k (by omega)).trans ?_;rw[zFk];omega)]
 rw[filter_all (λk b v=>by
   have:k=2*p\/k=2*p+1:=by simpa using b
   refine(c k (by omega)).trans ?_;rw[zBr];omega)]
 rw[filter_none (λk b v=>by obtain⟨j,f,rfl⟩:=zCi.1 b;have:=zCb.1 f;refine(c (j+(2*p+2)) (by omega)).trans ?_;rw[zFk];omega)]
 simp
def Lg (s)(p):(cQ s p).length<=2:=by have:=zGi (dJ s) [2*p,2*p+1];exact this
def cnt (b:Nat->Bool)(n:Nat):Nat:=sumTo (λp=>if b p then 1 else 0) n
def ZV (b:Nat->Bool):∀n,cnt b n<=n
 |0=>zAb _
 |n+1=>by have:=ZV b n;unfold cnt at this⊢;rw[sumTo];split<;>omega
def ZU {a b c:Nat->Bool}:∀n,(∀p,p<n->c p=aF->a p=aF\/b p=aF)->cnt c n<=cnt a n+cnt b n
 |0,_=>zAb _
 |n+1,h=>by
  have i:=ZU (a:=a) (b:=b) (c:=c) n λp g=>h p (by omega);have d:=h n (by omega);unfold cnt at i⊢;rw[sumTo,sumTo,sumTo];cases e:c n with
  |false=>simp only[zBa,zCz];omega
  |true=>obtain f|hb:=d e;{rw[f];simp only[zCp];omega};{rw[hb];simp only[zCp];omega}
def OV {b:Nat->Bool}(p0:Nat):∀n,(∀p,p≠p0->b p=aG)->cnt b n<=if p0<n then 1 else 0
 |0,_=>zBs _
 |n+1,h=>by
  have i:=OV p0 n h;unfold cnt at i⊢;rw[sumTo];by_cases e:n=p0;{subst e;rw[zAt (show¬n<n by omega)]at i;rw[zAv (show n<n+1 by omega)];split<;>omega}
  .rw[h n e];simp only[zBa,zCz];split at i
   .rename_i a;rw[zAv (show p0<n+1 by omega)];omega
   .omega
def UW {b}(n)(h:∀p,p<n->b p=aG):cnt b n=0:=by
 induction n with
 |zero=>rfl
 |succ n i=>unfold cnt at*;rw[sumTo,i λp a=>h p (by omega),h n (by omega)];rfl
def NB (c:Nat)(b:Nat->Bool):∀n,sumTo (λp=>if b p then c else 0) n=c*cnt b n
 |0=>rfl
 |n+1=>by unfold cnt;rw[sumTo,sumTo,NB c b n,aE8];unfold cnt;split<;>simp
def eP (s s':St)(p:Nat):Bool:=decide (cQ s' p≠cQ s p)
def jV (s:St)(p:Nat):Bool:=decide ((cQ s p).length=2)
def iM (s s':St)(k:Nat):Bool:=decide (s' k≠s k)
def FJ (s s'):fH 256 (cO s') (cO s) 0<=31+251*cnt (λp=>eP s s' p&&jV s' p) 32:=by
 have h:=SU (cO s') (cO s) 251 5;rw[<-NB];refine zBc h (Nat.add_le_add_left (sumTo_le _ λp b=> ?_) _);rw[KW s' p b,KW s p b];have a:=sP 251 (cQ s' p) (cQ s p) 5;have e:=Lg s' p;by_cases c:cQ s' p=cQ s p
 .rw[c,YI];exact zBs _
 .by_cases d:(cQ s' p).length=2
  .rw[zAv (by simp[eP,jV,c,d])];rw[d]at a;exact a
  .have:(cQ s' p).length-1=0:=by{omega};rw[this]at a;omega
def zM (s s'):((cO s').filter λe=> !(cO s).contains e).length<=cnt (iM s s') 64:=by
 have c:∀k,k<64->∀v,s' k=aA v->(!(cO s).contains (ix k,v))=aF->iM s s' k=aF:=λk d v b a=>by unfold iM;rw[zBr];intro h;rw[b]at h;have:(cO s).contains (ix k,v)=aF:=List.elem_iff.2 (zFl.2 ⟨k,zCb.2 d,by unfold dJ;rw[<-h];rfl⟩);rw[this]at a;cases a
 have H:∀n,n<=64->(((List.range n).filterMap (dJ s')).filter λe=> !(cO s).contains e).length<=cnt (iM s s') n:=by
  intro n;induction n with
  |zero=>intro _;exact zAb _
  |succ n i=>
   intro f;have i:=i (by omega);unfold cnt at i⊢;rw[List.range_succ,zEj,zDb,zAc,sumTo];refine aE9 i ?_;cases b:s' n with
   |none=>simp[dJ,b]
   |some v=>have e:[n].filterMap (dJ s')=[(ix n,v)]:=by{simp[dJ,b]};rw[e];by_cases a:(!(cO s).contains (ix n,v))=aF;{rw[zAy (p:=λe=> !(cO s).contains e) a,c n (by omega) v b a];exact zAb _};{rw[zAp (p:=λe=> !(cO s).contains e) a];exact zBs _}
 exact H 64 (zAb _)
def SI (s)(m p)(v)(h:p≠m/2):cQ (s.put m v) p=cQ s p:=by
 exact nV λk a=>by have:k=2*p\/k=2*p+1:=by{simpa using a};unfold St.put;rw[zAt (by omega)]
def GF (r:zII):∀s:St,cnt (eP s (r.foldl St.one s)) 32<=r.length/\cnt (iM s (r.foldl St.one s)) 64<=r.length:=by
 induction r with
 |nil=>intro s;exact⟨aFf (UW _ λp _=>by simp[eP]),aFf (UW _ λp _=>by simp[iM])⟩
 |cons x r i=>
  intro s;obtain⟨k,j⟩:=i (s.one x);rw[zEx,zAf];constructor
  .have g:=ZU (a:=eP (s.one x) (r.foldl St.one (s.one x))) (b:=eP s (s.one x)) (c:=eP s (r.foldl St.one (s.one x))) 32 λp _ h=>by
    unfold eP at*;rw[zBr]at*;rw[zBr];by_cases e:cQ (s.one x) p=cQ s p;{exact aH (by rw[e];exact h)};{exact aI e}
   have f:=OV (b:=eP s (s.one x)) ((dV x.1 64).toNat/2) 32 λp d=>by unfold eP;rw[zFk,Decidable.not_not];exact SI s _ p _ d
   split at f<;>omega
  .have g:=ZU (a:=iM (s.one x) (r.foldl St.one (s.one x))) (b:=iM s (s.one x)) (c:=iM s (r.foldl St.one (s.one x))) 64 λp _ h=>by
    unfold iM at*;rw[zBr]at*;rw[zBr];by_cases e:(s.one x) p=s p;{exact aH (by rw[e];exact h)};{exact aI e}
   have f:=OV (b:=iM s (s.one x)) (dV x.1 64).toNat 64 λp d=>by unfold iM St.one St.put;rw[zFk,Decidable.not_not,zAt d]
   split at f<;>omega
def Vx (s:St):Nat:=sumTo (λp=>(cQ s p).length) 32
def Bj {f g:Nat->Nat}(p0:Nat):∀n,(∀p,p≠p0->f p=g p)->f p0<=g p0+1->sumTo f n<=sumTo g n+if p0<n then 1 else 0
 |0,_,_=>zBs _
 |n+1,h,a=>by
  have i:=Bj p0 n h a;rw[sumTo,sumTo];by_cases e:n=p0;{subst e;rw[zAt (show¬n<n by omega)]at i;rw[zAv (show n<n+1 by omega)];omega}
  .rw[h n e];split at i
   .rename_i b;rw[zAv (show p0<n+1 by omega)];omega
   .omega
def NW (s)(m)(v)(p):(cQ (s.put m v) p).length<=(cQ s p).length+1:=by
 have hl:∀t:St,(cQ t p).length=(if(t (2*p)).isSome then 1 else 0)+(if(t (2*p+1)).isSome then 1 else 0):=λt=>by
  unfold cQ;rw[zEc,zEc,List.filterMap_nil];cases a:t (2*p)with
  |none=>
   cases h:t (2*p+1)with
   |none=>simp[dJ,a,h]
   |some x=>simp[dJ,a,h]
  |some y=>
   cases h:t (2*p+1)with
   |none=>simp[dJ,a,h]
   |some x=>simp[dJ,a,h]
 rw[hl,hl];unfold St.put;by_cases a:2*p=m
 .rw[zAv a,zAt (show¬2*p+1=m by omega)];split<;>split<;>split<;>omega
 .rw[zAt a];by_cases h:2*p+1=m
  .rw[zAv h];split<;>split<;>split<;>omega
  .rw[zAt h];omega
def Jn (r:zII):∀s:St,Vx (r.foldl St.one s)<=Vx s+r.length:=by
 induction r with
 |nil=>intro s;exact zAb _
 |cons x r i=>
  intro s;have c:=i (s.one x);have a:=Bj (f:=λp=>(cQ (s.one x) p).length) ((dV x.1 64).toNat/2) 32 (λp h=>by show(cQ (s.put _ _) p).length=_;rw[SI s _ p _ h]) (NW s _ _ _)
  rw[zEx,zAf];have b:Vx (s.one x)<=Vx s+1:=by unfold Vx;split at a<;>omega
  omega
def Oe (s):2*cnt (jV s) 32<=Vx s:=by
 rw[<-NB];refine sumTo_le _ λp _=> ?_;unfold jV;by_cases h:(cQ s p).length=2
 .rw[zAv (by rw[h];rfl),h];exact zAb _
 .rw[zAt (by rw[zBr];exact h)];exact zBs _
def cnt_mono {a b}(n)(h:∀p,p<n->a p=aF->b p=aF):cnt a n<=cnt b n:=by
 refine sumTo_le _ λp c=> ?_;cases d:a p with
 |false=>simp
 |true=>rw[h p c d];exact zAb _
def Gh (s)(l):BN (cO (s.with l)) (cO s)<=5071:=by
 obtain⟨b,a⟩:=GF (l.take 20) s;have f:=FJ s (s.with l);have e:=zM s (s.with l);have d:cnt (λp=>eP s (s.with l) p&&jV (s.with l) p) 32<=cnt (eP s (s.with l)) 32:=cnt_mono 32 λp _ h=>(zBd _ _▸h).1;have c:(l.take 20).length<=20:=by rw[zBe];omega
 rw[<-JW]at b a;unfold BN;omega
def YJ (l):BN (cO (St.with (λ_=>aB) l)) []<=2561:=by
 obtain⟨f,e⟩:=GF (l.take 20) (λ_=>aB);have d:=FJ (λ_=>aB) (St.with (λ_=>aB) l);have c:=zM (λ_=>aB) (St.with (λ_=>aB) l);have k:cnt (λp=>eP (λ_=>aB) (St.with (λ_=>aB) l) p&&jV (St.with (λ_=>aB) l) p) 32<=cnt (jV (St.with (λ_=>aB) l)) 32:=cnt_mono 32 λp _ h=>(zBd _ _▸h).2;have j:(l.take 20).length<=20:=by rw[zBe];omega
 have i:=Oe (St.with (λ_=>aB) l);have b:=Jn (l.take 20) (λ_=>aB);have g:Vx (λ_=>aB)=0:=by decide+kernel
 rw[<-JW]at f e b;have a:cO (λ_=>aB)=[]:=by decide+kernel
 rw[a]at d c;unfold BN;omega
def Lp (s:St):BN (cO s) []<=8127:=by
 have b:=FJ (λ_=>aB) s;have a:=zM (λ_=>aB) s;have h:cO (λ_=>aB)=[]:=by decide+kernel
 rw[h]at b a;have d:=ZV (λp=>eP (λ_=>aB) s p&&jV s p) 32;have c:=ZV (iM (λ_=>aB) s) 64;unfold BN;omega
def cU (rs:Nat->zII):Nat->St
 |0=>λ_=>aB
 |j+1=>(cU rs j).with (rs j)
open Go Go.RowKit Sha Go.Ga Go.Ren
abbrev ptr:Option Nat->zY
 |none=> .pointer aB
 |some b=>aO (aA ⟨b,0,aB⟩)
def lY (z o:Option Nat)(i v g:zB)(hs:Int):zA:= #[ptr z,ptr o,aL ⟨i.toArray⟩,aL ⟨v.toArray⟩,aL ⟨g.toArray⟩,aC aD hs]
structure aY (w:zW)(b:Nat)(z o:Option Nat)(i v g:zB)(hs:Int):Prop where
 at':∃fr,w.heap[b]? =aA (aJ (lY z o i v g hs) 272 fr)
section
variable {w:zW}{b:Nat}{z o:Option Nat}{i v g:zB}{hs:Int}
def aY.lt (h:aY w b z o i v g hs):b<w.heap.size:=by obtain⟨fr,h⟩:=h.at';exact(zAa.1 h).1
def aY.c0 (h:aY w b z o i v g hs):w.cell? ⟨b,0,aB⟩=aA (ptr z):=by obtain⟨fr,h⟩:=h.at';exact(bC h 0).trans rfl
def aY.c1 (h:aY w b z o i v g hs):w.cell? ⟨b,1,aB⟩=aA (ptr o):=by obtain⟨fr,h⟩:=h.at';exact(bC h 1).trans rfl
def aY.c2 (h:aY w b z o i v g hs):w.cell? ⟨b,2,aB⟩=aA (aL ⟨i.toArray⟩):=by obtain⟨fr,h⟩:=h.at';exact(bC h 2).trans rfl
def aY.c3 (h:aY w b z o i v g hs):w.cell? ⟨b,3,aB⟩=aA (aL ⟨v.toArray⟩):=by obtain⟨fr,h⟩:=h.at';exact(bC h 3).trans rfl
def aY.c4 (h:aY w b z o i v g hs):w.cell? ⟨b,4,aB⟩=aA (aL ⟨g.toArray⟩):=by obtain⟨fr,h⟩:=h.at';exact(bC h 4).trans rfl
def aY.c5 (h:aY w b z o i v g hs):w.cell? ⟨b,5,aB⟩=aA (aC aD hs):=by obtain⟨fr,h⟩:=h.at';exact(bC h 5).trans rfl
def dM (w:zW)(b:Nat):Prop:=∃c,w.heap[b]? =aA (aJ c 272 (0,0))
def dM.f (h:dM w b)(j):w.frozen? ⟨b,j,aB⟩=aG:=by obtain⟨c,h⟩:=h;exact cT h j
def kZ (h:aY w b z o i v g hs):Calls zq 227 #[ptr (aA b)] w λe a=>e=aM (.bool (z.isNone&&o.isNone))/\a=w:=by
 have k:=h.c0;have k1:=h.c1;cases z with
 |none=>
  cases o with
  |none=>go_enter (Qz.fn func227),ntmps227;go_wp2;go_ret;exact⟨rfl,rfl⟩
  |some o=>go_enter (Qz.fn func227),ntmps227;go_wp2;go_ret;exact⟨rfl,rfl⟩
 |some z=>go_enter (Qz.fn func227),ntmps227;go_wp2;go_ret;exact⟨rfl,rfl⟩
def LZ (w):Calls zq 225 #[ptr aB] w λe a=>e=aM (.bool aF)/\a=w:=by go_enter (Qz.fn func225),ntmps225;go_wp2;go_ret;exact⟨rfl,rfl⟩
def xX (h:aY w b z o i v g hs):Calls zq 225 #[ptr (aA b)] w λe a=>e=aM (.bool (z.isNone&&o.isNone))/\a=w:=by have H:=hid h;go_enter (Qz.fn func225),ntmps225;go_wp2_with fail;refine(kZ H.out).mono ?_;rintro e a ⟨rfl,rfl⟩;go_wp2;go_ret;exact⟨rfl,rfl⟩
def xN (w):Calls zq 246 #[ptr aB] w λe a=>e=aM (.bool aG)/\a=w:=by go_enter (Qz.fn func246),ntmps246;go_wp2;go_ret;exact⟨rfl,rfl⟩
def lV (h:aY w b z o i v g hs):Calls zq 246 #[ptr (aA b)] w λe a=>e=aM (.bool g.isEmpty)/\a=w:=by have k:=h.c4;go_enter (Qz.fn func246),ntmps246;go_wp2;go_ret;exact⟨rfl,rfl⟩
def Gs (w):Calls zq 222 #[ptr aB] w λe a=>e=aM (ptr aB)/\a=w:=by go_enter (Qz.fn func222),ntmps222;go_wp2;go_ret;exact⟨rfl,rfl⟩
def Gr (h:aY w b z o i v g hs)(c:dM w b):Calls zq 222 #[ptr (aA b)] w λe a=>e=aM (ptr (aA b))/\∃m,a=w.setCell ⟨b,5,aB⟩ (aC aD m):=by have k:=h.c5;have f5:=c.f 5;go_enter (Qz.fn func222),ntmps222;go_wp2;go_ret;exact⟨rfl,_,rfl⟩
end
def eV (w:zW)(v:zO)(us:List bK):Prop:=0<us.length->∃g o,v=aA ⟨g,o,aB⟩/\g<w.heap.size/\∀j u,(cE us)[j]? =aA u->w.cell? ⟨g,o+j,aB⟩=aA u
def eV.below {w w' B v us}(h:eV w v us)(a:Below B w w')(i:w.heap.size<=B):eV w' v us:=λf=>by obtain⟨g,o,e,c,d⟩:=h f;exact⟨g,o,e,zAd c a.size,λj u b=>by rw[<-d j u b];exact a.cell (p:=⟨g,o+j,aB⟩) (by simp only;omega)⟩
def eV.idx {w v us}(h:eV w v us)(i)(u)(b:us[i]? =aA u):∃g o,v=aA ⟨g,o,aB⟩/\g<w.heap.size/\w.cell? ⟨g,o+i*3,aB⟩=aA (aL ⟨u.idx.toArray⟩)/\w.cell? ⟨g,o+i*3+1,aB⟩=aA (aL ⟨u.val.toArray⟩)/\w.cell? ⟨g,o+i*3+2,aB⟩=aA (.bool u.gone):=by
 have hi:=(zAx.1 b).1;obtain⟨g,o,e,d,a⟩:=h (by omega);have k:=λj (c:j<3)=>qG us i u b j c;refine⟨g,o,e,d,?_,?_,?_⟩
 .exact a (i*3) _ ((k 0 (by decide)).trans rfl)
 .rw[zCl];exact a (i*3+1) _ ((k 1 (by decide)).trans rfl)
 .rw[zCl];exact a (i*3+2) _ ((k 2 (by decide)).trans rfl)
structure Cut (us:List bK)(d m:Nat):Prop where
 le:m<=us.length
 zero:∀i u,i<m->us[i]? =aA u->eN u.idx d=0
 one:∀i u,m<=i->us[i]? =aA u->eN u.idx d=1
def MC:∀{a b:zB},a.length=b.length->aE1 a b= -1->∃j,j<a.length/\(∀i,i<j->a.getD i 0=b.getD i 0)/\(a.getD j 0).toNat<(b.getD j 0).toNat
 |[],[],_,h=>by simp[aE1]at h
 |[],_::_,h,_=>by simp at h
 |_::_,[],h,_=>by simp at h
 |x::a,y::b,hl,h=>by
  rw[aE1]at h;by_cases d:x<y;{exact⟨0,by simp,λi hi=>by omega,by simpa using UInt8.lt_iff_toNat_lt.1 d⟩}
  .rw[zAt d]at h;by_cases c:y<x
   .rw[zAv c]at h;simp at h
   .rw[zAt c]at h;have e:=zGg (zEw.1 c) (zEw.1 d);obtain⟨j,k,f,g⟩:=MC (by simpa using hl) h;refine⟨j+1,by simp;omega,λi hi=> ?_,by simpa using g⟩;cases i with
    |zero=>simpa using e
    |succ i=>simpa using f i (by omega)
def Ht (x y r)(j:x<256)(g:y<256)(a:r<8)(h:∀i,i<r->x/2^(7-i)%2=y/2^(7-i)%2)(l:x/2^(7-r)%2=1)(m:y/2^(7-r)%2=0):y<x:=by
 have k:=h;have f:=k 0;have k1:=k 1;have k2:=k 2;have e:=k 3;have d:=k 4;have c:=k 5;have b:=k 6;match r,a with
 |0,_=>simp at*;omega
 |1,_=>simp at*;omega
 |2,_=>simp at*;omega
 |3,_=>simp at*;omega
 |4,_=>simp at*;omega
 |5,_=>simp at*;omega
 |6,_=>simp at*;omega
 |7,_=>simp at*;omega
def Hp (x y)(g:x<256)(f:y<256)(h:∀i,i<8->x/2^(7-i)%2=y/2^(7-i)%2):x=y:=by have e:=h 0;have k1:=h 1;have k2:=h 2;have d:=h 3;have c:=h 4;have b:=h 5;have a:=h 6;have k:=h 7;simp at*;omega
def Hz {a b}(o:a.length=32)(n:b.length=32)(h:aE1 a b= -1){d}(c:∀i,i<d->eN a i=eN b i)(g:eN a d=1):eN b d=1:=by
 obtain f|f:=tZ b d
 .exfalso;obtain⟨j,m,l,p⟩:=MC (by omega) h;obtain bT|rfl|k:=Nat.lt_trichotomy (d/8) j
  .have:=l (d/8) bT;unfold eN at f g;rw[this]at g;omega
  .have e:∀i,i<d%8->(a.getD (d/8) 0).toNat/2^(7-i)%2=(b.getD (d/8) 0).toNat/2^(7-i)%2:=λi hi=>by
    have:=c (8*(d/8)+i) (by omega);unfold eN at this;rw[show(8*(d/8)+i)/8=d/8 by omega,show(8*(d/8)+i)%8=i by omega]at this;exact this
   have:=Ht _ _ (d%8) (aFl _) (aFl _) (by omega) e g f;omega
  .have e:∀i,i<8->(a.getD j 0).toNat/2^(7-i)%2=(b.getD j 0).toNat/2^(7-i)%2:=λi hi=>by
    have:=c (8*j+i) (by omega);unfold eN at this;rw[show(8*j+i)/8=j by omega,show(8*j+i)%8=i by omega]at this;exact this
   have:=Hp _ _ (aFl _) (aFl _) e;omega
 .exact f
def bH (us:List bK):List rQ:=us.map λu=>(u.idx,u.val)
def gJ (us):(bH us).length=us.length:=zDg ..
structure Sub (us:List bK)(d:Nat):Prop where
 order:us.Pairwise λa b=>aE1 a.idx b.idx= -1
 idx:∀u∈us,u.idx.length=32
 bits:∀a∈us,∀b∈us,∀i,i<d->eN a.idx i=eN b.idx i
def bM (d b:Nat)(us:List bK):List bK:=us.filter λu=>eN u.idx d==b
def fM (us)(d b):bH (bM d b us)=dB (bH us) d b:=by unfold bH bM dB;rw[List.filter_map];rfl
def Nx (d:Nat):∀us:List bK,(us.Pairwise λa b=>eN a.idx d=1->eN b.idx d=1)->∃m,Cut us d m/\us.take m=bM d 0 us/\us.drop m=bM d 1 us
 |[],_=>⟨0,⟨zAb _,λi u hi=>by omega,λi u _ h=>by simp at h⟩,rfl,rfl⟩
 |u::us,h=>by
  obtain⟨k,j⟩:=zBw.1 h;obtain f|f:=tZ u.idx d
  .obtain⟨m,g,n,l⟩:=Nx d us j;refine⟨m+1,⟨by have:=g.le;simp;omega,λi v hi c=> ?_,λi v hi c=> ?_⟩,?_,?_⟩
   .cases i with
    |zero=>simp at c;rw[<-c];exact f
    |succ i=>exact g.zero i v (by omega) (by simpa using c)
   .cases i with
    |zero=>omega
    |succ i=>exact g.one i v (by omega) (by simpa using c)
   .rw[zFg,n,bM,bM,zAy (by rw[f];rfl)]
   .rw[zFi,l,bM,bM,zAp (by rw[f];decide)]
  .have e:∀v∈u::us,eN v.idx d=1:=λv c=>by
    obtain rfl|c:=zAg.1 c;{exact f};{exact k v c f}
   refine⟨0,⟨zBs _,λi v hi=>by omega,λi v _ c=>e v (zDe c)⟩,?_,?_⟩;{rw[zFd,bM,zFo.2];intro v c;rw[e v c];decide};{rw[zEs,bM,zFh.2];intro v c;rw[e v c];rfl}
def Sub.cut {us:List bK}{d:Nat}(h:Sub us d):∃m,Cut us d m/\us.take m=bM d 0 us/\us.drop m=bM d 1 us:=
 Nx d us (h.order.imp_of_mem λ{a b} e hb c h1=>Hz (h.idx a e) (h.idx b hb) c (h.bits a e b hb) h1)
def Sub.deep {us d}(h:Sub us d)(f:2<=us.length):d<256:=by
 match us,f with
 |a::b::us,_=>obtain c|c:=zDf d 256;{exact c};{exfalso;have e:=Df (h.idx a (by simp)) (h.idx b (by simp)) λi hi=>h.bits a (by simp) b (by simp) i (by omega);have:=(zBw.1 h.order).1 b (by simp);rw[e,dC]at this;cases this}
def Sub.zero {us}(h:us.Pairwise λa b=>aE1 a.idx b.idx= -1)(hi:∀u∈us,u.idx.length=32):Sub us 0:=⟨h,hi,λ_ _ _ _ i hi=>by omega⟩
def nZ (us)(d):(bM d 0 us).length+(bM d 1 us).length=us.length:=by have:=GA (bH us) d;rw[<-fM,<-fM,gJ,gJ,gJ]at this;exact this
def Du (k d):kQ k [] d=dg k [0]:=by unfold kQ;cases 256-d<;>rfl
def yM (k d)(e):kQ k [e] d=dg k (FQ k e):=by unfold kQ;cases 256-d<;>rfl
def WO (k d)(l)(h:2<=l.length)(c:d<256):kQ k l d=dg k (2::(kQ k (dB l d 0) (d+1)++kQ k (dB l d 1) (d+1))):=by
 unfold kQ;rw[show 256-d=(256-(d+1))+1 by omega];match l,h with
 |a::b::l,_=>rfl
def qH (k d)(l)(h:k<=32):(kQ k l d).length=k:=nE k _ h
def addr_add (g o j):(⟨g,o,aB⟩:Addr).add j=⟨g,o+j,aB⟩:=by unfold Addr.add;split<;>simp_all
def eV.part {w v us}(h:eV w v us)(m):eV w v (us.take m):=λd=>by
 obtain⟨g,o,e,b,c⟩:=h (by rw[zBe]at d;omega);refine⟨g,o,e,b,λj u a=>c j u ?_⟩;have f:cE us=cE (us.take m)++cE (us.drop m):=by rw[cE,cE,cE,<-List.flatMap_append,zBy]
 rw[f,zCh (zAx.1 a).1];exact a
def eV.rest {w v vb us}(h:eV w v us)(m)(d:m<us.length->vb=v.map λx=>x.add (m*3)):eV w vb (us.drop m):=λf=>by
 rw[zCn]at f;obtain⟨g,o,e,b,c⟩:=h (by omega);subst e;refine⟨g,o+m*3,(d (by omega)).trans (by rw[zBf,addr_add]),b,λj u a=> ?_⟩;rw[zCl];refine c (m*3+j) u ?_;have i:cE us=cE (us.take m)++cE (us.drop m):=by rw[cE,cE,cE,<-List.flatMap_append,zBy]
 rw[i,zBh (by rw[mC,zBe];omega),mC,zBe,show m*3+j-min m us.length*3=j by omega];exact a
abbrev jA (k:Nat)(us:List bK)(d:Nat):zB:=kQ k (bH us) d
inductive eO (k:Nat)(w:zW):Option Nat->List bK->zP
 |nil (d:Nat):eO k w aB [] d
 |leaf {b:Nat} {u:bK} {d:Nat} {hs:Int} (h:aY w b aB aB u.idx u.val (jA k [u] d) hs):eO k w (aA b) [u] d
 |node {b:Nat} {us:List bK} {d:Nat} {z o:Option Nat} {hs:Int} (h2:2<=us.length) (hd:d<256) (h:aY w b z o [] [] (jA k us d) hs) (hz:eO k w z (bM d 0 us) (d+1)) (ho:eO k w o (bM d 1 us) (d+1)):eO k w (aA b) us d
inductive cR (k:Nat)(w:zW):Option Nat->List bK->Nat->Nat->Nat->List (Nat×ByteArray)->Prop
 |done {p:Option Nat} {us:List bK} {d lo hi:Nat} (h:eO k w p us d) (hl:lo<=hi):cR k w p us d lo hi []
 |leaf {b:Nat} {u:bK} {d lo hi:Nat} {hs:Int} (h1:lo<=b) (h2:b<hi) (h:aY w b aB aB u.idx u.val [] hs):cR k w (aA b) [u] d lo hi [(b,⟨(jA k [u] d).toArray⟩)]
 |node {b:Nat} {us:List bK} {d lo m hi:Nat} {z o:Option Nat} {hs:Int} {rz ro:List (Nat×ByteArray)} (h2:2<=us.length) (hd:d<256) (h:aY w b z o [] [] [] hs) (hz:cR k w z (bM d 0 us) (d+1) lo m rz) (ho:cR k w o (bM d 1 us) (d+1) m b ro) (hb:b<hi):cR k w (aA b) us d lo hi (rz++ro++[(b,⟨(jA k us d).toArray⟩)])
section
variable {k:Nat}{w w':zW}{p:Option Nat}{us:List bK}{d lo hi:Nat}{rows:List (Nat×ByteArray)}
def fC {b z o c f i v g i' v' l hs a}(h:aY w b z o i v g hs)(m:aY w b c f i' v' l a):z=c/\o=f/\i=i'/\v=v'/\g=l/\hs=a:=by
 obtain⟨fr,e⟩:=h.at';obtain⟨n,B⟩:=m.at';rw[B]at e;injection e with e;injection e with e _ _;have e:=congrArg Array.toList e;simp only[lY,List.cons.injEq,and_true]at e;obtain⟨A,u,t,s,r,q⟩:=e;have j:∀{x y:Option Nat},ptr x=ptr y->y=x:=λ{x y} h=>by cases x<;>cases y<;>simp_all [ptr]
 refine⟨j A,j u,?_,?_,?_,?_⟩
 .simpa using t.symm
 .simpa using s.symm
 .simpa using r.symm
 .simpa using q.symm
def GU (h:k<=32):(jA k us d).length=k:=qH k d _ h
def qY (a:1<=k)(h:k<=32):jA k us d≠[]:=λe=>by have:=GU (us:=us) (d:=d) h;rw[e]at this;simp at this;omega
def GS (k d a)(u):jA k [u] d=jA k [u] a:=by unfold jA bH;rw[List.map_singleton,yM,yM]
def eO.iB (h:eO k w p us d):p=aB↔us=[]:=by
 cases h with
 |nil=>simp
 |leaf=>simp
 |node a=>constructor;{intro e;cases e};{rintro rfl;simp at a}
def cR.iB (h:cR k w p us d lo hi rows):p=aB↔us=[]:=by
 cases h with
 |done h=>exact h.iB
 |leaf=>simp
 |node a=>constructor;{intro e;cases e};{rintro rfl;simp at a}
def cR.Gj (h:cR k w p us d lo hi rows):lo<=hi:=by
 induction h with
 |done _ h=>exact h
 |leaf h1 b _=>omega
 |node _ _ _ _ _ hb a i=>omega
def cR.wide {l a}(h:cR k w p us d lo hi rows)(c:l<=lo)(f:hi<=a):cR k w p us d l a rows:=by
 induction h generalizing l a with
 |done h hl=>exact .done h (by omega)
 |leaf k1 k2 h=>exact .leaf (by omega) (by omega) h
 |node g2 e g j go m i b=>exact .node g2 e g (i c (zAb _)) go (by omega)
def eO.keep (m:1<=k)(j:k<=32)(l:∀b z o i v g hs,g≠[]->aY w b z o i v g hs->∃a,aY w' b z o i v g a)(h:eO k w p us d):eO k w' p us d:=by
 induction h with
 |nil d=>exact .nil d
 |leaf h=>obtain⟨a,f⟩:=l _ _ _ _ _ _ _ (qY m j) h;exact .leaf f
 |node q n h _ _ e c=>obtain⟨a,f⟩:=l _ _ _ _ _ _ _ (qY m j) h;exact .node q n f e c
def cR.keep (q:1<=k)(l:k<=32)(f:∀b z o i v g hs,aY w b z o i v g hs->∃a,aY w' b z o i v g a)(h:cR k w p us d lo hi rows):cR k w' p us d lo hi rows:=by
 induction h with
 |done h hl=>exact .done (h.keep q l λb z o i v g hs _=>f b z o i v g hs) hl
 |leaf k1 k2 h=>obtain⟨a,j⟩:=f _ _ _ _ _ _ _ h;exact .leaf k1 k2 j
 |node n m h _ _ hb e c=>obtain⟨a,j⟩:=f _ _ _ _ _ _ _ h;exact .node n m j e c hb
def cR.each (h:cR k w p us d lo hi rows):(∀x∈rows,lo<=x.1/\x.1<hi/\∃z o i v r,aY w x.1 z o i v [] r)/\(rows.map (·.1)).Nodup:=by
 induction h with
 |done=>exact⟨λx b=>by simp at b,by simp⟩
 |leaf h1 m h=>refine⟨λx b=> ?_,by simp⟩;rw[zAs]at b;subst b;exact⟨h1,m,_,_,_,_,_,h⟩
 |node m A h n s hb g f=>
  have u:=n.Gj;have t:=s.Gj;refine⟨λx b=> ?_,?_⟩
  .obtain b|b:=zAi.1 b
   .obtain b|b:=zAi.1 b
    .have:=g.1 x b;exact⟨this.1,by omega,this.2.2⟩
    .have:=f.1 x b;exact⟨by omega,by omega,this.2.2⟩
   .rw[zAs]at b;subst b;exact⟨by omega,hb,_,_,_,_,_,h⟩
  .rw[zEo,zEo,List.nodup_append,List.nodup_append];refine⟨⟨g.2,f.2,λa j c l e=> ?_⟩,by simp,λa j c l e=> ?_⟩
   .obtain⟨x,b,rfl⟩:=zCi.1 j;obtain⟨y,q,rfl⟩:=zCi.1 l;have:=g.1 x b;have:=f.1 y q;omega
   .simp only[zDy,List.map_nil,zAs]at l;subst l;obtain j|j:=zAi.1 j
    .obtain⟨x,b,rfl⟩:=zCi.1 j;have:=g.1 x b;omega
    .obtain⟨x,b,rfl⟩:=zCi.1 j;have:=f.1 x b;omega
def cR.part (P:1<=k)(M:k<=32){S:zP}{all:List (Nat×ByteArray)}(O:∀b,S b->∃z o i v hs,aY w b z o i v [] hs)(l:∀b z o i v hs,S b->aY w b z o i v [] hs->∀c,z=aA c\/o=aA c->(∃z o i v hs,aY w c z o i v [] hs)->S c)
  (t:∀b s,S b->(b,s)∈all->∀z o i v hs,aY w b z o i v [] hs->∃e,aY w' b z o i v s.data.toList e) (j:∀b,¬S b->∀z o i v g hs,aY w b z o i v g hs->∃e,aY w' b z o i v g e)
  (h:cR k w p us d lo hi rows) (A:∀x∈rows,x∈all):(∃cN,cR k w' p us d lo hi cN/\(∀x∈cN,x∈rows/\¬S x.1)/\cN.length<=rows.length)/\((∀b,p=aA b->(∃z o i v hs,aY w b z o i v [] hs)->S b)->eO k w' p us d):=by
 have hold:∀b z o i v g hs,g≠[]->aY w b z o i v g hs->∃e,aY w' b z o i v g e:=λb z o i v g hs N h=>j b (λr=>by obtain⟨R,V,i',T,e,n⟩:=O b r;exact N (fC h n).2.2.2.2.1) z o i v g hs h
 induction h with
 |done h hl=>have q:=h.keep P M hold;exact⟨⟨[],.done q hl,λx a=>by simp at a,zBs _⟩,λ_=>q⟩
 | @leaf b u d lo hi hs k1 k2 h=>by_cases r:S b;{obtain⟨e,n⟩:=t b ⟨(jA k [u] d).toArray⟩ r (A _ (by simp)) _ _ _ _ _ h;have q:eO k w' (aA b) [u] d:= .leaf (by simpa using n);exact⟨⟨[],.done q (by omega),λx a=>by simp at a,zBs _⟩,λ_=>q⟩};{obtain⟨e,n⟩:=j b r _ _ _ _ _ _ h;refine⟨⟨_,.leaf k1 k2 n,λx a=>⟨a,?_⟩,zAb _⟩,λa=>absurd (a b rfl ⟨_,_,_,_,_,h⟩) r⟩;rw[zAs]at a;subst a;exact r}
 | @node b us d lo m hi z o hs U ro H q h K L r C B=>
  have G:=C λx a=>A x (zAi.2 (aH (zAi.2 (aH a))));have F:=B λx a=>A x (zAi.2 (aH (zAi.2 (aI a))));by_cases f:S b;{obtain⟨e,n⟩:=t b ⟨(jA k us d).toArray⟩ f (A _ (by simp)) _ _ _ _ _ h;have d1:=G.2 λc E D=>l b _ _ _ _ _ f h c (aH E) D;have Q:=F.2 λc E D=>l b _ _ _ _ _ f h c (aI E) D;have y:eO k w' (aA b) us d:= .node H q (by simpa using n) d1 Q;have Z:=K.Gj;have Y:=L.Gj;exact⟨⟨[],.done y (by omega),λx a=>by simp at a,zBs _⟩,λ_=>y⟩}
  .obtain⟨e,n⟩:=j b f _ _ _ _ _ _ h;obtain⟨⟨r1,f1,J,X⟩,_⟩:=G;obtain⟨⟨r2,f2,I,W⟩,_⟩:=F;refine⟨⟨_,.node H q n f1 f2 r,λx a=> ?_,by simp only[zAc,zAf,zAl];omega⟩,λa=>absurd (a b rfl ⟨_,_,_,_,_,h⟩) f⟩;obtain a|a:=zAi.1 a
   .obtain a|a:=zAi.1 a
    .exact⟨zAi.2 (aH (zAi.2 (aH (J x a).1))),(J x a).2⟩
    .exact⟨zAi.2 (aH (zAi.2 (aI (I x a).1))),(I x a).2⟩
   .rw[zAs]at a;subst a;exact⟨by simp,f⟩
end
structure pA (w:zW)(t k:Nat):Prop where
 lt:t<w.heap.size
 wid:w.cell? ⟨t,0,aB⟩=aA (aC aD k)
 emp:w.cell? ⟨t,2,aB⟩=aA (aL ⟨(dg k [0]).toArray⟩)
def pA.below {w w':zW}{B t k:Nat}(h:pA w t k)(a:Below B w w')(b:w.heap.size<=B):pA w' t k:=
 ⟨zAd h.lt a.size,by rw[a.cell (p:=⟨t,0,aB⟩) (zAd h.lt b)];exact h.wid,by rw[a.cell (p:=⟨t,2,aB⟩) (zAd h.lt b)];exact h.emp⟩
def quiet_of {P:zZ}{f:zN}{args:zA}{v:zY}{w:zW}(h:∀W,zb w W->Calls P f args W λe w'=>e=aM v/\zb W w'):
  Hid (∀(b:Nat)(os:zJ),Calls P f args (Go.Sort.grow (redrawn w b) os) λe a=>e=aM v/\∃p:Regrown,a=Go.Sort.grow (redrawn w p.d) p.os):=λb os=>Calls.regrown_of (h _ (zGt w b os))
def dU {w p v}(h:w.cell? p=aA v)(b:p.block<w.heap.size):∀(a)(os),(Go.Sort.grow (redrawn w a) os).cell? p=aA v:=λa os=>by rw[(zGt w a os).cell (p:=p) b];exact h
def EW (p:Nat×ByteArray):zV:=[aO (aA ⟨p.1,0,aB⟩),aL p.2]
def nM (l:List (Nat×ByteArray)):zV:=l.flatMap EW
def JC (l)(p:Nat×ByteArray):nM (l++[p])=nM l++EW p:=by simp[nM]
def Kr (p:Nat×ByteArray):∀x∈EW p,x.oneCell'=aF:=by intro x h;simp only[EW,zAg,zAo,zCe]at h;obtain rfl|rfl:=h<;>rfl
def NR (l):∀(i)(p:Nat×ByteArray),l[i]? =aA p->∀j,j<2->(nM l)[i*2+j]? =(EW p)[j]? :=by
 induction l with
 |nil=>intro i u h;cases h
 |cons a l b=>
  intro i u h j c;show(EW a++nM l)[i*2+j]? =_;cases i with
  |zero=>simp only[zCw,aEr]at h;subst h;rw[zCh (by show _<2;omega)];simp
  |succ i=>rw[zBh (by show 2<=_;omega),show(i+1)*2+j-(EW a).length=i*2+j by show(i+1)*2+j-2=_;omega];exact b i u (by simpa using h) j c
def rD (w:zW)(base:Nat)(v:zY)(l:List (Nat×ByteArray)):Prop:=w.ownsRow base 292 2 v l.length (nM l)
def rD.nil (w)(base):rD w base (aK aB 0 0) []:=World.ownsRow_nil _ _ _ _
def rD.lt {w base v l}(h:rD w base v l):∀k,v.ownBlock=aA k->base<=k/\k<w.heap.size:=World.ownsRow.lt h
def rD.kept {w w' base v l}(h:rD w base v l)(b:∀g,v.ownBlock=aA g->w'.heap[g]? =w.heap[g]?):rD w' base v l:=by
 obtain⟨e,a⟩:=h;refine⟨e,?_⟩;obtain a|⟨g,cap,cur,rfl,hb,c,r⟩:=a
 .exact aH a
 .exact aI ⟨g,cap,cur,rfl,hb,by rw[b g rfl];exact c,r⟩
def rD.below {w w':zW}{B base:Nat}{v:zY}{l:List (Nat×ByteArray)}(h:rD w base v l)(b:Below B w w')(c:w.heap.size<=B):rD w' base v l:=
 h.kept λg a=>b.block g (zAd (h.lt g a).2 c)
def Kq:∃i,zq.info? 292=aA i/\i.zero=aA (.agg #[.pointer aB,aL ⟨#[]⟩])/\i.size=2/\i.bytes=24:=by
 have h:(zq.info? 292).map (λi=>(i.zero,i.size,i.bytes))=aA (aA (.agg #[.pointer aB,aL ⟨#[]⟩]),2,24):=by kernel_rfl
 cases a:zq.info? 292 with
 |none=>rw[a]at h;cases h
 |some i=>rw[a]at h;simp only[zBf,aEr,aFj]at h;exact⟨i,rfl,h.1,h.2.1,h.2.2⟩
def IC {W ops rest o a Q}(m:o.guard=aB)(s x)
  (B:o.op= .call {callee:= .builtin .append,args:= #[s,x],argTypes:= #[283,283]})
  (base) (v) (l) (hs:a.eval s=v) (b:rD W base v l) (u:Nat×ByteArray) (c) (A:a.eval x=aK (aA ⟨W.heap.size,0,aB⟩) 1 c)
  (E:l.length<=1000000) (q:base<=W.heap.size)
  (h:∀g cap w',rD w' base (aK (aA ⟨g,0,aB⟩) (l.length+1) cap) (l++[u])->W.grownBy w' v.ownBlock->wpList zq ops Q rest (a.put o.dst (aK (aA ⟨g,0,aB⟩) (l.length+1) cap)) w'):wpList zq ops Q (o::rest) a (W.alloc (aJ #[aO (aA ⟨u.1,0,aB⟩),aL u.2] 292)):=by
 obtain⟨i,hi,r,f,n⟩:=Kq;refine wpList_append_lies _ m s x 283 B base 292 i _ 2 24 ((Qz.eZ 283).trans underlying283) hi r f n rfl (by omega) v l.length (nM l) hs (World.ownsRow.alloc b _) ⟨W.heap.size,0,aB⟩ 1 c (EW u) A rfl (λj y z=> ?_) (Kr u) (by omega) (by simp only[maxLen];omega) (by omega) (by rw[size_alloc];omega) _ rfl (λg cap w' D C _ _=>h g cap w' ?_ (kL C))
 .have e:(⟨W.heap.size,0,aB⟩:Addr).add j=⟨W.heap.size,j,aB⟩:=by{unfold Addr.add;split<;>simp_all};rw[e];show(W.alloc (aJ (EW u).toArray 292)).cell? _=_;rw[(cB.new W 292 (EW u).toArray).cell j];simpa using z
 .unfold rD;rw[JC,zAc];exact D
def yE {w0 w w':zW}{B base:Nat}{v:zY}{l:List (Nat×ByteArray)}(e:Below B w0 w)(h:rD w base v l)(c:w.grownBy w' v.ownBlock)(f:B<=base)(a:B<=w.heap.size):Below B w0 w':=
 e.grown c a λk b=>zBc f (h.lt k b).1
def rD.rows {w base v l}(h:rD w base v l):∃q c,v=aK q l.length c/\l.length<=c/\fJ l q l.length w/\∀a,q=aA a->base<=a.block:=by
 obtain⟨y,f⟩:=h;obtain⟨rfl,f⟩|⟨g,cap,cur,rfl,hb,o,r,_,s,n⟩:=f
 .have:l=[]:=zFm.1 f;subst this;exact⟨aB,0,rfl,zAb _,⟨rfl,λx=>absurd rfl x⟩,λa e=>by cases e⟩
 .refine⟨aA ⟨g,0,aB⟩,cap,rfl,r,⟨rfl,λ_=>⟨g,0,rfl,λj p m=> ?_⟩⟩,λa e=>by cases e;exact hb⟩;have b:∀i,i<2->w.cell? ⟨g,0+(j*2+i),aB⟩=(EW p)[i]? :=λi hi=>by
   have u:=(zAx.1 m).1;rw[zAz,bC o,<-NR l j p m i hi,<-n,List.getElem?_take_of_lt (by omega),zBt]
  exact⟨b 0 (by omega),by have:=b 1 (by omega);rwa [<-zCl]at this⟩
section
variable {k t:Nat}{w w':zW}{p:Option Nat}{us:List bK}{d lo hi:Nat}{rows:List (Nat×ByteArray)}
def YX (h:pA w t k):Calls zq 226 #[aO (aA ⟨t,0,aB⟩),ptr aB] w λe w'=>e=aM (aL ⟨(dg k [0]).toArray⟩)/\w'=w:=by have p2:=h.emp;go_enter (Qz.fn func226),ntmps226;go_wp2;go_ret;exact⟨rfl,rfl⟩
def FU {b z o i v g hs}(h:aY w b z o i v g hs):Calls zq 226 #[aO (aA ⟨t,0,aB⟩),ptr (aA b)] w λe w'=>e=aM (aL ⟨g.toArray⟩)/\w'=w:=by have c4:=h.c4;go_enter (Qz.fn func226),ntmps226;go_wp2;go_ret;exact⟨rfl,rfl⟩
def FV (a:pA w t k)(h:eO k w p us d):Calls zq 226 #[aO (aA ⟨t,0,aB⟩),ptr p] w λe w'=>e=aM (aL ⟨(jA k us d).toArray⟩)/\w'=w:=by
 cases h with
 |nil=>have:jA k [] d=dg k [0]:=Du k d;rw[this];exact YX a
 |leaf h=>exact FU h
 |node _ _ h=>exact FU h
structure Wk (k t:Nat)(W0 W:zW):Prop where
 k1:1<=k
 k2:k<=32
 top:pA W0 t k
 gW:fF W0
 below:zb W0 W
def Wk.cell {c W}(h:Wk k t c W){b z o i v g hs}(a:aY c b z o i v g hs):aY W b z o i v g hs:=⟨by rw[h.below.block b a.lt];exact a.at'⟩
def Wk.AZ {a W}(h:Wk k t a W):pA W t k:=h.top.below h.below (zAb _)
def Wk.uo {a W}(h:Wk k t a W):fF W:=h.gW.below h.below (zAb _)
def ID (k t:Nat)(a:zW)(p:Option Nat)(us:List bK)(d:Nat)(rows:List (Nat×ByteArray)):Prop:=
 ∀W v L,Wk k t a W->rD W a.heap.size v L->L.length+rows.length<=1000000->Calls zq 243 #[aO (aA ⟨t,0,aB⟩),ptr p,v] W λe w'=>∃b,e=aM (.tuple #[aL ⟨(jA k us d).toArray⟩,b])/\rD w' a.heap.size b (L++rows)/\zb a w'
def WL {m}(h:eO k m p us d):ID k t m p us d []:=by
 intro W v L a s A;have x:=hid a;have l:=h.keep a.k1 a.k2 λb z o i v g n _ r=>⟨n,a.cell r⟩;have u:Hid (∀c,c=W->Calls zq 226 #[aO (aA ⟨t,0,aB⟩),ptr p] c λe w'=>e=aM (aL ⟨(jA k us d).toArray⟩)/\w'=c):=λc e=>by subst e;exact FV a.AZ l
 have y:Hid (Calls zq 246 #[ptr p] W λe w'=>e=aM (.bool aG)/\w'=W):=by
  have f:=qY (us:=us) (d:=d) a.k1 a.k2;have j:(jA k us d).isEmpty=aG:=by{cases q:jA k us d with|nil=>exact absurd q f|cons _ _=>rfl};cases l with
  |nil=>exact xN W
  |leaf h=>exact(lV h).mono λe w' h=>⟨by rw[h.1,j],h.2⟩
  |node _ _ h=>exact(lV h).mono λe w' h=>⟨by rw[h.1,j],h.2⟩
 have H:=hid s;generalize jA k us d=Z at*;generalize ptr p=pp at*;go_enter (Qz.fn func243),ntmps243;go_wp2_with fail;refine y.out.mono ?_;rintro e w' ⟨rfl,rfl⟩;go_wp2_with fail;refine(u.out _ rfl).mono ?_;rintro e w' ⟨rfl,rfl⟩;go_wp2;go_ret2;exact⟨v,rfl,by rw[zAq];exact H.out,x.out.below⟩
end
section
variable {k t:Nat}{W0:zW}{us:List bK}{d:Nat}
def WK {b u hs}(hi:u.idx.length=32)(hv:u.val.length<=100)(I:aY W0 b aB aB u.idx u.val [] hs):ID k t W0 (aA b) [u] d [(b,⟨(jA k [u] d).toArray⟩)]:=by
 intro W v L i J K;have m:=i.k1;have f:=i.k2;have z:L.length<=1000000:=by simp at K;omega
 have j:=i.cell I;have U:=hid (lV j);have S:=hid (kZ j);have Q:=hid J;have E:=hid i.below;have C:=hid i.uo;have x:=hid i.AZ;have q0:=dU x.out.wid x.out.lt;have q1:=dU j.c2 j.lt;have X:=dU j.c3 j.lt;rw[show jA k [u] d=dg k (1::(u.idx++dg k (4::u.val)))from yM k d _];have H:Hid (∀a,fF a->Calls zq 128 #[aC aD k,aL ⟨u.val.toArray⟩] a λe c=>e=aM (aL ⟨(dg k (4::u.val)).toArray⟩)/\zb a c):=λa p=>Ik k ⟨u.val.toArray⟩ a m f (by show u.val.length<=_;omega) p;have xj:(dg k (4::u.val)).length=k:=nE k _ f;generalize dg k (4::u.val)=Y at*;have s:Hid (∀a,Calls zq 127 #[aL ⟨u.idx.toArray⟩,aL ⟨Y.toArray⟩] a λe c=>e=aM (aL ⟨(1::(u.idx++Y)).toArray⟩)/\zb a c):=λa=>
  (PR ⟨u.idx.toArray⟩ ⟨Y.toArray⟩ a (by show u.idx.length<=_;omega) (by show Y.length<=_;omega)).mono λe c h=>⟨h.1,by rw[h.2];exact zGm _ _⟩
 have ji:(1::(u.idx++Y)).length<=1000:=by simp;omega
 generalize 1::(u.idx++Y)=Z at*;have r:Hid (∀a,fF a->Calls zq 53 #[aC aD k,aL ⟨Z.toArray⟩] a λe c=>e=aM (aL ⟨(dg k Z).toArray⟩)/\zb a c):=λa p=>tH k ⟨Z.toArray⟩ a m f (by show Z.length<=_;omega) p;generalize dg k Z=R at*;have B:=quiet_of λa p=>H.out a (C.out.below p (zAb _));have D:=quiet_of (w:=W) λa _=>s.out a;clear j I i J K H s;go_enter (Qz.fn func243),ntmps243;go_wp2_with fail;refine U.out.mono ?_;rintro e c ⟨rfl,rfl⟩;go_wp2_with fail;refine S.out.mono ?_;rintro e c ⟨rfl,rfl⟩;go_wp2_with fail;refine zHe (by kernel_rfl) (by kernel_rfl) ?_;repeat (any_goals(first|go_big_quiet_step ((first|exact B.out _ _|exact D.out _ _))|quiet_step ((first|exact B.out _ _|exact D.out _ _))))
 refine wpQuiet_nil ?_;intro N y;obtain⟨q,G⟩:=y;have o:zb c N:=by rw[G];exact zGt c q.d q.os
 have F:=hid (E.out.trans (o.mono E.out.size));have P:=hid (Q.out.below o (zAb _));have T:=hid (C.out.below o (zAb _));have P1:=(x.out.below o (zAb _)).wid;clear G o B D q0 q1 X Q C x E U S;go_wp2_with fail;refine(r.out N T.out).mono ?_;rintro e w2 ⟨rfl,g⟩;have V:=hid (F.out.trans (g.mono F.out.size));have O:=hid (P.out.below g (zAb _));have n:=V.out.size;clear g F P T P1 r;go_wp2_with (first|(at_builtin;refine IC rfl _ _ rfl W0.heap.size _ _ rfl O.out (b,⟨R.toArray⟩) 1 rfl z n ?_;intro g' M c l A));go_ret2;exact⟨_,rfl,l,yE V.out O.out A (zAb _) n⟩
def Hm (a:2<=us.length)(h:d<256):jA k us d=dg k (2::(jA k (bM d 0 us) (d+1)++jA k (bM d 1 us) (d+1))):=by unfold jA;rw[fM,fM];exact WO k d _ (by rw[gJ];exact a) h
def WJ {b z o hs r ro}(h2:2<=us.length)(hd:d<256)(A:aY W0 b z o [] [] [] hs)(I:z≠aB\/o≠aB)(p:ID k t W0 z (bM d 0 us) (d+1) r)(q:ID k t W0 o (bM d 1 us) (d+1) ro):
  ID k t W0 (aA b) us d (r++ro++[(b,⟨(jA k us d).toArray⟩)]):=by
 intro W v L g K M;have i:=g.k1;have a:=g.k2;have hL':L.length+(r.length+ro.length+1)<=1000000:=by simpa [zCl]using M
 have m:=g.cell A;have HF:=hid (lV m);have Y:Hid (Calls zq 227 #[ptr (aA b)] W λe w=>e=aM (.bool aG)/\w=W):=(kZ m).mono λe w h=>⟨by
  rw[h.1];obtain h|h:=I
  .cases z with
   |none=>exact absurd rfl h
   |some _=>rfl
  .cases o with
   |none=>exact absurd rfl h
   |some _=>cases z<;>rfl,h.2⟩
 have V:=hid K;have l:Hid (∀D,zb W0 D->Wk k t W0 D):=λD h=>⟨i,a,g.top,g.gW,h⟩;have HB:=hid g.below;have HC:=hid A;have c0:=m.c0;have hx:(jA k (bM d 0 us) (d+1)).length=k:=GU a;have hy:(jA k (bM d 1 us) (d+1)).length=k:=GU a;rw[Hm h2 hd];unfold ID at p q;generalize jA k (bM d 0 us) (d+1)=x at*;generalize jA k (bM d 1 us) (d+1)=y at*;have S:=hid p;have U:=hid q;have X:Hid (∀w2,Calls zq 118 #[aL ⟨x.toArray⟩,aL ⟨y.toArray⟩] w2 λe w=>e=aM (aL ⟨(2::(x++y)).toArray⟩)/\w=w2):=λw2=>(PO ⟨x.toArray⟩ ⟨y.toArray⟩ w2 (by show x.length<=_;omega) (by show y.length<=_;omega)).mono λe w h=>⟨by simpa using h.1,h.2⟩;have ji:(2::(x++y)).length<=1000:=by simp;omega
 generalize 2::(x++y)=Z at*;have H:Hid (∀w2,fF w2->Calls zq 53 #[aC aD k,aL ⟨Z.toArray⟩] w2 λe w=>e=aM (aL ⟨(dg k Z).toArray⟩)/\zb w2 w):=λw2 B=>tH k ⟨Z.toArray⟩ w2 i a (by show Z.length<=_;omega) B;generalize dg k Z=R at*;have J:L++(r++ro++[(b,(⟨R.toArray⟩:ByteArray))])=(L++r++ro)++[(b,⟨R.toArray⟩)]:=by simp
 rw[J];clear J;clear m A g K M p q I;go_enter (Qz.fn func243),ntmps243;go_wp2_with fail;refine HF.out.mono ?_;rintro e w ⟨rfl,rfl⟩;go_wp2_with fail;refine Y.out.mono ?_;rintro e w ⟨rfl,rfl⟩;go_wp2_with fail;refine(S.out w v L (l.out _ HB.out) V.out (by omega)).mono ?_;rintro e w1 ⟨v1,rfl,G,C⟩;have Q:=hid G;have B1:=hid C;have c1:=((l.out _ C).cell HC.out).c1;clear G C S V HB HF Y c0;go_wp2_with fail;refine(U.out w1 v1 (L++r) (l.out _ B1.out) Q.out (by rw[zAc];omega)).mono ?_;rintro e w2 ⟨v2,rfl,F,n⟩;have P:=hid F;have E:=hid n;have T:=hid ((l.out _ n).uo);have p2:=(l.out _ n).AZ.wid;clear F n U Q B1 c1;go_wp2_with fail;refine(X.out w2).mono ?_;rintro e w ⟨rfl,rfl⟩;go_wp2_with fail;refine(H.out w T.out).mono ?_;rintro e w3 ⟨rfl,f⟩;have B3:=hid (E.out.trans (f.mono E.out.size));have O:=hid (P.out.below f (zAb _));have j:=B3.out.size;have s:(L++r++ro).length<=1000000:=by rw[zAc,zAc];omega
 clear f E P T p2 H X;go_wp2_with (first|(at_builtin;refine IC rfl _ _ rfl W0.heap.size _ _ rfl O.out (b,⟨R.toArray⟩) 1 rfl s j ?_;intro g' N w c u));go_ret2;have e:(L++r++ro).length=L.length+(r.length+ro.length):=by rw[zAc,zAc];omega
 rw[e]at c;exact⟨_,rfl,c,yE B3.out O.out u (zAb _) j⟩
def Dt {p lo hi rows}(h:cR k W0 p us d lo hi rows)(e:∀u∈us,u.idx.length=32/\u.val.length<=100):ID k t W0 p us d rows:=by
 induction h with
 |done h=>exact WL h
 |leaf _ _ h=>exact WK (e _ (by simp)).1 (e _ (by simp)).2 h
 | @node b us d lo m hi z o x w ro r q h j l hb f i=>
  have n:z≠aB\/o≠aB:=by have hl:=nZ us d;by_cases c:z=aB;{right;intro g;have v:=j.iB.1 c;have s:=l.iB.1 g;rw[v,s]at hl;simp at hl;omega};{exact aH c}
  exact WJ r q h n (f λu a=>e u (zBb.1 a).1) (i λu a=>e u (zBb.1 a).1)
def QF {p lo hi rows}(f:1<=k)(b:k<=32)(n:pA W0 t k)(m:fF W0)(h:cR k W0 p us d lo hi rows)(j:∀u∈us,u.idx.length=32/\u.val.length<=100)(hl:rows.length<=1000000):
  Calls zq 236 #[aO (aA ⟨t,0,aB⟩),ptr p] W0 λe w=>∃q l cp,e=aM (aK q l cp)/\l<=cp/\fJ rows q l w/\(∀a,q=aA a->W0.heap.size<=a.block)/\zb W0 w:=by
 have H:=hid (Dt h j W0 (aK aB 0 0) [] ⟨f,b,n,m,zGm _ _⟩ (rD.nil _ _) (by simpa using hl));generalize ptr p=pp at*;generalize jA k us d=Z at*;go_enter (Qz.fn func236),ntmps236;go_wp2_with fail;refine H.out.mono ?_;rintro e w1 ⟨v1,rfl,o,s⟩;have O:=hid o;have B:=hid s;go_wp2;go_ret;obtain⟨q,c,rfl,i,g,r⟩:=O.out.rows;rw[zCk]at i g;exact⟨q,_,c,rfl,i,g,r,B.out⟩
end
def NU (l:List (Option Nat)):zV:=l.map ptr
def Rv (p):(ptr p).oneCell'=aF:=by cases p<;>rfl
def iG (w:zW)(base:Nat)(v:zY)(l:List (Option Nat)):Prop:=w.ownsRow base 264 1 v l.length (NU l)
def iG.nil (w)(base):iG w base (aK aB 0 0) []:=World.ownsRow_nil _ _ _ _
def iG.lt {w base v l}(h:iG w base v l):∀k,v.ownBlock=aA k->base<=k/\k<w.heap.size:=World.ownsRow.lt h
def iG.kept {w w' base v l}(h:iG w base v l)(b:∀g,v.ownBlock=aA g->w'.heap[g]? =w.heap[g]?):iG w' base v l:=by
 obtain⟨d,a⟩:=h;refine⟨d,?_⟩;obtain a|⟨g,cap,cur,rfl,hb,c,r⟩:=a
 .exact aH a
 .exact aI ⟨g,cap,cur,rfl,hb,by rw[b g rfl];exact c,r⟩
def iG.below {w w':zW}{B base:Nat}{v:zY}{l:List (Option Nat)}(h:iG w base v l)(b:Below B w w')(c:w.heap.size<=B):iG w' base v l:=
 h.kept λg a=>b.block g (zAd (h.lt g a).2 c)
def SD:∃i,zq.info? 264=aA i/\i.zero=aA (.pointer aB)/\i.size=1/\i.bytes=8:=by
 have h:(zq.info? 264).map (λi=>(i.zero,i.size,i.bytes))=aA (aA (.pointer aB),1,8):=by kernel_rfl
 cases a:zq.info? 264 with
 |none=>rw[a]at h;cases h
 |some i=>rw[a]at h;simp only[zBf,aEr,aFj]at h;exact⟨i,rfl,h.1,h.2.1,h.2.2⟩
def Aq {W ops rest o a Q}(m:o.guard=aB)(s x)
  (t:o.op= .call {callee:= .builtin .append,args:= #[s,x],argTypes:= #[166,166]})
  (base) (v) (l) (hs:a.eval s=v) (b:iG W base v l) (u) (c) (f:a.eval x=aK (aA ⟨W.heap.size,0,aB⟩) 1 c)
  (B:l.length<=1000000) (p:base<=W.heap.size)
  (h:∀g cap w',iG w' base (aK (aA ⟨g,0,aB⟩) (l.length+1) cap) (l++[u])->W.grownBy w' v.ownBlock->(v.ownBlock=aA g\/W.heap.size<=g)->wpList zq ops Q rest (a.put o.dst (aK (aA ⟨g,0,aB⟩) (l.length+1) cap)) w'):wpList zq ops Q (o::rest) a (W.alloc (aJ #[ptr u] 264)):=by
 obtain⟨i,hi,q,k,n⟩:=SD;refine wpList_append_lies _ m s x 166 t base 264 i _ 1 8 ((Qz.eZ 166).trans underlying166) hi q k n rfl (by omega) v l.length (NU l) hs (World.ownsRow.alloc b _) ⟨W.heap.size,0,aB⟩ 1 c [ptr u] f rfl (λj y r=> ?_) (λx f=>by rw[zAs]at f;subst f;exact Rv u) (by omega) (by simp only[maxLen];omega) (by omega) (by rw[size_alloc];omega) _ rfl (λg cap w' A z w _=>h g cap w' ?_ (kL z) (w.imp id λe=>by rw[e,size_alloc];omega))
 .have d:(⟨W.heap.size,0,aB⟩:Addr).add j=⟨W.heap.size,j,aB⟩:=by{unfold Addr.add;split<;>simp_all};rw[d];rw[(cB.new W 264 #[ptr u]).cell j];simpa using r
 .unfold iG NU;rw[zEo,zAc];exact A
def pQ (w:zW)(q:zO)(l:List (Option Nat)):Prop:=0<l.length->∃g o,q=aA ⟨g,o,aB⟩/\g<w.heap.size/\∀j p,l[j]? =aA p->w.cell? ⟨g,o+j,aB⟩=aA (ptr p)
def pQ.kept {w w' q l}(h:pQ w q l)(hs:w.heap.size<=w'.heap.size)(c:∀a,q=aA a->w'.heap[a.block]? =w.heap[a.block]?):pQ w' q l:=λi=>by obtain⟨g,o,e,d,f⟩:=h i;refine⟨g,o,e,zAd d hs,λj p b=> ?_⟩;rw[<-f j p b];simp only[World.cell?];rw[c _ e]
def iG.NU {w base v l}(h:iG w base v l):∃q c,v=aK q l.length c/\l.length<=c/\pQ w q l/\∀a,q=aA a->base<=a.block/\a.block<w.heap.size/\∃b,w.heap[a.block]? =aA (aJ b 264 (0,0)):=by
 obtain⟨s,f⟩:=h;obtain⟨rfl,f⟩|⟨g,cap,b,rfl,hb,d,n,_,o,m⟩:=f
 .have:l=[]:=zFm.1 f;subst this;exact⟨aB,0,rfl,zAb _,λx=>by simp at x,λa e=>by cases e⟩
 .have k:=(zAa.1 d).1;refine⟨aA ⟨g,0,aB⟩,cap,rfl,n,λ_=>⟨g,0,rfl,k,λj p i=> ?_⟩,λa e=>by cases e;exact⟨hb,k,b,d⟩⟩;have r:=(zAx.1 i).1;rw[zAz,bC d,<-zBt];have:(b.toList.take (l.length*1))[j]? =aA (ptr p):=by
   rw[m];unfold Go.Proofs.Zq.NU;rw[zDq,i];rfl
  rwa [List.getElem?_take_of_lt (by omega)]at this
def uH (w:zW)(fr:Option Nat->Bool)(p:Option Nat):Prop:=(p=aB/\fr p=aG)\/∃b z o i v g h,p=aA b/\aY w b z o i v g h/\fr p=g.isEmpty
def ZB {w fr p}(h:uH w fr p):Calls zq 246 #[ptr p] w λe a=>e=aM (.bool (fr p))/\a=w:=by
 obtain⟨rfl,h⟩|⟨b,z,o,i,v,g,d,rfl,c,h⟩:=h
 .rw[h];exact xN w
 .rw[h];exact lV c
structure PV (w w':zW)(v v':zY):Prop where
 VH:w.grownBy w' v.ownBlock
 own:∀g,v'.ownBlock=aA g->v.ownBlock=aA g\/w.heap.size<=g
def PV.refl (w)(v):PV w w v v:=⟨⟨rfl,rfl,rfl,zAb _,λ_ _ _=>rfl⟩,λ_ h=>aH h⟩
def PV.trans {w w1 w2 v v1 v2}(h:PV w w1 v v1)(k:PV w1 w2 v1 v2):PV w w2 v v2:=by
 refine⟨⟨k.VH.os.trans h.VH.os,k.VH.tape.trans h.VH.tape,k.VH.output.trans h.VH.output,zBc h.VH.size k.VH.size,λb c a=> ?_⟩,λg d=> ?_⟩
 .refine(k.VH.block b (zAd c h.VH.size) λe=> ?_).trans (h.VH.block b c a);obtain x|x:=h.own b e.symm
  .exact a x.symm
  .omega
 .obtain x|x:=k.own g d
  .exact h.own g x
  .right;have:=h.VH.size;omega
def LW {w base v l ts q c fr}(Y:iG w base v l)(X:pQ w q ts)(hF:∀p∈ts,uH w fr p)(T:∀a g,q=aA a->v.ownBlock=aA g->a.block≠g)(W:base<=w.heap.size)(r:∀p∈ts,∀b,p=aA b->∀g,v.ownBlock=aA g->b≠g)(hl:l.length+ts.length<=1000):
  Calls zq 241 #[v,aK q ts.length c] w λe D=>∃y,e=aM y/\iG D base y (l++ts.filter fr)/\PV w D v y:=by
 have HO:=hid Y;have HT:=hid X;have HF:=hid hF;have HQ:=hid T;have HC:=hid r;go_enter (Qz.fn func241),ntmps241;go_wp2_with fail;go_loopg [0,9] ts.length (λn x i wr=>∃t:Nat,t+n=ts.length/\i=aC aD (t:Int)/\PV w wr v x/\iG wr base x (l++(ts.take t).filter fr));case atStart=>exact⟨0,by omega,rfl,PV.refl _ _,by simpa using HO.out⟩
 case round=>
  obtain⟨t,ht,rfl,c1,c2⟩:=hrel
  have C:=hid c1
  have K:=hid c2
  by_cases f:t<ts.length
  .obtain⟨g,R,rfl,I,O⟩:=HT.out (by omega);have L:=O t ts[t] (zAh f);have d:=zDh f;have K0:wr.cell? ⟨g,R+t,aB⟩=aA (ptr ts[t]):=by
    rw[<-L];simp only[World.cell?];rw[C.out.VH.block g I λe=>HQ.out _ _ rfl e.symm rfl]
   have m:uH wr fr ts[t]:=by obtain h|⟨b,z,o,i,y,P,S,e,B,h⟩:=HF.out _ d;{exact aH h};{exact aI ⟨b,z,o,i,y,P,S,e,⟨by rw[C.out.VH.block b B.lt λe'=>HC.out _ d b e b e'.symm rfl];exact B.at'⟩,h⟩}
   have j:fr ts[t]=aF->∃b,ts[t]=aA b:=λh=>by obtain⟨_,Z⟩|⟨b,_,_,_,_,_,_,e,_⟩:=m;{rw[Z]at h;cases h};{exact⟨b,e⟩}
   have s:=hid (ZB m);have u:Hid (l++(ts.take (t+1)).filter fr=(l++(ts.take t).filter fr)++(if fr ts[t]then [ts[t]]else [])):=by show _=_;rw[List.take_succ,zAh f,zDb,zBp];by_cases N:fr ts[t]=aF;{simp[N]};{simp[N]}
   have F:(l++(ts.take t).filter fr).length<=1000000:=by have h1:=zFr fr (ts.take t);rw[zAc];rw[zBe]at h1;omega
   have J:=zBc W C.out.VH.size;have V:¬((t:Int)<0):=by{omega};have U:(t:Int)<(ts.length:Int):=by{omega};generalize ts[t]=pt at*;generalize l++(ts.take t).filter fr=M at*;clear m O L d;go_wp2_with fail;refine s.out.mono ?_;rintro e D ⟨rfl,rfl⟩;cases k:fr pt with
   |true=>
    obtain⟨b,rfl⟩:=j k;have H:Hid (l++(ts.take (t+1)).filter fr=M++[aA b]):=by have:=u.out;rw[k]at this;exact this
    clear u s;go_wp2_with (first|(at_builtin;refine Aq rfl _ _ rfl base _ _ rfl K.out (aA b) 1 rfl F J ?_;intro P Q w2 A G E));go_roundg (ts.length-(t+1));case measure=>omega
    case rel=>
     go_light
     refine⟨t+1,by omega,by go_num,C.out.trans ⟨G,λg I=> ?_⟩,by rw[H.out];exact A⟩
     cases I
     exact E
   |false=>
    have H:Hid (l++(ts.take (t+1)).filter fr=M):=by show _=_;have:=u.out;rw[k]at this;simpa using this
    clear u s;go_wp2;go_roundg (ts.length-(t+1));case measure=>omega
    case rel=>
     go_light
     exact⟨t+1,by omega,by go_num,C.out,by rw[H.out];exact K.out⟩
  .have:t=ts.length:=by{omega};subst this;have u:Hid (l++(ts.take ts.length).filter fr=l++ts.filter fr):=by{show _=_;rw[List.take_length]};go_wp2;go_ret;exact⟨u0,rfl,by rw[<-u.out];exact K.out,C.out⟩
def kids (zf of:Nat->Option Nat)(fr:Option Nat->Bool)(b:Nat):List (Option Nat):=[zf b,of b].filter fr
def Mf (zf of)(fr:Option Nat->Bool)(b):(kids zf of fr b).length<=2:=zFr _ _
def GG (zf of:Nat->Option Nat)(fr:Option Nat->Bool):∀a:List Nat,(a.flatMap (kids zf of fr)).length<=2*a.length
 |[]=>by simp
 |b::a=>by have c:=GG zf of fr a;have h:=Mf zf of fr b;simp only[List.flatMap_cons,zAc,zAf];omega
def Gk {w}{bs:List Nat}{zf of fr q c}(hT:pQ w q (bs.map aA))(hC:∀b∈bs,(∃i v g hs,aY w b (zf b) (of b) i v g hs)/\uH w fr (zf b)/\uH w fr (of b))(hl:bs.length<=100):
  Calls zq 242 #[aK q bs.length c] w λe F=>∃s,e=aM s/\iG F w.heap.size s (bs.flatMap (kids zf of fr))/\zb w F:=by
 have HT:=hid hT;have HC:=hid hC;go_enter (Qz.fn func242),ntmps242;go_wp2_with fail;go_loopg [3,8] bs.length (λn x i wr=>∃t:Nat,t+n=bs.length/\i=aC aD (t:Int)/\zb w wr/\iG wr w.heap.size x ((bs.take t).flatMap (kids zf of fr)));case atStart=>exact⟨0,by omega,rfl,zGm _ _,iG.nil _ _⟩
 case round=>
  obtain⟨t,ht,rfl,c1,c2⟩:=hrel
  have K:=hid c1
  have Z:=hid c2
  by_cases B:t<bs.length
  .obtain⟨g,T,rfl,hg,V⟩:=HT.out (by rw[zDg];omega);have y:=zDh B;have U:=V t (aA bs[t]) (by rw[zDq,zAh B];rfl);have K0:wr.cell? ⟨g,T+t,aB⟩=aA (ptr (aA bs[t])):=by
    rw[K.out.cell (p:=⟨g,T+t,aB⟩) hg];exact U
   obtain⟨⟨i,v,gg,hs,f⟩,E,D⟩:=HC.out _ y;have d:aY wr bs[t] (zf bs[t]) (of bs[t]) i v gg hs:=⟨by rw[K.out.block _ f.lt];exact f.at'⟩;have c0:=d.c0;have c1:=d.c1;have N:Hid ((bs.take (t+1)).flatMap (kids zf of fr)=(bs.take t).flatMap (kids zf of fr)++[zf bs[t],of bs[t]].filter fr):=by show _=_;rw[List.take_succ,zAh B,List.flatMap_append];simp[kids]
   have O:((bs.take t).flatMap (kids zf of fr)).length<=200:=by have:=GG zf of fr (bs.take t);rw[zBe]at this;omega
   have A:∀p,uH w fr p->∀W,zb w W->uH W fr p:=λp h W L=>by obtain h|⟨b,z,o,i,s,Y,hs,e,u,h⟩:=h;{exact aH h};{exact aI ⟨b,z,o,i,s,Y,hs,e,⟨by rw[L.block b u.lt];exact u.at'⟩,h⟩}
   have m:∀p,uH w fr p->∀b,p=aA b->b<w.heap.size:=λp h b e=>by obtain⟨rfl,_⟩|⟨b',z,o,i,s,Y,hs,e',u,h⟩:=h;{cases e};{rw[e']at e;cases e;exact u.lt}
   have R:Hid (∀W,zb wr W->Calls zq 241 #[u3,aK (aA ⟨W.heap.size,0,aB⟩) 2 2] (W.alloc (aJ #[ptr (zf bs[t]),ptr (of bs[t])] 264)) λe F=>∃s,e=aM s/\iG F w.heap.size s ((bs.take (t+1)).flatMap (kids zf of fr))/\zb w F):=λW L=>by
    have M:=Z.out.below L (zAb _);have J:zb w W:=K.out.trans (L.mono K.out.size);have r:zb w (W.alloc (aJ #[ptr (zf bs[t]),ptr (of bs[t])] 264)):=J.alloc J.size _;have Q:iG (W.alloc (aJ #[ptr (zf bs[t]),ptr (of bs[t])] 264)) w.heap.size u3 ((bs.take t).flatMap (kids zf of fr)):=World.ownsRow.alloc M _;have H:=cB.new W 264 #[ptr (zf bs[t]),ptr (of bs[t])];rw[N.out];refine(LW (ts:=[zf bs[t],of bs[t]]) (q:=aA ⟨W.heap.size,0,aB⟩) (c:=2) (fr:=fr) Q ?_ ?_ ?_ ?_ ?_ ?_).mono ?_
    .refineλ_=>⟨W.heap.size,0,rfl,by rw[size_alloc];omega,λj p l=> ?_⟩;rw[zAz,H.cell j];match j,l with
     |0,l=>cases l;rfl
     |1,l=>cases l;rfl
    .intro p l;simp only[zAg,zAo,zCe]at l;obtain rfl|rfl:=l
     .exact A _ E _ r
     .exact A _ D _ r
    .intro a g P C e;cases P;have:=(M.lt g C).2;dsimp only at e;omega
    .have:=r.size;omega
    .intro p l b X g C;have:=(M.lt g C).1;have:b<w.heap.size:=by
      simp only[zAg,zAo,zCe]at l;obtain rfl|rfl:=l;{exact m _ E b X};{exact m _ D b X}
     omega
    .simp only[zAf,zAl];omega
    .rintro e F ⟨s,rfl,h1,h2⟩;exact⟨s,rfl,h1,r.grown h2.VH r.size λk hk=>(M.lt k hk).1⟩
   have Un:¬((t:Int)<0):=by{omega};have jl:(t:Int)<(bs.length:Int):=by omega
   generalize bs[t]=S at*;generalize zf S=pz at*;generalize of S=po at*;clear V U y f d E D A m N O;cases pz<;>cases po;all_goals
    go_upto_region 5 with(fail)
    go_region_with (first
     |(go_at_call 241;refine(R.out wr.drew ⟨rfl,rfl,rfl,zAb _,λ_ _=>rfl⟩).mono ?_;rintro e w9 ⟨v9,rfl,G,I⟩;dsimp only))
    all_goals
     have O9:=hid G
     have B9:=hid I
     clear G I
     go_wp2_with fail
     go_roundg (bs.length-(t+1))
     case measure=>omega
     case rel=>
      go_light
      exact⟨t+1,by omega,by go_num,B9.out,O9.out⟩
  .have:t=bs.length:=by{omega};subst this;have N:Hid ((bs.take bs.length).flatMap (kids zf of fr)=bs.flatMap (kids zf of fr)):=by{show _=_;rw[List.take_length]};go_wp2;go_ret;exact⟨u3,rfl,by rw[<-N.out];exact Z.out,K.out⟩
def iG.ku {w base b v l}(h:iG w b v l)(d:base<=b):iG w base v l:=by obtain⟨i,f⟩:=h;refine⟨i,f.imp id ?_⟩;rintro⟨g,cap,c,e,a,r⟩;exact⟨g,cap,c,e,zBc d a,r⟩
structure Zm (w:zW)(zf of:Nat->Option Nat)(fr:Option Nat->Bool)(PD:Nat->zP):Prop where
 cell:∀n b,PD n b->(∃i v hs,aY w b (zf b) (of b) i v [] hs)/\uH w fr (zf b)/\uH w fr (of b)
 uz:∀n b,PD n b->∀c∈kids zf of fr b,∃c',c=aA c'/\PD (n+1) c'
 deep:∀n b,PD n b->n<=256
def uH.below {w W fr p}(h:uH w fr p)(d:zb w W):uH W fr p:=by
 obtain h|⟨b,z,o,i,v,g,c,e,a,h⟩:=h
 .exact aH h
 .exact aI ⟨b,z,o,i,v,g,c,e,⟨by rw[d.block b a.lt];exact a.at'⟩,h⟩
def Zm.below {w W:zW}{zf of:Nat->Option Nat}{fr:Option Nat->Bool}{P:Nat->zP}(h:Zm w zf of fr P)(a:zb w W):Zm W zf of fr P:=
 ⟨λn b e=>by obtain⟨⟨i,v,d,c⟩,g,f⟩:=h.cell n b e;exact⟨⟨i,v,d,⟨by rw[a.block b c.lt];exact c.at'⟩⟩,g.below a,f.below a⟩,h.uz,h.deep⟩
def Mg {zf of fr}{P:Nat->zP}{n}:∀(g:List Nat),(∀b∈g,∀c∈kids zf of fr b,∃c',c=aA c'/\P (n+1) c')->∃cs:List Nat,g.flatMap (kids zf of fr)=cs.map aA/\∀c∈cs,P (n+1) c:=by
 intro g h;have k:∀l:List (Option Nat),(∀c∈l,∃c',c=aA c'/\P (n+1) c')->∃cs:List Nat,l=cs.map aA/\∀c∈cs,P (n+1) c:=λl=>by
  induction l with
  |nil=>exactλ_=>⟨[],rfl,λc d=>by simp at d⟩
  |cons a l i=>intro h;obtain⟨p,e,m⟩:=h a (by simp);obtain⟨cs,o,f⟩:=i λc d=>h c (zBm _ d);refine⟨p::cs,by rw[e,o];rfl,λc d=> ?_⟩;obtain rfl|d:=zAg.1 d;{exact m};{exact f c d}
 refine k _ λc d=> ?_;obtain⟨b,j,d⟩:=List.mem_flatMap.1 d;exact h b j c d
def XX {w zf of fr P top}(hL:Zm w zf of fr P)(hF:uH w fr top)(hP:fr top=aF->∃b,top=aA b/\P 0 b):
  Calls zq 234 #[ptr top] w λe f=>∃(d:zY)(h:List Nat),e=aM d/\iG f w.heap.size d (h.map aA)/\(∀b∈h,∃n,P n b)/\h.length<=32/\zb w f:=by
 have HL:=hid hL;have Q:Hid (∀W,zb w W->Calls zq 241 #[aK aB 0 0,aK (aA ⟨W.heap.size,0,aB⟩) 1 1] (W.alloc (aJ #[ptr top] 264)) λe f=>∃(d:zY)(h:List Nat),e=aM d/\iG f w.heap.size d (h.map aA)/\(∀b∈h,P 0 b)/\h.length<=1/\zb w f):=λW hW=>by
  have o:zb w (W.alloc (aJ #[ptr top] 264)):=hW.alloc hW.size _;have F:=cB.new W 264 #[ptr top];refine(LW (base:=w.heap.size) (ts:=[top]) (c:=1) (fr:=fr) (iG.nil _ _) ?_ ?_ ?_ ?_ ?_ ?_).mono ?_
  .refineλ_=>⟨W.heap.size,0,rfl,by rw[size_alloc];omega,λj p t=> ?_⟩;rw[zAz,F.cell j];match j,t with
   |0,t=>cases t;rfl
  .intro p t;rw[zAs]at t;subst t;exact hF.below o
  .intro a g _ V;cases V
  .exact o.size
  .intro p _ b _ g V;cases V
  .simp
  .rintro e f ⟨d,rfl,N,h2⟩;have G:zb w f:=o.grown h2.VH o.size λk hk=>by{cases hk};cases s:fr top with
   |true=>obtain⟨b,rfl,l⟩:=hP s;refine⟨d,[b],rfl,?_,λc u=> ?_,by simp,G⟩;{simpa [s]using N};{rw[zAs]at u;subst u;exact l}
   |false=>refine⟨d,[],rfl,?_,λc u=>by simp at u,by simp,G⟩;simpa [s]using N
 clear hL hF hP;have R:∀z:zY,(z= .pointer aB\/∃b,z=aO (aA ⟨b,0,aB⟩))->(∀W,zb w W->Calls zq 241 #[aK aB 0 0,aK (aA ⟨W.heap.size,0,aB⟩) 1 1] (W.alloc (aJ #[z] 264)) λe f=>∃(d:zY)(h:List Nat),e=aM d/\iG f w.heap.size d (h.map aA)/\(∀b∈h,P 0 b)/\h.length<=1/\zb w f)->
   Calls zq 234 #[z] w λe f=>∃(d:zY)(h:List Nat),e=aM d/\iG f w.heap.size d (h.map aA)/\(∀b∈h,∃n,P n b)/\h.length<=32/\zb w f:=by
  intro z r hF
  have Q:=hid hF
  clear hF
  obtain rfl|⟨b,rfl⟩:=r
  all_goals
   go_enter (Qz.fn func234),ntmps234
   go_wp2_with fail
   refine(Q.out w (zGm _ _)).mono ?_
   rintro e w1 ⟨v1,b1,rfl,o1,p1,l1,I⟩
   have O1:=hid o1
   have P1:=hid p1
   have B1:=hid I
   clear o1 p1 I Q
   go_wp2_with fail
   go_loopg [3,4] 300 (λq x y wr=>∃(n:Nat)(lv ms:List Nat),n+q=300/\zb w wr/\iG wr w.heap.size x (lv.map aA)/\iG wr w.heap.size y (ms.map aA)/\(∀b∈lv,P n b)/\(∀b∈ms,∃m,P m b)/\lv.length<=ms.length/\ms.length<=32)
   case atStart=>exact⟨0,b1,b1,by omega,B1.out,O1.out,O1.out,P1.out,λb l=>⟨0,P1.out b l⟩,zAb _,by omega⟩
   case round=>
    clear O1 P1 B1 l1
    obtain⟨n,lv,ms,hn,c1,c2,c3,c4,c5,c6,c7⟩:=hrel
    have C:=hid c1
    have C2:=hid c2
    have M:=hid c3
    have C4:=hid c4
    have C5:=hid c5
    obtain⟨q3,k3,e3,h31,Qg,h33⟩:=C2.out.NU
    obtain⟨q4,k4,e4,h41,h42,h43⟩:=M.out.NU
    rw[zDg]at e3 h31 e4 h41
    subst e3
    subst e4
    have L:=hid Qg
    clear c1 c2 c3 c4 c5 Qg h33 h42 h43
    by_cases U:0<lv.length/\ms.length<16
    .have B:(0:Int)<(lv.length:Int):=by{omega};have T:(ms.length:Int)<16:=by omega
     have H:Hid (Zm wr zf of fr P):=HL.out.below C.out;have K:Hid (Calls zq 242 #[aK q3 lv.length k3] wr λe f=>∃d cs,e=aM d/\iG f w.heap.size d (List.map aA cs)/\(∀b∈cs,P (n+1) b)/\cs.length<=30/\zb wr f):=by refine(Gk (bs:=lv) (zf:=zf) (of:=of) (fr:=fr) L.out (λb l=> ?_) (by omega)).mono ?_;{obtain⟨⟨i,v,hs,u⟩,N,h2⟩:=H.out.cell n b (C4.out b l);exact⟨⟨i,v,[],hs,u⟩,N,h2⟩};{rintro e w2 ⟨v2,rfl,A,J⟩;obtain⟨cs,ecs,X⟩:=Mg lv λb l=>H.out.uz n b (C4.out b l);have E:=GG zf of fr lv;rw[ecs]at A E;rw[zDg]at E;exact⟨v2,cs,rfl,A.ku C.out.size,X,by omega,J⟩}
     go_wp2_with fail;refine K.out.mono ?_;rintro e w2 ⟨v2,cs,rfl,A,p2,l2,J⟩;have O:=hid A;have O3:Hid (iG w2 w.heap.size (aK q4 ms.length k4) (ms.map aA)):=M.out.below J (zAb _);have P2:=hid p2;have B2:Hid (zb w w2):=C.out.trans (J.mono C.out.size);have S:n<=256:=by obtain⟨b,l⟩:∃b,b∈lv:=List.exists_mem_of_length_pos U.1;exact HL.out.deep n b (C4.out b l)
     obtain⟨q5,k5,e5,h51,Z,Y⟩:=O.out.NU;rw[zDg]at e5;subst e5;clear A p2 J K H C C2 M C4 L h51 Z Y;by_cases xe:ms.length<cs.length
     .have D:(ms.length:Int)<(cs.length:Int):=by{omega};go_wp2_with fail;go_roundg (300-(n+1));case measure=>omega
      case rel=>
       go_light
       exact⟨n+1,cs,cs,by omega,B2.out,O.out,O.out,P2.out,λb l=>⟨n+1,P2.out b l⟩,zAb _,by omega⟩
     .have D:¬(ms.length:Int)<(cs.length:Int):=by{omega};go_wp2_with fail;go_roundg (300-(n+1));case measure=>omega
      case rel=>
       go_light
       exact⟨n+1,cs,ms,by omega,B2.out,O.out,O3.out,P2.out,C5.out,by omega,by omega⟩
    .by_cases h0:0<lv.length
     .have B:(0:Int)<(lv.length:Int):=by{omega};have T:¬(ms.length:Int)<16:=by{omega};go_wp2;go_ret;exact⟨_,rfl,ms,M.out,C5.out,by omega,C.out⟩
     .have B:¬(0:Int)<(lv.length:Int):=by{omega};go_wp2;go_ret;exact⟨_,rfl,ms,M.out,C5.out,by omega,C.out⟩
 have r:ptr top= .pointer aB\/∃b,ptr top=aO (aA ⟨b,0,aB⟩):=by
  cases top with
  |none=>exact aH rfl
  |some b=>exact aI ⟨b,rfl⟩
 exact R _ r Q.out
inductive Good (w:zW):zP
 |mk {b:Nat} {z o:Option Nat} {i v g:zB} {hs:Int} (h:aY w b z o i v g hs) (hz:∀c,z=aA c->Good w c) (ho:∀c,o=aA c->Good w c):Good w b
def Good.cell {w b}(h:Good w b):∃z o i v g hs,aY w b z o i v g hs:=by cases h with|mk h _ _=>exact⟨_,_,_,_,_,_,h⟩
def Good.down {w b z o i v g hs}(h:Good w b)(j:aY w b z o i v g hs)(c)(e:z=aA c\/o=aA c):Good w c:=by
 cases h with
 |mk h a f=>obtain⟨rfl,rfl,_⟩:=fC h j;exact e.elim (a c) (f c)
section
variable {k:Nat}{w w':zW}{p:Option Nat}{us:List bK}{d lo hi:Nat}{rows:List (Nat×ByteArray)}
def eO.ON (h:eO k w p us d):∀b,p=aA b->Good w b:=by
 induction h with
 |nil=>intro b e;cases e
 |leaf h=>intro b e;cases e;exact .mk h (λc e=>by cases e) (λc e=>by cases e)
 |node _ _ h _ _ f a=>intro b e;cases e;exact .mk h f a
def cR.ON (h:cR k w p us d lo hi rows):(∀b,p=aA b->Good w b)/\∀x∈rows,Good w x.1:=by
 induction h with
 |done h=>exact⟨h.ON,λx a=>by simp at a⟩
 |leaf _ _ h=>have l:=Good.mk h (λc e=>by cases e) (λc e=>by cases e);refine⟨λb e=>by cases e;exact l,λx a=> ?_⟩;rw[zAs]at a;subst a;exact l
 |node _ _ h _ _ _ j f=>
  have l:=Good.mk h j.1 f.1;refine⟨λb e=>by cases e;exact l,λx a=> ?_⟩;obtain a|a:=zAi.1 a
  .obtain a|a:=zAi.1 a
   .exact j.2 x a
   .exact f.2 x a
  .rw[zAs]at a;subst a;exact l
def eO.stay {G:zP}(a:∀b z o i v g hs,G b->aY w b z o i v g hs->∀c,z=aA c\/o=aA c->G c)(r:∀b z o i v g hs,G b->aY w b z o i v g hs->∃f,aY w' b z o i v g f)(h:eO k w p us d)(q:∀b,p=aA b->G b):eO k w' p us d:=by
 induction h with
 |nil d=>exact .nil d
 |leaf h=>obtain⟨f,n⟩:=r _ _ _ _ _ _ _ (q _ rfl) h;exact .leaf n
 |node t s h u x l j=>have m:=q _ rfl;obtain⟨f,n⟩:=r _ _ _ _ _ _ _ m h;exact .node t s n (l λc e=>a _ _ _ _ _ _ _ m h c (aH e)) (j λc e=>a _ _ _ _ _ _ _ m h c (aI e))
def cR.stay {G:zP}(a:∀b z o i v g hs,G b->aY w b z o i v g hs->∀c,z=aA c\/o=aA c->G c)(q:∀b z o i v g hs,G b->aY w b z o i v g hs->∃f,aY w' b z o i v g f)(h:cR k w p us d lo hi rows)(m:∀b,p=aA b->G b):cR k w' p us d lo hi rows:=by
 induction h with
 |done h hl=>exact .done (h.stay a q m) hl
 |leaf k1 k2 h=>obtain⟨f,r⟩:=q _ _ _ _ _ _ _ (m _ rfl) h;exact .leaf k1 k2 r
 |node t s h u x hb l j=>have n:=m _ rfl;obtain⟨f,r⟩:=q _ _ _ _ _ _ _ n h;exact .node t s r (l λc e=>a _ _ _ _ _ _ _ n h c (aH e)) (j λc e=>a _ _ _ _ _ _ _ n h c (aI e)) hb
def cR.Sx {G:zP}(f:∀b z o i v g hs,G b->aY w b z o i v g hs->∀c,z=aA c\/o=aA c->G c)(h:cR k w p us d lo hi rows)(n:∀b,p=aA b->G b):∀x∈rows,G x.1:=by
 induction h with
 |done=>intro x a;simp at a
 |leaf=>intro x a;rw[zAs]at a;subst a;exact n _ rfl
 |node t s h q r hb l j=>
  have m:=n _ rfl;intro x a;obtain a|a:=zAi.1 a
  .obtain a|a:=zAi.1 a
   .exact l (λc e=>f _ _ _ _ _ _ _ m h c (aH e)) x a
   .exact j (λc e=>f _ _ _ _ _ _ _ m h c (aI e)) x a
  .rw[zAs]at a;subst a;exact m
end
def kr (w:zW)(b:Nat):Option Nat:=match w.cell? ⟨b,0,aB⟩with|some (aO (aA a))=>aA a.block|_=>aB
def mj (w:zW)(b:Nat):Option Nat:=match w.cell? ⟨b,1,aB⟩with|some (aO (aA a))=>aA a.block|_=>aB
def CE (w:zW):Option Nat->Bool
 |none=>aG
 |some b=>match w.cell? ⟨b,4,aB⟩with|some (aL s)=>s.data.toList.isEmpty|_=>aG
section
variable {k:Nat}{w w':zW}{b:Nat}{z o:Option Nat}{i v g:zB}{hs:Int}
def aY.zf (h:aY w b z o i v g hs):kr w b=z:=by unfold kr;rw[h.c0];cases z<;>rfl
def aY.of (h:aY w b z o i v g hs):mj w b=o:=by unfold mj;rw[h.c1];cases o<;>rfl
def aY.fr (h:aY w b z o i v g hs):CE w (aA b)=g.isEmpty:=by show(match w.cell? ⟨b,4,aB⟩with|some (aL s)=>s.data.toList.isEmpty|_=>aG)=_;rw[h.c4]
def Good.Xt (h:∀c,z=aA c->Good w c):uH w (CE w) z:=by
 cases z with
 |none=>exact aH ⟨rfl,rfl⟩
 |some c=>obtain⟨z,o,i,v,g,hs,a⟩:=(h c rfl).cell;exact aI ⟨c,z,o,i,v,g,hs,rfl,a,a.fr⟩
structure pR (k:Nat)(w:zW)(G:zP)(us:List bK)(all:List (Nat×ByteArray))(n b:Nat):Prop where
 deep:n<=256
 Sx:G b
 new:∃z o i v hs,aY w b z o i v [] hs
 tree:∃uk lo hi rows,cR k w (aA b) uk n lo hi rows/\(∀x∈rows,x∈all)/\rows.length<=all.length/\∀u∈uk,u∈us
def Xb {G}(f:∀b z o i v g hs,G b->aY w b z o i v g hs->∀c,z=aA c\/o=aA c->G c)(k1:1<=k)(k2:k<=32)(us)(all):Zm w (kr w) (mj w) (CE w) (pR k w G us all):=by
 refine⟨λn b h=> ?_,λn b h c l=> ?_,λn b h=>h.deep⟩
 .obtain⟨z,o,i,v,hs,l⟩:=h.new;obtain⟨s,lo,hi,rows,F,_⟩:=h.tree;have I:=F.ON.1 b rfl;rw[l.zf,l.of];exact⟨⟨i,v,hs,l⟩,Good.Xt λc e=>I.down l c (aH e),Good.Xt λc e=>I.down l c (aI e)⟩
 .have K:=h;obtain⟨z,o,i,v,hs,a⟩:=h.new;obtain⟨s,lo,hi,rows,F,H,hlen,E⟩:=h.tree;unfold kids at l;rw[a.zf,a.of]at l;obtain⟨D,r⟩:=zBb.1 l;have t:∀(c:Option Nat)(j:List bK)(m q:Nat)(r2:List (Nat×ByteArray)),(∀c',c=aA c'->G c')->CE w c=aF->n<256->cR k w c j (n+1) m q r2->(∀x∈r2,x∈rows)->r2.length<=rows.length->(∀u∈j,u∈s)->∃c',c=aA c'/\pR k w G us all (n+1) c':=λc j m q r2 O r T B R Q P=>by
   cases c with
   |none=>cases r
   |some c=>obtain⟨z2,S,i2,v2,U,M,C⟩:=(B.ON.1 c rfl).cell;rw[C.fr]at r;have e:=List.isEmpty_iff.1 r;subst e;exact⟨c,rfl,by omega,O c rfl,⟨_,_,_,_,_,C⟩,j,m,q,r2,B,λx y=>H x (R x y),by omega,λu A=>E u (P u A)⟩
  cases F with
  |done h hl=>
   exfalso;cases h with
   |leaf h=>exact qY k1 k2 (fC h a).2.2.2.2.1
   |node _ _ h=>exact qY k1 k2 (fC h a).2.2.2.2.1
  |leaf _ _ h=>obtain⟨rfl,rfl,_⟩:=fC h a;simp only[zAg,zAo,zCe,or_self]at D;subst D;cases r
  |node Q J h L N hb=>obtain⟨rfl,rfl,_⟩:=fC h a;simp only[zAg,zAo,zCe]at D;obtain rfl|rfl:=D;{exact t _ _ _ _ _ (λc' e=>f _ _ _ _ _ _ _ K.Sx a c' (aH e)) r J L (λx y=>zAi.2 (aH (zAi.2 (aH y)))) (by rw[zAc,zAc];omega) (λu A=>(zBb.1 A).1)};{exact t _ _ _ _ _ (λc' e=>f _ _ _ _ _ _ _ K.Sx a c' (aI e)) r J N (λx y=>zAi.2 (aH (zAi.2 (aI y)))) (by rw[zAc,zAc];omega) (λu A=>(zBb.1 A).1)}
def Lf {G p us lo hi all}(h:cR k w p us 0 lo hi all)(j:∀b,p=aA b->G b):uH w (CE w) p/\(CE w p=aF->∃b,p=aA b/\pR k w G us all 0 b):=by
 refine⟨Good.Xt h.ON.1,λc=> ?_⟩;cases p with
 |none=>cases c
 |some b=>obtain⟨z2,l,i2,v2,m,f,a⟩:=(h.ON.1 b rfl).cell;rw[a.fr]at c;have e:=List.isEmpty_iff.1 c;subst e;exact⟨b,rfl,by omega,j b rfl,⟨_,_,_,_,_,a⟩,us,lo,hi,all,h,λ_ h=>h,zAb _,λ_ h=>h⟩
end
structure rG (k t:Nat)(D:zP)(w:zW):Prop where
 k1:1<=k
 k2:k<=32
 plain:Plain zq Qw.Al D w
 box:∀b,D b->¬VY w.heap[b]?
 top:D t
 AZ:pA w t k
 gW:fF w
 thaw:∀b z o i v g hs,D b->aY w b z o i v g hs->dM w b
def GC:(0:Nat)<=zq.globals.size/\(2:Nat)<=zq.globals.size:=by have:zq.globals.size=Tryz.prog.globals.size:=rfl;rw[this];exact⟨by decide+kernel,by decide+kernel⟩
section
variable {k t:Nat}{D:zP}{w W:zW}
def rG.gI (h:rG k t D w):D 0/\D 2:=⟨(h.plain.ok.gI 0 GC.1).2,(h.plain.ok.gI 2 GC.2).2⟩
def rY (g:Plain zq Qw.Al D w)(f:tE D w W){b}(a:D b):b<W.heap.size/\∀i,W.cell? ⟨b,i,aB⟩=w.cell? ⟨b,i,aB⟩:=by
 have bT:=nQ g a;have e:=zAj bT;obtain h|⟨c,ty,fr,j,h1,d⟩:=f b a _ e
 .refine⟨(zAa.1 h).1,λi=> ?_⟩;simp only[World.cell?];rw[h,e]
 .refine⟨(zAa.1 d).1,λi=> ?_⟩;rw[h1]at e;rw[bC d,bC e]
def Ds (j:Plain zq Qw.Al D w)(a:tE D w W){b}(d:D b){z o i v g hs}(h:aY w b z o i v g hs):aY W b z o i v g hs:=by
 obtain⟨fr,h⟩:=h.at';obtain h|⟨c,ty,fr,f,h1,e⟩:=a b d _ h
 .exact⟨_,h⟩
 .cases h1;exact⟨_,e⟩
def rG.lh (h:rG k t D w)(b:tE D w W):pA W t k:=by obtain⟨c,a⟩:=rY h.plain b h.top;exact⟨c,(a 0).trans h.AZ.wid,(a 2).trans h.AZ.emp⟩
def rG.lj (h:rG k t D w)(a:tE D w W):fF W:=by
 obtain⟨f,a2⟩:=rY h.plain a h.gI.1;obtain⟨e,d⟩:=rY h.plain a h.gI.2;refine⟨⟨e,λj c=> ?_⟩,f,λj v b=> ?_⟩
 .rw[d j];exact h.gW.mJ.2 j c
 .rw[a2];exact h.gW.jF j v b
def rG.down (h:rG k t D w)(b)(z o)(i v g)(hs)(n:D b)(f:aY w b z o i v g hs)(c)(e:z=aA c\/o=aA c):D c:=by
 obtain⟨fr,f⟩:=f.at';have a:∀{x:Option Nat},bE Qw.Al (cG D) (ptr x) (ptr x)->x=aA c->D c:=λ{x} l e=>by
  subst e;cases l with
  |pointer m=>cases m with|some p=>exact p.1.2
 obtain⟨cs,ty,q,d,j,_⟩|⟨_,r,d,j⟩:=h.plain.blk b n
 .rw[f]at d;cases d;obtain e|e:=e
  .exact a (j.at' 0 _ _ rfl rfl) e
  .exact a (j.at' 1 _ _ rfl rfl) e
 .rw[f]at d;cases d;exact absurd rfl (j.1 _ _ _)
def rG.lz (h:rG k t D w)(l:tE D w W){p:Option Nat}{us:List bK}{d lo hi:Nat}{rows:List (Nat×ByteArray)}(c:cR k w p us d lo hi rows)(e:∀b,p=aA b->D b):cR k W p us d lo hi rows:=
 c.stay h.down (λb z o i v g a f j=>⟨a,Ds h.plain l f j⟩) e
def rG.below (h:rG k t D w){B}(e:Below B w W)(l:w.heap.size<=B):rG k t D W:=by have d:∀b,D b->W.heap[b]? =w.heap[b]? :=λb j=>e.block b (zAd (nQ h.plain j) l);refine⟨h.k1,h.k2,⟨h.plain.ok,zAd h.plain.low e.size,λb a=>by rw[d b a];exact h.plain.blk b a⟩,λb a=>by rw[d b a];exact h.box b a,h.top,h.AZ.below e l,h.gW.below e l,λb z o i v g f a m=> ?_⟩;obtain⟨c,n⟩:=h.thaw b z o i v g f a ⟨by rw[<-d b a];exact m.at'⟩;exact⟨c,by rw[d b a];exact n⟩
def rG.fork (h:rG k t D w){us all}(U:∀u∈us,u.idx.length=32/\u.val.length<=100)(S:all.length<=1000000){bs:List Nat}(N:∀b∈bs,∃n,pR k w D us all n b)(hlen:bs.length<=32){q}(V:pQ w q (bs.map aA))(J:∀a,q=aA a->¬VY w.heap[a.block]?):
  ∃bp o rows,Fork bs.length q bp o t D (λi=>(bs[i]?).map λb=>⟨b,0,aB⟩) rows w/\∀i,i<bs.length->∃b d n lo hi,bs[i]? =aA b/\cR k w (aA b) d n lo hi (rows i)/\(∀x∈rows i,x∈all)/\∃z o i v G,aY w b z o i v [] G:=by
 have M:∀i,∃r:List (Nat×ByteArray),i<bs.length->∃b d n lo hi,bs[i]? =aA b/\cR k w (aA b) d n lo hi r/\(∀x∈r,x∈all)/\r.length<=all.length/\(∀u∈d,u∈us)/\D b/\∃z o i v G,aY w b z o i v [] G:=λi=>by by_cases hi:i<bs.length;{obtain⟨n,K⟩:=N _ (zDh hi);obtain⟨d,lo,l,r,B,A,Y,X⟩:=K.tree;exact⟨r,λ_=>⟨_,d,n,lo,l,zAh hi,B,A,Y,X,K.Sx,K.new⟩⟩};{exact⟨[],λx=>absurd x hi⟩}
 obtain⟨rows,f⟩:=Classical.skolem.1 M;obtain⟨bp,o,m⟩:∃bp o,0<bs.length->q=aA ⟨bp,o,aB⟩/\bp<w.heap.size/\∀j p,(bs.map aA)[j]? =aA p->w.cell? ⟨bp,o+j,aB⟩=aA (ptr p):=by by_cases y:0<bs.length;{obtain⟨g,o,e,B,A⟩:=V (by rw[zDg];exact y);exact⟨g,o,λ_=>⟨e,B,A⟩⟩};{exact⟨0,0,λx=>absurd x y⟩}
 refine⟨bp,o,rows,⟨by omega,λy=>(m y).1,λy=>⟨(m y).2.1,J _ (m y).1⟩,λi hi=> ?_,h.plain,h.box,h.top,λi hi a T=> ?_,λi hi=> ?_,λi hi x Q=> ?_,λi hi W O=> ?_⟩,λi hi=> ?_⟩
 .obtain⟨b,d,n,lo,l,e,_⟩:=f i hi;rw[(m (by omega)).2.2 i (aA b) (by rw[zDq,e];rfl),e];rfl
 .obtain⟨b,d,n,lo,l,e,s,_,_,_,F,_⟩:=f i hi;rw[e]at T;cases T;exact F
 .obtain⟨b,d,n,lo,l,e,s,_,hl,_⟩:=f i hi;omega
 .obtain⟨b,d,n,lo,l,e,s,_,_,_,F,_⟩:=f i hi;have B:=s.Sx h.down (λZ P=>by cases P;exact F) x Q;obtain⟨z,o,i,v,g,G,E⟩:=(s.ON.2 x Q).cell;obtain⟨c,A⟩:=h.thaw _ _ _ _ _ _ _ B E;refine⟨B,c,A,?_⟩;obtain⟨fr,R⟩:=E.at';rw[A]at R;cases R;rfl
 .obtain⟨b,d,n,lo,l,e,s,_,hl,H,F,_⟩:=f i hi;have:=QF h.k1 h.k2 (h.lh O) (h.lj O) (h.lz O s λZ P=>by cases P;exact F) (λu I=>U u (H u I)) (by omega);rw[e];exact this
 .obtain⟨b,d,n,lo,l,e,s,L,_,_,_,C⟩:=f i hi;exact⟨b,d,n,lo,l,e,s,L,C⟩
end
section
variable {k:Nat}{w w':zW}{p:Option Nat}{us:List bK}{d lo hi:Nat}{rows L:List (Nat×ByteArray)}
def KR {b z o i v g hs}(h:aY w b z o i v g hs)(s):aY (oF w (b,s)) b z o i v s.data.toList hs:=by obtain⟨fr,h⟩:=h.at';refine⟨fr,?_⟩;have:=eF h 4 (aL s);show(w.setCell ⟨b,4,aB⟩ (aL s)).heap[b]? =_;rw[this];rfl
def wY {b z o i v g hs}(h:aY w b z o i v g hs){x}(a:b≠x.1):aY (oF w x) b z o i v g hs:=⟨by rw[qM a];exact h.at'⟩
def pJ {b:Nat}{z o:Option Nat}{i v:zB}{hs:Int}{s:ByteArray}:∀(L:List (Nat×ByteArray)){w:zW}{g:zB},(∀c,(b,c)∈L->c=s)->(∃c,(b,c)∈L)\/g=s.data.toList->aY w b z o i v g hs->aY (Go.Ga.cP L w) b z o i v s.data.toList hs
 |[],w,g,_,h,j=>by obtain⟨_,h⟩|h:=h;{simp at h};{rw[<-h];exact j}
 |x::L,w,g,a,h,j=>by
  rw[SC];by_cases e:b=x.1
  .have l:x.2=s:=a x.2 (by rw[e];simp);have m:aY (oF w x) b z o i v s.data.toList hs:=by
    have:=KR j x.2;rw[l]at this;have ex:(b,s)=x:=by{rw[e,<-l]};rw[ex]at this;exact this
   exact pJ L (λc f=>a c (zBm _ f)) (aI rfl) m
  .refine pJ L (λc f=>a c (zBm _ f)) ?_ (wY j e);obtain⟨c,h⟩|h:=h
   .obtain h|h:=zAg.1 h
    .exact absurd (by rw[<-h]) e
    .exact aH ⟨c,h⟩
   .exact aI h
def cR.root (f:1<=k)(c:k<=32)(h:cR k w p us d lo hi rows){b}(a:p=aA b){z o i v hs}(e:aY w b z o i v [] hs):∃s,(b,s)∈rows:=by
 cases h with
 |done h=>
  exfalso;cases h with
  |nil=>cases a
  |leaf h=>cases a;exact qY f c (fC h e).2.2.2.2.1
  |node _ _ h=>cases a;exact qY f c (fC h e).2.2.2.2.1
 |leaf=>cases a;exact⟨_,by simp;rfl⟩
 |node=>cases a;exact⟨_,zAi.2 (aI (by simp;rfl))⟩
def cR.closed (B:1<=k)(A:k<=32)(h:cR k w p us d lo hi rows):∀b s z o i v m,(b,s)∈rows->aY w b z o i v [] m->∀c,z=aA c\/o=aA c->(∃z o i v m,aY w c z o i v [] m)->∃f,(c,f)∈rows:=by
 induction h with
 |done=>intro b s z o i v m r;simp at r
 |leaf _ _ h=>intro b s z o i v m r q c e _;rw[zAs]at r;cases r;obtain⟨rfl,rfl,_⟩:=fC h q;obtain e|e:=e<;>cases e
 |node I H h D F r u t=>
  intro C s x y i v l a q c e g;obtain a|a:=zAi.1 a
  .obtain a|a:=zAi.1 a
   .obtain⟨f,j⟩:=u C s x y i v l a q c e g;exact⟨f,zAi.2 (aH (zAi.2 (aH j)))⟩
   .obtain⟨f,j⟩:=t C s x y i v l a q c e g;exact⟨f,zAi.2 (aH (zAi.2 (aI j)))⟩
  .rw[zAs]at a;cases a;obtain⟨rfl,rfl,_⟩:=fC h q;obtain⟨z2,G,i2,v2,E,n⟩:=g;obtain e|e:=e
   .obtain⟨f,j⟩:=D.root B A e n;exact⟨f,zAi.2 (aH (zAi.2 (aH j)))⟩
   .obtain⟨f,j⟩:=F.root B A e n;exact⟨f,zAi.2 (aH (zAi.2 (aI j)))⟩
def Fy {all:List (Nat×ByteArray)}(h:(all.map (·.1)).Nodup){b s s'}(e:(b,s)∈all)(c:(b,s')∈all):s=s':=by
 induction all with
 |nil=>simp at e
 |cons a l i=>
  rw[zDy,List.nodup_cons]at h;obtain g|e:=zAg.1 e
  .obtain f|c:=zAg.1 c
   .rw[<-g]at f;cases f;rfl
   .exact absurd (zCi.2 ⟨_,c,by rw[<-g]⟩) h.1
  .obtain f|c:=zAg.1 c
   .exact absurd (zCi.2 ⟨_,e,by rw[<-f]⟩) h.1
   .exact i h.2 e c
structure kg (w:zW)(all L:List (Nat×ByteArray)):Prop where
 sub:∀x∈L,x∈all
 down:∀b s z o i v hs,(b,s)∈L->aY w b z o i v [] hs->∀c,z=aA c\/o=aA c->(∃z o i v hs,aY w c z o i v [] hs)->∃s',(c,s')∈L
def cR.wrote (D:1<=k)(C:k<=32)(h:cR k w p us d lo hi rows)(t:kg w rows L)(y:eI L w w'):
  (∃cN,cR k w' p us d lo hi cN/\(∀x∈cN,x∈rows)/\cN.length<=rows.length)/\((∀b,p=aA b->(∃z o i v a,aY w b z o i v [] a)->∃s,(b,s)∈L)->eO k w' p us d):=by
 have u:=h.each;obtain⟨B,A⟩:=h.part (S:=λb=>∃s,(b,s)∈L) D C (λb ⟨s,a⟩=>(u.1 _ (t.sub _ a)).2.2) (λb z o i v a ⟨s,l⟩ j c e r=>t.down b s z o i v a l j c e r) (λb s ⟨s0,l⟩ q z o i v a j=>by
   have f:=pJ L (λE n=>(Fy u.2 (t.sub _ n) q)) (aH ⟨s0,l⟩) j;obtain⟨fr,f⟩:=f.at';exact⟨a,fr,by rw[y.heap b j.lt];exact f⟩) (λb l z o i v g a j=>⟨a,⟨by
   rw[show w'.heap[b]? =w.heap[b]? from(y.heap b j.lt).trans (gP _ λx m e=>l ⟨x.2,by rw[<-e];exact m⟩)];exact j.at'⟩⟩) (λ_ h=>h)
 refine⟨?_,A⟩;obtain⟨cN,f1,f2,f3⟩:=B;exact⟨cN,f1,λx m=>(f2 x m).1,f3⟩
def Xd (D:1<=k)(y:k<=32){all rs N}(h:∀i,i<N->∃b u n lo hi,cR k w (aA b) u n lo hi (rs i)/\∀x∈rs i,x∈all):kg w all (allRows rs N):=by
 have f:∀{n:Nat}{i:Nat}{x:Nat×ByteArray},i<n->x∈rs i->x∈allRows rs n:=λ{n}=>by
  induction n with
  |zero=>intro i x hi;omega
  |succ n q=>intro i x hi a;by_cases e:i=n;{subst e;exact zAi.2 (aI a)};{exact zAi.2 (aH (q (by omega) a))}
 refine⟨λx a=> ?_,λb s z o i v r B A c e g=> ?_⟩
 .obtain⟨i,hi,a⟩:=gE a;obtain⟨_,_,_,_,_,_,C⟩:=h i hi;exact C x a
 .obtain⟨j,l,a⟩:=gE B;obtain⟨_,_,_,_,_,t,_⟩:=h j l;obtain⟨m,E⟩:=t.closed D y b s z o i v r a A c e g;exact⟨m,f l E⟩
def Mb (m:1<=k)(g:k<=32)(h:cR k w p us d lo hi rows):kg w rows rows:=⟨λ_ h=>h,λb s z o i v f l j c e a=>h.closed m g b s z o i v f l j c e a⟩
end
def rP (k t:Nat)(D:zP)(us:List bK)(c:List PanicEntry)(w:zW):Prop:=
 ∃(q:zO)(d:List Nat)(cp:Nat)(all:List (Nat×ByteArray)),c=told (full #[iO t,jD q d.length cp])/\d.length<=32/\d.length<=cp/\all.length<=1000000/\pQ w q (d.map aA)/\(∀a,q=aA a->∃e,w.heap[a.block]? =aA (aJ e 264 (0,0)))/\∀b∈d,∃n,pR k w D us all n b
def rP.ft {k t D us c w}(h:rP k t D us c w)(i:rG k t D w)(d:∀u∈us,u.idx.length=32/\u.val.length<=100):kU c w:=by
 obtain⟨q,v,cp,all,e,r,p,n,m,l,j⟩:=h;obtain⟨bp,o,rows,hF,_⟩:=i.fork d n j r m λa g ⟨x,b⟩=>by obtain⟨s,f⟩:=l a g;rw[f]at b;cases b
 exact⟨v.length,q,bp,o,cp,t,D,_,rows,e,p,hF⟩
structure JR (all:List (Nat×ByteArray))(w w':zW):Prop where
 os:w'.os=w.os
 tape:w'.tape=w.tape
 output:w'.output=w.output
 size:w.heap.size<=w'.heap.size
 block:∀b,b<w.heap.size->(∀x∈all,x.1≠b)->w'.heap[b]? =w.heap[b]?
 cell:∀b z o i v g hs,aY w b z o i v g hs->∃g',aY w' b z o i v g' hs
 thaw:∀b,dM w b->dM w' b
section
variable {k t:Nat}{D:zP}{w w1 w':zW}{all L:List (Nat×ByteArray)}
def Lb {b z o i v g hs}(h:aY w b z o i v g hs)(x:Nat×ByteArray):∃a,aY (oF w x) b z o i v a hs:=by
 by_cases e:b=x.1
 .refine⟨x.2.data.toList,?_⟩;have:=KR h x.2;rw[show(b,x.2)=x by rw[e]]at this;exact this
 .exact⟨g,wY h e⟩
def FB {b:Nat}{z o:Option Nat}{i v:zB}{hs:Int}:∀(L:List (Nat×ByteArray)){w:zW}{g:zB},aY w b z o i v g hs->∃a,aY (Go.Ga.cP L w) b z o i v a hs
 |[],_,g,h=>⟨g,h⟩
 |x::L,_,_,h=>by obtain⟨a,c⟩:=Lb h x;exact FB L c
def Fh {b}(h:dM w b)(x:Nat×ByteArray):dM (oF w x) b:=by
 obtain⟨c,h⟩:=h;by_cases e:b=x.1
 .subst e;exact⟨_,eF h 4 _⟩
 .exact⟨c,by rw[qM e];exact h⟩
def BK {b:Nat}:∀(L:List (Nat×ByteArray)){w:zW},dM w b->dM (Go.Ga.cP L w) b
 |[],_,h=>h
 |x::L,_,h=>BK L (Fh h x)
def dM.lt {b}(h:dM w b):b<w.heap.size:=by obtain⟨c,h⟩:=h;exact(zAa.1 h).1
def JR.of (h:eI L w w')(l:∀x∈L,x∈all):JR all w w':=
 ⟨h.os,h.tape,h.output,h.size,λb a j=>(h.heap b a).trans (gP _ λx f=>j x (l x f)),λb z o i v g n e=>by
  obtain⟨m,fr,d⟩:=FB L e;exact⟨m,fr,by rw[h.heap b e.lt];exact d⟩,λb a=>by
  obtain⟨c,d⟩:=BK L a;exact⟨c,by rw[h.heap b a.lt];exact d⟩⟩
def JR.below {B:Nat}(a:Below B w w')(d:w.heap.size<=B):JR all w w':=
 ⟨a.os,a.tape,a.output,a.size,λb h _=>a.block b (zAd h d),λb z o i v g f e=>⟨g,⟨by rw[a.block b (zAd e.lt d)];exact e.at'⟩⟩,λb h=>by have hl:=h.lt;obtain⟨c,h⟩:=h;exact⟨c,by rw[a.block b (zAd hl d)];exact h⟩⟩
def JR.trans (h:JR all w w1)(a:JR all w1 w'):JR all w w':=
 ⟨a.os.trans h.os,a.tape.trans h.tape,a.output.trans h.output,zBc h.size a.size,λb c d=>(a.block b (zAd c h.size) d).trans (h.block b c d),λb z o i v g j e=>by obtain⟨l,f⟩:=h.cell _ _ _ _ _ _ _ e;exact a.cell _ _ _ _ _ _ _ f,λb c=>a.thaw b (h.thaw b c)⟩
def Vy (c:pA w t k){b z o i v g hs}(a:aY w b z o i v g hs):b≠t:=λe=>by subst e;have h:=c.wid;rw[a.c0]at h;cases z<;>cases h
def Jr (c:fF w){b z o i v g hs}(a:aY w b z o i v g hs):b≠0/\b≠2:=by
 constructor
 .rintro rfl;have h:=c.jF 0 _ (rfl:H0.cells.toList[0]? =aA _);rw[a.c0]at h;cases z<;>cases h
 .rintro rfl;have h:=c.mJ.2 0 (by omega);rw[a.c0]at h;cases z<;>cases h
def pA.Tp (h:pA w t k)(c:JR all w w')(a:∀x∈all,∃z o i v g hs,aY w x.1 z o i v g hs):pA w' t k:=by
 have f:w'.heap[t]? =w.heap[t]? :=c.block t h.lt λx d e=>by obtain⟨z,o,i,v,g,hs,b⟩:=a x d;exact Vy h b e
 have b:∀i,w'.cell? ⟨t,i,aB⟩=w.cell? ⟨t,i,aB⟩:=λi=>by simp only[World.cell?];rw[f]
 exact⟨zAd h.lt c.size,(b 0).trans h.wid,(b 2).trans h.emp⟩
def fF.Tp (h:fF w)(b:JR all w w')(a:∀x∈all,∃z o i v g hs,aY w x.1 z o i v g hs):fF w':=by
 have n:w'.heap[0]? =w.heap[0]? :=b.block 0 h.lt λx c e=>by obtain⟨z,o,i,v,g,hs,d⟩:=a x c;exact(Jr h d).1 e
 have m:w'.heap[2]? =w.heap[2]? :=b.block 2 h.mJ.1 λx c e=>by obtain⟨z,o,i,v,g,hs,d⟩:=a x c;exact(Jr h d).2 e
 refine⟨⟨zAd h.mJ.1 b.size,λj l=> ?_⟩,zAd h.lt b.size,λj v f=> ?_⟩
 .rw[show w'.cell? ⟨2,j,aB⟩=w.cell? ⟨2,j,aB⟩ by simp only[World.cell?];rw[m]];exact h.mJ.2 j l
 .rw[show w'.cell? ⟨0,0+j,aB⟩=w.cell? ⟨0,0+j,aB⟩ by simp only[World.cell?];rw[n]];exact h.jF j v f
def QG {top us lo hi}(N:rG k t D w)(hr:cR k w top us 0 lo hi all)(hp:∀b,top=aA b->D b)(hu:∀u∈us,u.idx.length=32/\u.val.length<=100)(M:all.length<=1000000):
  Calls zq 224 #[aO (aA ⟨t,0,aB⟩),ptr top] w λe w'=>(e=aM (.tuple #[])/\eO k w' top us 0/\JR all w w')\/∃c,e= .panicked c/\rP k t D us c w'/\zb w w':=by
 have j:=N.k1;have f:=N.k2;have HP:Hid (Calls zq 234 #[ptr top] w λe w1=>∃(q:zO)(cp:Nat)(s:List Nat),e=aM (aK q s.length cp)/\s.length<=cp/\pQ w1 q (s.map aA)/\(∀a,q=aA a->∃y,w1.heap[a.block]? =aA (aJ y 264 (0,0)))/\(∀b∈s,∃n,pR k w1 D us all n b)/\s.length<=32/\zb w w1):=by obtain⟨f1,f2⟩:=Lf hr hp;refine(XX (Xb N.down j f us all) f1 f2).mono ?_;rintro e w1 ⟨v',s,rfl,o1,p1,l1,O⟩;obtain⟨q,cp,rfl,S,g2,g3⟩:=o1.NU;rw[zDg]at S⊢;refine⟨q,cp,s,rfl,S,g2,λa I=>(g3 a I).2.2,λb W=> ?_,l1,O⟩;obtain⟨n,p⟩:=p1 b W;have m:∀b z o i v g d,aY w b z o i v g d->aY w1 b z o i v g d:=λb z o i v g d h=>⟨by rw[O.block b h.lt];exact h.at'⟩;obtain⟨B,C,F,r,t1,t2,t3,t4⟩:=p.tree;obtain⟨z,o,i,v,d,hn⟩:=p.new;exact⟨n,p.deep,p.Sx,⟨z,o,i,v,d,m _ _ _ _ _ _ _ hn⟩,B,C,F,r,t1.keep j f (λb z o i v g d h=>⟨d,m _ _ _ _ _ _ _ h⟩),t2,t3,t4⟩
 have HW:Hid (∀(w1:zW)(q:zO)(cp:Nat)(s:List Nat),s.length<=cp->pQ w1 q (s.map aA)->(∀a,q=aA a->∃y,w1.heap[a.block]? =aA (aJ y 264 (0,0)))->(∀b∈s,∃n,pR k w1 D us all n b)->s.length<=32->zb w w1->
   Calls zq 233 #[aO (aA ⟨t,0,aB⟩),aK q s.length cp] w1 λe w2=>(e=aM (.tuple #[])/\JR all w w2/\∃cN,cR k w2 top us 0 lo hi cN/\(∀x∈cN,x∈all)/\cN.length<=all.length)\/∃c,e= .panicked c/\rP k t D us c w2/\zb w w2):=λw1 q cp s h1 h2 Z Y X O=>by
  have hD1:=N.below O (zAb _)
  have hr1:cR k w1 top us 0 lo hi all:=hr.keep j f λb z o i v g d h=>⟨d,⟨by rw[O.block b h.lt];exact h.at'⟩⟩
  obtain⟨bp,o,rows,hF,P⟩:=hD1.fork hu M Y X h2 λa I ⟨x,G⟩=>by obtain⟨y,h⟩:=Z a I;rw[h]at G;cases G
  refine(Fj hF h1).mono ?_
  rintro e w2 (⟨rfl,U⟩|⟨rfl,hm,Qf⟩)
  .left;have J:kg w1 all (allRows rows s.length):=Xd j f λi hi=>by
    obtain⟨b,B,n,C,F,_,S,g2,_⟩:=P i hi;exact⟨b,B,n,C,F,S,g2⟩
   exact⟨rfl,(JR.below O (zAb _)).trans (.of U J.sub),(hr1.wrote j f J U).1⟩
  .right;refine⟨_,rfl,⟨q,s,cp,all,rfl,X,h1,M,?_,λa I=> ?_,λb W=> ?_⟩,O.trans (Qf.mono O.size)⟩
   .exact h2.kept hm.size λa I=>hm.old _ (by obtain⟨y,h⟩:=Z a I;exact(zAa.1 h).1)
   .obtain⟨y,h⟩:=Z a I;exact⟨y,by rw[hm.old _ (zAa.1 h).1];exact h⟩
   .obtain⟨n,p⟩:=Y b W;have m:∀b z o i v g d,aY w1 b z o i v g d->aY w2 b z o i v g d:=λb z o i v g d h=>⟨by rw[hm.old b h.lt];exact h.at'⟩;obtain⟨B,C,F,r,t1,t2,t3,t4⟩:=p.tree;obtain⟨z,o,i,v,d,hn⟩:=p.new;exact⟨n,p.deep,p.Sx,⟨z,o,i,v,d,m _ _ _ _ _ _ _ hn⟩,B,C,F,r,t1.keep j f (λb z o i v g d h=>⟨d,m _ _ _ _ _ _ _ h⟩),t2,t3,t4⟩
 have E:=hr.each.1;have A:∀x∈all,∃z o i v g d,aY w x.1 z o i v g d:=λx G=>by obtain⟨_,_,z,o,i,v,d,h⟩:=E x G;exact⟨z,o,i,v,[],d,h⟩
 have HK:Hid (∀(w2:zW)(cN:List (Nat×ByteArray)),JR all w w2->cR k w2 top us 0 lo hi cN->(∀x∈cN,x∈all)->cN.length<=all.length->
   Calls zq 236 #[aO (aA ⟨t,0,aB⟩),ptr top] w2 λe w3=>∃q l cp,e=aM (aK q l cp)/\Calls zq 235 #[aK q l cp] w3 λe' w4=>e'=aM (.tuple #[])/\eO k w4 top us 0/\JR all w w4):=λw2 cN K V H hlen=>by
  refine(QF j f (N.AZ.Tp K A) (N.gW.Tp K A) V hu (by omega)).mono ?_
  rintro e w3 ⟨q,l,cp,rfl,S,g2,g3,b3⟩
  refine⟨q,l,cp,rfl,?_⟩
  have Q:cR k w3 top us 0 lo hi cN:=V.keep j f λb z o i v g d h=>⟨d,⟨by rw[b3.block b h.lt];exact h.at'⟩⟩
  refine(GN cN q l cp w3 g2 S (by omega) (λx G=> ?_) (λa I x G e=> ?_)).mono ?_
  .obtain⟨_,_,z,o,i,v,d,h⟩:=E x (H x G);have hDx:=hr.Sx N.down hp x (H x G);have ht:=N.thaw _ _ _ _ _ _ _ hDx h;have vk:=(K.trans (JR.below b3 (zAb _))).thaw _ ht;obtain⟨c,Y⟩:=vk;refine⟨c,Y,?_⟩;obtain⟨g',fr,X⟩:=(K.trans (JR.below b3 (zAb _))).cell _ _ _ _ _ _ _ h;rw[Y]at X;cases X;rfl
  .obtain⟨_,_,z,o,i,v,d,h⟩:=E x (H x G);have h6:=g3 a I;have h7:=h.lt;have h8:=K.size;omega
  .rintro e w4 ⟨rfl,T⟩;refine⟨rfl,(Q.wrote j f (Mb j f Q) T).2 λb W ⟨z,o,i,v,d,h⟩=>Q.root j f W h,(K.trans (JR.below b3 (zAb _))).trans (.of T H)⟩
 have htp:∃pp,pp=ptr top:=⟨_,rfl⟩;obtain⟨pp,R⟩:=htp;rw[<-R]at HP⊢;simp only[<-R]at HK;clear R;go_enter (Qz.fn func224),ntmps224;go_wp2_with fail;refine HP.out.mono ?_;rintro e w1 ⟨q,cp,s,rfl,a1,a2,a3,a4,a5,a6⟩;have HW1:=HW.out w1 q cp s a1 a2 a3 a4 a5 a6;have HW2:=hid HW1;go_wp2_with fail;refine HW2.out.mono ?_;rintro e w2 (⟨rfl,K,cN,c1,c2,c3⟩|⟨c,rfl,c1,c2⟩)
 .have HK2:=HK.out w2 cN K c1 c2 c3;have HK3:=hid HK2;go_wp2_with fail;refine HK3.out.mono ?_;rintro e w3 ⟨q3,l3,cp3,rfl,Z⟩;have H3:=hid Z;go_wp2_with fail;refine H3.out.mono ?_;rintro e w4 ⟨rfl,d1,d2⟩;have D1:=hid d1;have D2:=hid d2;go_wp2;go_end0;exact aH ⟨rfl,D1.out,D2.out⟩
 .exact⟨rfl,aI ⟨c,rfl,c1,c2⟩⟩
end
def Qz.ntmps219:Qz.f219.ntmps=37:=rfl
def cW (w:zW)(t:Nat)(x0 x1 x2 x3 x4:zY)(c:Int):Prop:=w.heap[t]? =aA (aJ #[x0,x1,x2,x3,x4,aC aD c] 168 (0,0))
structure Hl (t:Nat)(w w':zW):Prop where
 os:w'.os=w.os
 tape:w'.tape=w.tape
 output:w'.output=w.output
 size:w.heap.size<=w'.heap.size
 block:∀b,b<w.heap.size->b≠t->(∀z o i v g hs,¬aY w b z o i v g hs)->w'.heap[b]? =w.heap[b]?
 cell:∀b z o i v g hs,aY w b z o i v g hs->∃hs',aY w' b z o i v g hs'
 thaw:∀b,dM w b->dM w' b
section
variable {w w1 w':zW}{t b:Nat}{x0 x1 x2 x3 x4:zY}{c:Int}{z o:Option Nat}{i v g:zB}{hs:Int}
def cW.lt (h:cW w t x0 x1 x2 x3 x4 c):t<w.heap.size:=(zAa.1 h).1
def cW.ne (h:cW w t x0 x1 x2 x3 x4 c)(a:aY w b z o i v g hs):b≠t:=λe=>by subst e;obtain⟨fr,a⟩:=a.at';unfold cW at h;rw[a]at h;cases h
def cW.below (h:cW w t x0 x1 x2 x3 x4 c){B}(a:Below B w w')(d:w.heap.size<=B):cW w' t x0 x1 x2 x3 x4 c:=(a.block t (zAd h.lt d)).trans h
def Hl.refl:Hl t w w:=⟨rfl,rfl,rfl,zAb _,λ_ _ _ _=>rfl,λ_ _ _ _ _ _ hs h=>⟨hs,h⟩,λ_ h=>h⟩
def Hl.trans (h:Hl t w w1)(a:Hl t w1 w'):Hl t w w':=
 ⟨a.os.trans h.os,a.tape.trans h.tape,a.output.trans h.output,zBc h.size a.size,λb f j k=>by
  have e:=h.block b f j k;exact(a.block b (zAd f h.size) j λz o i v g hs d=>k z o i v g hs ⟨by rw[<-e];exact d.at'⟩).trans e,λb z o i v g hs d=>by
  obtain⟨l,d⟩:=h.cell _ _ _ _ _ _ _ d;exact a.cell _ _ _ _ _ _ _ d,λb f=>a.thaw b (h.thaw b f)⟩
def Hl.below {B:Nat}(a:Below B w w')(d:w.heap.size<=B):Hl t w w':=
 ⟨a.os,a.tape,a.output,a.size,λb h _ _=>a.block b (zAd h d),λb z o i v g hs e=>⟨hs,⟨by rw[a.block b (zAd e.lt d)];exact e.at'⟩⟩,λb h=>by have hl:=h.lt;obtain⟨c,h⟩:=h;exact⟨c,by rw[a.block b (zAd hl d)];exact h⟩⟩
def Hl.hold (l:aY w b z o i v g hs)(m):Hl t w (w.setCell ⟨b,5,aB⟩ (aC aD m)):=by
 refine⟨rfl,rfl,rfl,by simp[World.setCell],λd _ _ k=>zGr _ _ _ _ λe=>k z o i v g hs ((show d=b from e)▸l),λd n q r p s f a=> ?_,λd j=> ?_⟩
 .by_cases e:d=b
  .subst e;obtain⟨fr,a⟩:=a.at';exact⟨m,fr,by rw[eF a 5];rfl⟩
  .exact⟨f,⟨by rw[zGr _ _ _ _ e];exact a.at'⟩⟩
 .obtain⟨cs,h⟩:=j;by_cases e:d=b
  .subst e;exact⟨_,eF h 5 _⟩
  .exact⟨cs,by rw[zGr _ _ _ _ e];exact h⟩
def Hl.count (h:cW w t x0 x1 x2 x3 x4 c)(m):Hl t w (w.setCell ⟨t,5,aB⟩ (aC aD m))/\cW (w.setCell ⟨t,5,aB⟩ (aC aD m)) t x0 x1 x2 x3 x4 m:=by
 refine⟨⟨rfl,rfl,rfl,by simp[World.setCell],λj _ l _=>zGr _ _ _ _ l,λj n q r p s d a=>⟨d,⟨by rw[zGr _ _ _ _ (h.ne a)];exact a.at'⟩⟩,λj f=> ?_⟩,?_⟩
 .obtain⟨cs,k⟩:=f;have e:j≠t:=λe=>by
   subst e;unfold cW at h;rw[k]at h;cases h
  exact⟨cs,by rw[zGr _ _ _ _ e];exact k⟩
 .unfold cW at h⊢;rw[eF h 5];rfl
def cW.hold (h:cW w t x0 x1 x2 x3 x4 c)(a:aY w b z o i v g hs)(m):cW (w.setCell ⟨b,5,aB⟩ (aC aD m)) t x0 x1 x2 x3 x4 c:=(zGr _ _ _ _ (h.ne a).symm).trans h
def cW.c5 (h:cW w t x0 x1 x2 x3 x4 c):w.cell? ⟨t,5,aB⟩=aA (aC aD c):=(bC h 5).trans rfl
def cW.f5 (h:cW w t x0 x1 x2 x3 x4 c):w.frozen? ⟨t,5,aB⟩=aG:=cT h 5
def Lets (t:Nat)(w0:zW)(n:Nat)(p:Option Nat):Prop:=
 ∀W x0 x1 x2 x3 x4 c,Hl t w0 W->cW W t x0 x1 x2 x3 x4 c->-4611686018427387904<=c-n->c<=4611686018427387904->Calls zq 219 #[aO (aA ⟨t,0,aB⟩),ptr p] W λe w'=>e=aM (.tuple #[])/\Hl t W w'/\∃c',cW w' t x0 x1 x2 x3 x4 c'/\c-n<=c'/\c'<=c
def Pb (t:Nat)(w0:zW)(n:Nat)(p:Option Nat):Prop:=
 ∀W x0 x1 x2 x3 x4 c,Hl t w0 W->cW W t x0 x1 x2 x3 x4 c->-4611686018427387904<=c-n->c<=4611686018427387904->(Calls zq 219 #[aO (aA ⟨t,0,aB⟩),ptr p] W λe w'=>e=aM (.tuple #[])/\Hl t W w'/\∃c',cW w' t x0 x1 x2 x3 x4 c'/\c-n<=c'/\c'<=c)/\
  ∀u,CallsD zq 219 #[aO (aA ⟨t,0,aB⟩),ptr p] u W λe a w'=>a=u/\(e=aM (.tuple #[])/\Hl t W w'/\∃c',cW w' t x0 x1 x2 x3 x4 c'/\c-n<=c'/\c'<=c)
def Cz {args:zA}{w:zW}{R:Ending->zW->Prop}(h:Qz.PC.wp zq (bodyPost zq Qz.f219 R) {tmps:=args++Array.replicate (Qz.f219.ntmps-args.size) undef,defers:=[]} w):Calls zq 219 args w R/\∀u,CallsD zq 219 args u w λe a w'=>a=u/\R e w':=⟨calls_of_wp Qz.func219 rfl h,λu=>callsD_of_wp Qz.func219 rfl h⟩
def tX (w)(x):zb w (w.alloc (aJ #[.bool x] 4)).drew:=((zGm _ w).alloc (zAb _) _).drew
def YR (w0:zW):Pb t w0 0 aB:=by
 intro W x0 x1 x2 x3 x4 c _ h _ _;have H:Hid (∀x:Bool,Hl t W (W.alloc (aJ #[.bool x] 4)).drew/\∃c',cW (W.alloc (aJ #[.bool x] 4)).drew t x0 x1 x2 x3 x4 c'/\c-(0:Nat)<=c'/\c'<=c):=λx=>⟨Hl.below (tX W x) (zAb _),c,h.below (tX W x) (zAb _),by omega,by omega⟩;clear h;refine Cz ?_;simp only[Qz.ntmps219,zAn,zAf,zAl,Nat.reduceAdd,Nat.reduceSub,zEn,aEY,zDz,List.append_toArray,zCk,zBz];unfold Qz.PC my iw Xe iv Qd mv Qc mr mx br bu bq bn;simp only[f219,zCy];go_upto_region 91 with(fail)
 go_region;all_goals go_wp2
 all_goals((try simp only[Exit.inBlock,Exit.then]);refine zGz (Go.results_none rfl _ _ _) rfl ?_)
 all_goals exact⟨rfl,H.out _⟩
def YQ {w0:zW}{L no:Nat}(u:aY w0 b z o i v g hs)(s:dM w0 b)(T:Lets t w0 L z)(U:Lets t w0 no o):Pb t w0 (1+L+no) (aA b):=by
 intro W x0 x1 x2 x3 x4 c X V xl hc2;have K:Hid (∀x:Bool,Hl t W (W.alloc (aJ #[.bool x] 4)).drew/\cW (W.alloc (aJ #[.bool x] 4)).drew t x0 x1 x2 x3 x4 c):=λx=>⟨Hl.below (tX W x) (zAb _),V.below (tX W x) (zAb _)⟩;have n:Hid (Hl t w0 W):=X;have J:Hid (aY w0 b z o i v g hs):=u;have HT:Hid (dM w0 b):=s;have HZ:Hid (Lets t w0 L z):=T;have HO:Hid (Lets t w0 no o):=U;clear V X u s T U;refine Cz ?_;simp only[Qz.ntmps219,zAn,zAf,zAl,Nat.reduceAdd,Nat.reduceSub,zEn,aEY,zDz,List.append_toArray,zCk,zBz];unfold Qz.PC my iw Xe iv Qd mv Qc mr mx br bu bq bn;simp only[f219,zCy];go_upto_region 91 with(fail)
 go_region
 .go_wp2;(try simp only[Exit.inBlock,Exit.then]);refine zGz (Go.results_none rfl _ _ _) rfl ?_;exact⟨rfl,(K.out _).1,c,(K.out _).2,by omega,by omega⟩
 .have M:=K.out aF;generalize(W.alloc (Obj.cells #[Value.bool aF] 4)).drew=I at*;clear K;obtain⟨d,B⟩:=M;obtain⟨a,l⟩:=(n.out.trans d).cell _ _ _ _ _ _ _ J.out;have E:=(n.out.trans d).thaw _ HT.out;have Y:=l.c5;have f5:=E.f 5;have m:Hid (cW I t x0 x1 x2 x3 x4 c):=B;have r:Hid (Hl t W I):=d;have H:Hid (aY I b z o i v g a):=l;clear d B l E;go_upto_region 3 with(fail)
  .refine zGz (Go.results_none rfl _ _ _) rfl ?_;exact⟨rfl,r.out.trans (Hl.hold H.out _),c,m.out.hold H.out _,by omega,by omega⟩
  .have j:=r.out.trans (Hl.hold H.out (wrap64 (a-1)));have h:=m.out.hold H.out (wrap64 (a-1));generalize(I.setCell ⟨b,5,aB⟩ (Value.int IntKind.i64 (wrap64 (a-1))))=Q at*;obtain⟨og,k⟩:=(n.out.trans j).cell _ _ _ _ _ _ _ J.out;have c5:=h.c5;have e5:=h.f5;have c0:=k.c0;have n0:=h.ne k;have hw:wrap64 (c-1)=c-1:=by{unfold wrap64;omega};obtain⟨D,A⟩:=Hl.count h (c-1);have q:Hid (Hl t W (Q.setCell ⟨t,5,aB⟩ (aC aD (c-1)))):=j.trans D;have S:Hid (cW (Q.setCell ⟨t,5,aB⟩ (aC aD (c-1))) t x0 x1 x2 x3 x4 (c-1)):=A;clear j h D A k Y f5 r H m;go_upto_region 4 with(fail)
   generalize(Q.setCell ⟨t,5,aB⟩ (Value.int IntKind.i64 (c-1)))=W3 at*;obtain⟨hs3,G⟩:=(n.out.trans q.out).cell _ _ _ _ _ _ _ J.out;have d0:=G.c0;clear G;go_wp2_with fail;refine(HZ.out W3 x0 x1 x2 x3 x4 (c-1) (n.out.trans q.out) S.out (by omega) (by omega)).mono ?_;rintro e w4 ⟨rfl,C,c4,y,l1,l2⟩;have p:Hid (Hl t W w4):=q.out.trans C;have R:Hid (cW w4 t x0 x1 x2 x3 x4 c4):=y;obtain⟨Z,F⟩:=(n.out.trans p.out).cell _ _ _ _ _ _ _ J.out;have d1:=F.c1;clear F C y;go_wp2_with fail;refine(HO.out w4 x0 x1 x2 x3 x4 c4 (n.out.trans p.out) R.out (by omega) (by omega)).mono ?_;rintro e w5 ⟨rfl,O,P,N,l3,l4⟩;go_wp2;go_end0;exact⟨rfl,p.out.trans O,P,N,by omega,by omega⟩
inductive BW (w:zW):Nat->Option Nat->Prop
 |nil:BW w 0 aB
 |mk {b nz no:Nat} {z o:Option Nat} {i v g:zB} {hs:Int} (h:aY w b z o i v g hs) (ht:dM w b) (hz:BW w nz z) (ho:BW w no o):BW w (1+nz+no) (aA b)
def LO {w0:zW}{n:Nat}{p:Option Nat}(h:BW w0 n p):Pb t w0 n p:=by
 induction h with
 |nil=>exact YR _
 |mk h k _ _ j f=>exact YQ h k (λW x0 x1 x2 x3 x4 c a b d e=>(j W x0 x1 x2 x3 x4 c a b d e).1) λW x0 x1 x2 x3 x4 c a b d e=>(f W x0 x1 x2 x3 x4 c a b d e).1
end
def Bb {w w'}(h:Below w.drew.heap.size w.drew w'):zb w w':=⟨h.os,h.tape,h.output,h.size,h.block⟩
abbrev Qn (u:bK):zY:= .agg #[aL ⟨u.idx.toArray⟩,aL ⟨u.val.toArray⟩,.bool u.gone]
structure IG (w w':zW)(b:Nat)(z o:Option Nat)(i v:zB):Prop where
 lo:w.heap.size<=b
 cell:∃hs,aY w' b z o i v [] hs
 thaw:dM w' b
section
variable {w w1 w':zW}{t b:Nat}{x0 x1 x2 x3 x4:zY}{c:Int}{z o:Option Nat}{i v g:zB}{hs:Int}
def LC (w:zW)(z o:Option Nat)(i v:zB)(h:w1.heap.size<=w.heap.size):IG w1 (w.alloc (aJ (lY z o i v [] 0) 272)) w.heap.size z o i v:=
 ⟨h,⟨0,⟨_,zGv w _⟩⟩,⟨_,zGv w _⟩⟩
def Gl (u)(U:u.idx.length<=1000)(T:u.val.length<=1000)(I:cW w t x0 x1 x2 x3 x4 c)(S: -4611686018427387904<=c)(R:c<=4611686018427387904):
  Calls zq 229 #[aO (aA ⟨t,0,aB⟩),Qn u] w λe w'=>∃b,e=aM (ptr (aA b))/\IG w w' b aB aB u.idx u.val/\Hl t w w'/\cW w' t x0 x1 x2 x3 x4 (c+1)/\b<w'.heap.size:=by
 obtain⟨d,a,r⟩:=u;dsimp only at*;have C:(⟨d.toArray⟩:ByteArray).size<=1000:=U;have B:(⟨a.toArray⟩:ByteArray).size<=1000:=T;have K:=hid I;have Y:wrap64 (c+1)=c+1:=by unfold wrap64;omega
 have bT:=I.lt;go_enter (Qz.fn func229),ntmps229;go_upto_region 1 with(fail)
 have n:zb w (w.alloc (aJ #[aL ⟨d.toArray⟩,aL ⟨a.toArray⟩,.bool r] 53)):=(zGm _ w).alloc (zAb _) _;have f:=K.out.below n (zAb _);have x:(w.alloc (aJ #[aL ⟨d.toArray⟩,aL ⟨a.toArray⟩,.bool r] 53)).heap[w.heap.size]? =aA (aJ #[aL ⟨d.toArray⟩,aL ⟨a.toArray⟩,.bool r] 53 (0,0)):=zGv w _;generalize(w.alloc (aJ #[aL ⟨d.toArray⟩,aL ⟨a.toArray⟩,.bool r] 53))=G at*;have c5:=f.c5;have V:=f.f5;obtain⟨A,y⟩:=Hl.count f (c+1);have h:(G.setCell ⟨t,5,aB⟩ (aC aD (c+1))).heap[w.heap.size]? =aA (aJ #[aL ⟨d.toArray⟩,aL ⟨a.toArray⟩,.bool r] 53 (0,0)):=(zGr _ _ _ _ (by show w.heap.size≠t;omega)).trans x;have L:=hid ((Hl.below n (zAb _)).trans A);have H:=hid y;clear n f x A y K;go_upto_region 2 with(fail)
 clear c5 V;generalize(G.setCell ⟨t,5,aB⟩ (Value.int IntKind.i64 (c+1)))=p at*;have s:=(zAa.1 h).1;have D:Hid (∀W,zb p W->W.cell? ⟨w.heap.size,0,aB⟩=aA (aL ⟨d.toArray⟩)/\W.cell? ⟨w.heap.size,1,aB⟩=aA (aL ⟨a.toArray⟩)):=λW q=>⟨(bC ((q.block _ s).trans h) 0).trans rfl,(bC ((q.block _ s).trans h) 1).trans rfl⟩;obtain⟨q0,X⟩:=D.out p (zGm _ _);have M:Hid (∀W,zb p W->IG w (W.alloc (aJ (lY aB aB d a [] 0) 272)) W.heap.size aB aB d a/\Hl t w (W.alloc (aJ (lY aB aB d a [] 0) 272))/\cW (W.alloc (aJ (lY aB aB d a [] 0) 272)) t x0 x1 x2 x3 x4 (c+1)/\W.heap.size<(W.alloc (aJ (lY aB aB d a [] 0) 272)).heap.size):=λW q=>by have J:zb p (W.alloc (aJ (lY aB aB d a [] 0) 272)):=q.alloc q.size _;have:=q.size;exact⟨LC W _ _ _ _ (by omega),L.out.trans (Hl.below J (zAb _)),H.out.below J (zAb _),by rw[size_alloc];omega⟩
 clear h L H;go_region_with (first
  |(go_at_call_of 85 (Value.string {data:=d.toArray});refine(MD _ _ C).mono ?_;rintro e F ⟨rfl,m⟩;
    have k:Hid (zb p F):=by first|exact Bb m|exact(bL j.out m j.out.size).out;
    obtain⟨Q,P⟩:=D.out F k.out;clear m;dsimp only)
  |(go_at_call_of 85 (Value.string {data:=a.toArray});refine(MD _ _ B).mono ?_;rintro e E ⟨rfl,l⟩;
    have j:Hid (zb p E):=by first|exact Bb l|exact(bL k.out l k.out.size).out;
    obtain⟨O,N⟩:=D.out E j.out;clear l;dsimp only))
 all_goals go_wp2
 all_goals go_ret
 all_goals first|exact⟨_,rfl,M.out _ j.out⟩|exact⟨_,rfl,M.out _ k.out⟩
def xO {p}(j:∀b,p=aA b->(∃z o i v g hs,aY w b z o i v g hs)/\dM w b)(d:cW w t x0 x1 x2 x3 x4 c):Calls zq 222 #[ptr p] w λe w'=>e=aM (ptr p)/\Hl t w w'/\cW w' t x0 x1 x2 x3 x4 c/\w'.heap.size=w.heap.size:=by
 cases p with
 |none=>exact(Gs w).mono λe w' ⟨h1,a⟩=>by subst a;exact⟨h1,.refl,d,rfl⟩
 |some b=>obtain⟨⟨z,o,i,v,g,hs,h⟩,f⟩:=j b rfl;refine(Gr h f).mono λe w' ⟨h1,m,a⟩=> ?_;subst a;exact⟨h1,Hl.hold h m,d.hold h m,by simp[World.setCell]⟩
def Fz (B:∀b,z=aA b->(∃z o i v g hs,aY w b z o i v g hs)/\dM w b)(E:∀b,o=aA b->(∃z o i v g hs,aY w b z o i v g hs)/\dM w b)(q:cW w t x0 x1 x2 x3 x4 c)(G: -4611686018427387904<=c)(F:c<=4611686018427387904):
  Calls zq 239 #[aO (aA ⟨t,0,aB⟩),ptr z,ptr o] w λe w'=>∃b,e=aM (ptr (aA b))/\IG w w' b z o [] []/\Hl t w w'/\cW w' t x0 x1 x2 x3 x4 (c+1)/\b<w'.heap.size:=by
 have stay:∀{W j:zW}{p:Option Nat},Hl t W j->(∀b,p=aA b->(∃z o i v g hs,aY W b z o i v g hs)/\dM W b)->∀b,p=aA b->(∃z o i v g hs,aY j b z o i v g hs)/\dM j b:=λ{W j p} hH h b e=>by obtain⟨⟨z,o,i,v,g,hs,I⟩,C⟩:=h b e;obtain⟨D,k⟩:=hH.cell _ _ _ _ _ _ _ I;exact⟨⟨_,_,_,_,_,_,k⟩,hH.thaw _ C⟩
 have N:wrap64 (c+1)=c+1:=by unfold wrap64;omega
 obtain⟨d,n⟩:=Hl.count q (c+1);have c5:=q.c5;have O:=q.f5;have K:Hid (Calls zq 222 #[ptr z] (w.setCell ⟨t,5,aB⟩ (aC aD (c+1))) λe w'=>e=aM (ptr z)/\Hl t w w'/\cW w' t x0 x1 x2 x3 x4 (c+1)):=(xO (stay d B) n).mono λe w' ⟨a,f,J,_⟩=>⟨a,d.trans f,J⟩;have L:Hid (∀W,Hl t w W->cW W t x0 x1 x2 x3 x4 (c+1)->Calls zq 222 #[ptr o] W λe w'=>e=aM (ptr o)/\Hl t w w'/\cW w' t x0 x1 x2 x3 x4 (c+1)):=λW a f=>(xO (stay a E) f).mono λe w' ⟨g1,g2,g3,_⟩=>⟨g1,a.trans g2,g3⟩;have M:Hid (∀W,Hl t w W->cW W t x0 x1 x2 x3 x4 (c+1)->IG w (W.alloc (aJ (lY z o [] [] [] 0) 272)) W.heap.size z o [] []/\Hl t w (W.alloc (aJ (lY z o [] [] [] 0) 272))/\cW (W.alloc (aJ (lY z o [] [] [] 0) 272)) t x0 x1 x2 x3 x4 (c+1)/\W.heap.size<(W.alloc (aJ (lY z o [] [] [] 0) 272)).heap.size):=λW a f=>by have A:zb W (W.alloc (aJ (lY z o [] [] [] 0) 272)):=(zGm _ W).alloc (zAb _) _;exact⟨LC W _ _ _ _ a.size,a.trans (Hl.below A (zAb _)),f.below A (zAb _),by rw[size_alloc];omega⟩
 cases z<;>cases o;all_goals
  go_enter (Qz.fn func239),ntmps239
  go_wp2_with fail
  refine K.out.mono ?_
  rintro e w2 ⟨rfl,s,m⟩
  have y:=hid s
  have u:=hid m
  go_wp2_with fail
  refine(L.out w2 y.out u.out).mono ?_
  rintro e w3 ⟨rfl,r,l⟩
  have x:=hid r
  have H:=hid l
  go_wp2
  go_ret
  exact⟨_,rfl,M.out w3 x.out H.out⟩
end
def CS (w:zW)(S:zP):Prop:=∀b,S b->∃z o i v g hs,aY w b z o i v g hs/\dM w b/\∀c,z=aA c\/o=aA c->S c
section
variable {w w1 w':zW}{t b k d lo m hi:Nat}{x0 x1 x2 x3 x4:zY}{c:Int}{z o p:Option Nat}{i v g:zB}{hs:Int}{S:zP}{us:List bK}{rows rz ro:List (Nat×ByteArray)}
def CS.hl (h:CS w S)(f:Hl t w w'):CS w' S:=λb j=>by obtain⟨z,o,i,v,g,hs,q,n,l⟩:=h b j;obtain⟨a,e⟩:=f.cell _ _ _ _ _ _ _ q;exact⟨z,o,i,v,g,a,e,f.thaw _ n,l⟩
def CS.add (h:CS w' S)(f:IG w w' b z o i v)(j:∀c,z=aA c->S c)(l:∀c,o=aA c->S c):CS w' λx=>S x\/x=b:=λx a=>by
 obtain a|rfl:=a
 .obtain⟨z,o,i,v,g,hs,s,r,q⟩:=h x a;exact⟨z,o,i,v,g,hs,s,r,λc e=>aH (q c e)⟩
 .obtain⟨hs,n⟩:=f.cell;exact⟨z,o,i,v,[],hs,n,f.thaw,λc e=>aH (e.elim (j c) (l c))⟩
def CS.cells (h:CS w S)(a:∀b,p=aA b->S b):∀b,p=aA b->(∃z o i v g hs,aY w b z o i v g hs)/\dM w b:=λb e=>by obtain⟨z,o,i,v,g,hs,j,f,_⟩:=h b (a b e);exact⟨⟨_,_,_,_,_,_,j⟩,f⟩
def eO.up (h:eO k w p us (d+1))(hl:us.length<=1):eO k w p us d:=by
 cases h with
 |nil=>exact .nil d
 |leaf h=>exact .leaf (by rw[GS k d (d+1)];exact h)
 |node a=>omega
def cR.up (h:cR k w p us (d+1) lo hi rows)(hl:us.length<=1):cR k w p us d lo hi rows:=by
 cases h with
 |done h a=>exact .done (h.up hl) a
 | @leaf b u _ _ _ _ h1 e h=>rw[GS k (d+1) d];exact .leaf h1 e h
 |node e=>omega
def eO.hl (j:1<=k)(a:k<=32)(h:eO k w p us d)(f:Hl t w w'):eO k w' p us d:=h.keep j a λb z o i v g hs _ e=>f.cell _ _ _ _ _ _ _ e
def cR.hl (j:1<=k)(a:k<=32)(h:cR k w p us d lo hi rows)(f:Hl t w w'):cR k w' p us d lo hi rows:=h.keep j a λb z o i v g hs e=>f.cell _ _ _ _ _ _ _ e
def cR.ends (h:cR k w p us d lo hi rows):Calls zq 225 #[ptr p] w λe w'=>e=aM (.bool (decide (us.length<=1)))/\w'=w:=by
 have a:∀{b:Nat}{z o:Option Nat}{i v g:zB}{hs:Int}{us:List bK}{r1 r2:List (Nat×ByteArray)}{n a2 a3 a4:Nat},2<=us.length->aY w b z o i v g hs->cR k w z (bM d 0 us) (d+1) n a2 r1->cR k w o (bM d 1 us) (d+1) a3 a4 r2->Calls zq 225 #[ptr (aA b)] w λe w'=>e=aM (.bool (decide (us.length<=1)))/\w'=w:=λ{b z o i v g hs us r1 r2 n a2 a3 a4} l s f j=>by
  have hl:=nZ us d;refine(xX s).mono λe w' h=>⟨?_,h.2⟩;rw[h.1,zCc (by omega)];have r:=f.iB;have q:=j.iB;cases z with
  |some _=>rfl
  |none=>
   cases o with
   |some _=>rfl
   |none=>rw[r.1 rfl,q.1 rfl]at hl;simp at hl;omega
 cases h with
 |done h hl=>
  cases h with
  |nil=>exact LZ w
  |leaf h=>exact xX h
  |node l _ h f j=>exact a l h (.done f (zAb 0)) (.done j (zAb 0))
 |leaf _ _ h=>exact xX h
 |node l _ h f j=>exact a l h f j
def VN {a}(h:bM d (1-a) us=[])(j:a<=1):bM d a us=us:=by
 refine zFh.2 λu f=> ?_;have:=zFo.1 h u f;obtain e|e:=tZ u.idx d
 .rw[e]at this⊢;have:a=0:=by
   obtain h|h:=zDf 0 a;{exfalso;exact this (by rw[show 1-a=0 by omega];rfl)};{omega}
  rw[this];rfl
 .rw[e]at this⊢;have:a=1:=by
   obtain h|h:=zDf a 1;{exfalso;exact this (by rw[show 1-a=1 by omega];rfl)};{omega}
  rw[this];rfl
structure Grow (t:Nat)(S S':zP)(w w':zW):Prop where
 hl:Hl t w w'
 cs:CS w' S'
 old:∀b,S b->S' b
 new:∀b,S' b->S b\/w.heap.size<=b
def Grow.refl (h:CS w S):Grow t S S w w:=⟨.refl,h,λ_ h=>h,λ_ h=>aH h⟩
def Grow.trans {S1 f:zP}(h:Grow t S S1 w w1)(a:Grow t S1 f w1 w'):Grow t S f w w':=
 ⟨h.hl.trans a.hl,a.cs,λb e=>a.old b (h.old b e),λb e=>by
  obtain x|x:=a.new b e;{exact h.new b x}
  .exact aI (zBc h.hl.size x)⟩
def Joined (k t:Nat)(S:zP)(us:List bK)(d lo n:Nat)(x0 x1 x2 x3 x4:zY)(c:Int)(w:zW)(e:Ending)(w':zW):Prop:=
 ∃p rows a,e=aM (ptr p)/\cR k w' p us d lo w'.heap.size rows/\Grow t S a w w'/\(∀b,p=aA b->a b)/\cW w' t x0 x1 x2 x3 x4 (c+(rows.length-n:Int))/\rows.length=n+if 2<=us.length then 1 else 0
def Gn (O:1<=k)(L:k<=32)(j:cR k w z (bM d 0 us) (d+1) lo m rz)(l:cR k w o (bM d 1 us) (d+1) m w.heap.size ro)(T:Sub us d)(n:CS w S)(B:∀b,z=aA b->S b)(C:∀b,o=aA b->S b)(F:cW w t x0 x1 x2 x3 x4 c)(y: -4611686018427387904<=c)(u:c<=4611686018427387904):
  Calls zq 232 #[aO (aA ⟨t,0,aB⟩),ptr z,ptr o] w (Joined k t S us d lo (rz.length+ro.length) x0 x1 x2 x3 x4 c w):=by
 have hl:=nZ us d;have G:=hid j.ends;have E:=hid l.ends;have I:=j.iB;have no:=l.iB;have R:=j.Gj;have q:=l.Gj;have X:Hid (z=aB->(bM d 1 us).length<=1->Joined k t S us d lo (rz.length+ro.length) x0 x1 x2 x3 x4 c w (aM (ptr o)) w):=λe h=>by
  have A:=I.1 e;have P:=VN A (zAb _);have r:rz=[]:=by
   subst e;rw[A]at j;cases j with
   |done=>rfl
  rw[P]at l h;exact⟨o,ro,S,rfl,(l.up h).wide R (zAb _),.refl n,C,by rw[r,show((c:Int)+((ro.length:Int)-(([]:List (Nat×ByteArray)).length+ro.length:Nat)))=c by simp];exact F,by rw[r,zAt (by omega)];simp⟩
 have HB:Hid (o=aB->(bM d 0 us).length<=1->Joined k t S us d lo (rz.length+ro.length) x0 x1 x2 x3 x4 c w (aM (ptr z)) w):=λe h=>by
  have A:=no.1 e;have P:bM d 0 us=us:=VN A (by omega);have r:ro=[]:=by
   subst e;rw[A]at l;cases l with
   |done=>rfl
  rw[P]at j h;exact⟨z,rz,S,rfl,(j.up h).wide (zAb _) q,.refl n,B,by rw[r,show((c:Int)+((rz.length:Int)-(rz.length+([]:List (Nat×ByteArray)).length:Nat)))=c by simp];exact F,by rw[r,zAt (by omega)];simp⟩
 have Q:Hid (2<=us.length->Calls zq 239 #[aO (aA ⟨t,0,aB⟩),ptr z,ptr o] w λe w'=>∃b,e=aM (ptr (aA b))/\Joined k t S us d lo (rz.length+ro.length) x0 x1 x2 x3 x4 c w (aM (ptr (aA b))) w'):=λN=>by refine(Fz (n.cells B) (n.cells C) F y u).mono ?_;rintro e w' ⟨b,rfl,D,hH,M,hb⟩;obtain⟨hs,Y⟩:=D.cell;have Z:cR k w' (aA b) us d lo w'.heap.size (rz++ro++[(b,⟨(jA k us d).toArray⟩)]):= .node N (T.deep N) Y (j.hl O L hH) ((l.hl O L hH).wide (zAb _) D.lo) hb;refine⟨b,rfl,aA b,_,_,rfl,Z,⟨hH,(n.hl hH).add D B C,λx K=>aH K,λx K=>K.imp id λe=>by subst e;exact D.lo⟩,λx e=>by cases e;exact aI rfl,?_,by rw[zAv N];simp only[zAc,zAf,zAl]⟩;rw[show(c:Int)+(((rz++ro++[(b,(⟨(jA k us d).toArray⟩:ByteArray))]).length:Int)-(rz.length+ro.length:Nat))=c+1 by simp only[zAc,zAf,zAl];omega];exact M
 have H1:Hid (z=aB->o=aB->(bM d 1 us).length<=1):=λ_ e=>by rw[no.1 e];simp
 have H2:Hid (¬(bM d 1 us).length<=1->2<=us.length):=λh=>by omega
 have H3:Hid (¬(bM d 0 us).length<=1->2<=us.length):=λh=>by omega
 have H4:Hid (∀a b,z=aA a->o=aA b->2<=us.length):=λa b W V=>by
  obtain h|h:=zEu (bM d 0 us).length;{rw[I.2 (zFm.1 h)]at W;cases W}
  .obtain U|U:=zEu (bM d 1 us).length
   .rw[no.2 (zFm.1 U)]at V;cases V
   .omega
 generalize hJ:Joined k t S us d lo (rz.length+ro.length) x0 x1 x2 x3 x4 c w=J at*;clear j l T n B C F y u hJ I no R q hl O L;generalize bM d 0 us=u0 at*;generalize bM d 1 us=u1 at*;cases z with
 |none=>
  cases o with
  |none=>have f:=H1.out rfl rfl;rw[zDm f]at E;go_enter (Qz.fn func232),ntmps232;go_wp2_with fail;refine E.out.mono ?_;rintro e w' ⟨rfl,rfl⟩;go_wp2;exact X.out (by first|trivial|rfl) f
  |some o=>by_cases f:u1.length<=1;{rw[zDm f]at E;go_enter (Qz.fn func232),ntmps232;go_wp2_with fail;refine E.out.mono ?_;rintro e w' ⟨rfl,rfl⟩;go_wp2;exact X.out (by first|trivial|rfl) f};{rw[zCc f]at E;have H:=Q.out (H2.out f);go_enter (Qz.fn func232),ntmps232;go_wp2_with fail;refine E.out.mono ?_;rintro e w' ⟨rfl,rfl⟩;go_wp2_with fail;refine H.mono ?_;rintro e w' ⟨b,rfl,s⟩;go_wp2;exact s}
 |some z=>
  cases o with
  |none=>by_cases f:u0.length<=1;{rw[zDm f]at G;go_enter (Qz.fn func232),ntmps232;go_wp2_with fail;refine G.out.mono ?_;rintro e w' ⟨rfl,rfl⟩;go_wp2;exact HB.out (by first|trivial|rfl) f};{rw[zCc f]at G;have H:=Q.out (H3.out f);go_enter (Qz.fn func232),ntmps232;go_wp2_with fail;refine G.out.mono ?_;rintro e w' ⟨rfl,rfl⟩;go_wp2_with fail;refine H.mono ?_;rintro e w' ⟨b,rfl,s⟩;go_wp2;exact s}
  |some o=>have H:=Q.out (H4.out _ _ rfl rfl);go_enter (Qz.fn func232),ntmps232;go_wp2_with fail;refine H.mono ?_;rintro e w' ⟨b,rfl,s⟩;go_wp2;exact s
end
def eH {l a I}:eT (a::l) I=if a.1=I then aA a.2 else eT l I:=by
 unfold eT;by_cases h:a.1=I
 .rw[List.find?_cons_of_pos (by simpa using h),zAv h];rfl
 .rw[List.find?_cons_of_neg (by simpa using h),zAt h]
def tM:∀{l m:List rQ},gM l->gM m->(∀I,eT l I=eT m I)->l=m
 |[],[],_,_,_=>rfl
 |[],b::m,_,_,h=>by have:=h b.1;rw[eH,zAv rfl]at this;cases this
 |a::l,[],_,_,h=>by have:=h a.1;rw[eH,zAv rfl]at this;cases this
 |a::l,b::m,hl,hm,h=>by
  unfold gM at hl hm;rw[zBw]at hl hm;have g:∀{x:rQ}{r:List rQ},(∀e∈r,aE1 x.1 e.1= -1)->∀e∈r,e.1≠x.1:=λn e f d=>by have:=n e f;rw[d,dC]at this;cases this
  have i:a.1=b.1:=by
   obtain c|c|c:=gQ a.1 b.1
   .exfalso;have:=h a.1;rw[eH,zAv rfl,eH,zAt (λe=>by rw[e,dC]at c;cases c),fN]at this
    .cases this
    .intro e f d;have k:=hm.1 e f;rw[d]at k;have:=fS b.1 a.1;omega
   .exact jC c
   .exfalso;have c':aE1 b.1 a.1= -1:=by{have:=fS a.1 b.1;omega};have:=h b.1;rw[eH (a:=b),zAv rfl,eH,zAt (λe=>by rw[e,dC]at c;cases c),fN]at this;{cases this};{intro e f d;have k:=hl.1 e f;rw[d]at k;have:=fS a.1 b.1;omega}
  have o:a.2=b.2:=by have:=h a.1;rw[eH,zAv rfl,eH,zAv i.symm]at this;exact zAk this
  have f:=Prod.ext i o;subst f;rw[tM hl.2 hm.2 λI=> ?_];have:=h I;rw[eH,eH]at this;by_cases j:a.1=I;{subst j;rw[fN (g hl.1),fN (g hm.1)]};{rw[zAt j,zAt j]at this;exact this}
def get_append (l m)(I):eT (l++m) I=(eT l I).or (eT m I):=by unfold eT;rw[List.find?_append];cases h:l.find? λe=>e.1==I<;>rfl
def get_filter {l q I}(h:∀e,e.1=I->q e=aF):eT (l.filter q) I=eT l I:=by
 induction l with
 |nil=>rfl
 |cons a l i=>
  by_cases b:a.1=I;{rw[zAy (h a b),eH,eH,zAv b,zAv b]}
  .rw[eH,zAt b];cases c:q a with
   |true=>rw[zAy c,eH,zAt b,i]
   |false=>rw[zAp (by rw[c];decide),i]
def get_put (l)(u)(I):eT (wX l u) I=if u.idx=I then(if u.gone then aB else aA u.val)else eT l I:=by
 unfold wX;rw[get_append,get_append];by_cases h:u.idx=I
 .subst h;rw[zAv rfl,fN (λe b a=>by
   have:=of_decide_eq_true (zBb.1 b).2;rw[a,dC]at this;cases this),fN (l:=l.filter λe=>decide (aE1 e.1 u.idx=1)) (λe b a=>by
   have:=of_decide_eq_true (zBb.1 b).2;rw[a,dC]at this;cases this)]
  cases u.gone;{simp[eH]};{simp[eT]}
 .rw[zAt h];have d:eT (if u.gone then []else [(u.idx,u.val)]) I=aB:=by
   split;{rfl};{rw[eH,zAt h];rfl}
  rw[d];obtain c|c|c:=gQ I u.idx
  .rw[get_filter (λe b=>by rw[b,c];rfl),fN (l:=l.filter λe=>decide (aE1 e.1 u.idx=1)) (λe b a=>by
    have:=of_decide_eq_true (zBb.1 b).2;rw[a,c]at this;cases this)]
   cases eT l I<;>rfl
  .exact absurd (jC c).symm h
  .rw[get_filter (q:=λe=>decide (aE1 e.1 u.idx=1)) (λe b=>by rw[b,c];rfl),fN (λe b a=>by
    have:=of_decide_eq_true (zBb.1 b).2;rw[a,c]at this;cases this)]
   rfl
def Diff (cs:List bK)(l w:List rQ):Prop:=∀u∈cs,eT l u.idx≠eT w u.idx
def LS (l)(d b)(I):eT (dB l d b) I=if eN I d=b then eT l I else aB:=by
 split
 .rename_i h;exact get_filter (λe g=>by rw[g,h];exact beq_self_eq_true _)
 .rename_i h;unfold eT;cases c:(dB l d b).find? λe=>e.1==I with
  |none=>rfl
  |some e=>exfalso;have i:=List.mem_of_find?_eq_some c;have f:=List.find?_some c;have a:=(zBb.1 i).2;rw[zDn]at f a;rw[f]at a;exact h a
def Diff.half {cs l w}(h:Diff cs l w)(d b):Diff (bM d b cs) (dB l d b) (dB w d b):=λu c=>by obtain⟨e,a⟩:=zBb.1 c;rw[LS,LS,zAv (zDn.1 a),zAv (zDn.1 a)];exact h u e
def Diff.ne {cs l w}(h:Diff cs l w)(a:0<cs.length):l≠w:=λe=>by
 subst e;match cs,a with
 |u::cs,_=>exact h u (zBl ..) rfl
def mZ (l w:List rQ):Nat:=(l.filter λe=> !w.contains e).length
def sQ (l w)(d):mZ (dB l d 0) (dB w d 0)+mZ (dB l d 1) (dB w d 1)=mZ l w:=by
 have h:∀b,(dB l d b).filter (λe=> !(dB w d b).contains e)=dB (l.filter λe=> !w.contains e) d b:=λb=>by
  unfold dB;rw[zEi,zEi];apply List.filter_congr;intro e _;cases hb:eN e.1 d==b with
  |false=>simp
  |true=>
   have:(w.filter λe=>eN e.1 d==b).contains e=w.contains e:=by rw[aE0,List.contains_iff_mem,List.contains_iff_mem,zBb];exact⟨λh=>h.1,λh=>⟨h,hb⟩⟩
   rw[this];simp
 unfold mZ;rw[h 0,h 1];exact GA _ d
def xS:∀{l:List rQ}{I v:zB},gM l->(I,v)∈l->eT l I=aA v
 |[],_,_,_,h=>by cases h
 |a::l,I,v,b,h=>by obtain⟨d,c⟩:=zBw.1 b;rw[eH];obtain rfl|h:=zAg.1 h;{rw[zAv rfl]};{have:=d _ h;rw[zAt (λe=>by rw[e,dC]at this;cases this)];exact xS c h}
def kY (l w:List rQ)(d:Nat):Nat:=mZ l w+fH (256-d) l w d
def Gf {u cs w d}(b:gM w)(h:Diff cs (bH [u]) w){c}(f:c∈cs)(hi:c.idx=u.idx):1<=kY (bH [u]) w d:=by
 have a:=h c f;rw[hi]at a;have i:eT (bH [u]) u.idx=aA u.val:=by show eT [(u.idx,u.val)] u.idx=_;rw[eH,zAv rfl]
 rw[i]at a;have g:w.contains (u.idx,u.val)=aG:=by rw[zFb];intro e;rw[List.contains_iff_mem]at e;exact a (xS b e).symm
 have j:mZ (bH [u]) w=1:=by show([(u.idx,u.val)].filter _).length=1;rw[zAy (by rw[g];rfl)];rfl
 unfold kY;omega
def Gb {us cs w d}(h:Diff cs (bH us) w)(b:2<=us.length)(a:0<cs.length)(c:d<256):
  1+(kY (bH (bM d 0 us)) (dB w d 0) (d+1)+kY (bH (bM d 1 us)) (dB w d 1) (d+1))=kY (bH us) w d:=by
 rw[fM,fM];unfold kY;rw[show 256-d=(256-(d+1))+1 by omega,fH,zAt (λe=>by
  obtain e|e:=e;{rw[gJ]at e;omega}
  .exact h.ne a e),<-sQ (bH us) w d]
 omega
def Ge (l w:List rQ):kY l w 0=BN l w:=rfl
def mF (l:List bK):Prop:=l.Pairwise λa b=>aE1 a.idx b.idx= -1
def sT (I:zB)(l:List bK):List bK:=l.filter λu=>decide (aE1 u.idx I= -1)
def lW (I:zB)(l:List bK):List bK:=l.filter λu=>decide (aE1 u.idx I=1)
def VS {I l}(h:∀x∈l,aE1 x.idx I=1):sT I l=[]/\lW I l=l:=by
 constructor
 .unfold sT;rw[zFo];intro x a;rw[h x a];decide
 .unfold lW;rw[zFh];intro x a;rw[h x a];rfl
def UX {a b}(h:aE1 a b= -1):aE1 b a=1:=by rw[fS a b,h];rfl
def yO (I:zB):∀l:List bK,mF l->(∃x,x.idx=I/\l=sT I l++x::lW I l)\/(l=sT I l++lW I l/\∀x∈l,x.idx≠I)
 |[],_=>aI ⟨rfl,λ_ h=>by cases h⟩
 |a::l,m=>by
  obtain⟨f,n⟩:=zBw.1 m;obtain h|h|h:=gQ a.idx I
  .have j:sT I (a::l)=a::sT I l:=by{unfold sT;rw[zAy (by rw[h];rfl)]};have i:lW I (a::l)=lW I l:=by{unfold lW;rw[zAp (by rw[h];decide)]};rw[j,i];obtain⟨x,b,e⟩|⟨e,d⟩:=yO I l n;{exact aH ⟨x,b,by rw[zBz,<-e]⟩}
   .refine aI ⟨by rw[zBz,<-e],λx b=> ?_⟩;obtain rfl|b:=zAg.1 b
    .intro e;rw[e,dC]at h;cases h
    .exact d x b
  .have e:=jC h;obtain⟨c,g⟩:=VS (I:=I) (l:=l) λx b=>by{rw[<-e];exact UX (f x b)};have j:sT I (a::l)=[]:=by{unfold sT at c⊢;rw[zAp (by rw[h];decide)];exact c};have i:lW I (a::l)=l:=by{unfold lW at g⊢;rw[zAp (by rw[h];decide)];exact g};rw[j,i];exact aH ⟨a,e,rfl⟩
  .have k:aE1 I a.idx= -1:=by rw[fS a.idx I,h]
   obtain⟨c,g⟩:=VS (I:=I) (l:=a::l) λx b=>by obtain rfl|b:=zAg.1 b;{exact h};{exact UX (nF k (f x b))}
   rw[c,g];refine aI ⟨rfl,λx b=> ?_⟩;obtain rfl|b:=zAg.1 b;{intro e;rw[e,dC]at h;cases h};{intro e;have:=nF k (f x b);rw[e,dC]at this;cases this}
def TM (u:bK):bK:=⟨u.idx,u.val,aG⟩
def iK (l:List bK)(u:bK):List bK:=sT u.idx l++((if u.gone then []else [TM u])++lW u.idx l)
def wW (l)(u):bH (iK l u)=wX (bH l) u:=by
 have h:∀q:rQ->Bool,bH (l.filter λx=>q (x.idx,x.val))=(bH l).filter q:=λq=>by unfold bH;rw[List.filter_map];rfl
 unfold iK wX;rw[<-h,<-h];unfold bH sT lW;rw[zEo,zEo];cases u.gone<;>rfl
structure CY (l:List bK):Prop where
 sub:Sub l 0
 val:∀u∈l,u.val.length<=100
 here:∀u∈l,u.gone=aG
def CY.nil:CY []:=⟨⟨List.Pairwise.nil,λ_ h=>(nomatch h),λ_ h=>(nomatch h)⟩,λ_ h=>(nomatch h),λ_ h=>(nomatch h)⟩
def CY.put {l}(h:CY l){u}(hi:u.idx.length=32)(e:u.val.length<=100):CY (iK l u):=by
 have b:∀x∈iK l u,x∈l\/(u.gone=aG/\x=TM u):=λx a=>by
  obtain a|a:=zAi.1 a;{exact aH (zBb.1 a).1}
  .obtain a|a:=zAi.1 a
   .cases c:u.gone with
    |true=>rw[c]at a;simp at a
    |false=>rw[c]at a;exact aI ⟨rfl,by simpa using a⟩
   .exact aH (zBb.1 a).1
 have f:mF (iK l u):=by have d:gM (wX (bH l) u):=vL (zDj.2 h.sub.order);rw[<-wW]at d;exact zDj.1 d
 refine⟨Sub.zero f λx a=> ?_,λx a=> ?_,λx a=> ?_⟩
 .obtain a|⟨_,rfl⟩:=b x a
  .exact h.sub.idx x a
  .exact hi
 .obtain a|⟨_,rfl⟩:=b x a
  .exact h.val x a
  .exact e
 .obtain a|⟨_,rfl⟩:=b x a
  .exact h.here x a
  .rfl
def bI (l us:List bK):List bK:=us.foldl iK l
def sL:∀(us l:List bK),bH (bI l us)=cP (bH l) us
 |[],_=>rfl
 |u::us,l=>by show bH (bI (iK l u) us)=cP (wX (bH l) u) us;rw[sL us,wW]
def CY.cP:∀{us l:List bK},CY l->(∀u∈us,u.idx.length=32/\u.val.length<=100)->CY (bI l us)
 |[],_,h,_=>h
 |u::us,l,h,hu=>by show CY (bI (iK l u) us);exact CY.cP (h.put (hu u (zBl ..)).1 (hu u (zBl ..)).2) λx a=>hu x (zBm _ a)
def CY.same {l m}(h:CY l)(d:CY m)(e:bH l=bH m):l=m:=by
 have a:∀{x:List bK},CY x->x=(bH x).map λe=>⟨e.1,e.2,aG⟩:=λ{x} b=>by
  unfold bH;rw[zEg];conv=>lhs;rw[<-List.map_id x]
  apply zEb;intro u c;have:=b.here u c;cases u;simp only at this;subst this;rfl
 rw[a h,a d,e]
def RF (R:zR)(e:Ending)(w:zW):Prop:=(∃x,e=aM x/\R x w)\/∃c,e= .panicked c/\kU c w
def RF.of {R x w}(h:R x w):RF R (aM x) w:=aH ⟨x,rfl,h⟩
def RF.told {R c w}(h:kU c w):RF R (.panicked c) w:=aI ⟨c,rfl,h⟩
def lG {B w w'}(h:Below B w w'):Below B w w'.drew:=⟨h.os,h.tape,h.output,h.size,h.block⟩
def yL {B w w'}(h:Below B w.drew w'):Below B w w':=⟨h.os,h.tape,h.output,h.size,h.block⟩
def eC (w:zW)(x:Nat):Prop:=∃z o i v g h,aY w x z o i v g h
def oH (C:zP)(x:zY):Prop:=∃p,x=ptr p/\∀b,p=aA b->C b
def mG (w:zW):Prop:=∀b,b<=zq.globals.size->¬VY w.heap[b]?/\¬eC w b/\((∃c t fr,w.heap[b]? =aA (aJ c t fr)/\(∀D:zP,(∀x,x<=zq.globals.size->D x)->aZ Qw.Al (cG D) c c)/\(∀(i:Nat) m,c[i]?≠aA (aC aQ m))/\fr.2<=c.size)\/∃o,w.heap[b]? =aA o/\CH o)
def OZ {w:zW}{x:Nat}(h:eC w x):x<w.heap.size:=by obtain⟨_,_,_,_,_,_,h⟩:=h;exact h.lt
def Kp (w w':zW):Prop:=∀b z o i v g c,aY w b z o i v g c->(∃a h,aY w' b z o i v a h/\(g≠[]->a=g))/\(dM w b->dM w' b)
def Kp.same {w w':zW}(h:∀x,eC w x->w'.heap[x]? =w.heap[x]?):Kp w w':=λb z o i v g a d=>by have e:=h b ⟨z,o,i,v,g,a,d⟩;exact⟨⟨g,a,⟨by rw[e];exact d.at'⟩,λ_=>rfl⟩,λ⟨c,h⟩=>⟨c,by rw[e];exact h⟩⟩
def Kp.trans {w w1 w':zW}(h:Kp w w1)(p:Kp w1 w'):Kp w w':=λb z o i v g j l=>by obtain⟨⟨r,c,n,u⟩,t1⟩:=h b z o i v g j l;obtain⟨⟨q,a,m,s⟩,t2⟩:=p b z o i v r c n;exact⟨⟨q,a,m,λd=>by have e:=u d;rw[s (by rw[e];exact d),e]⟩,λf=>t2 (t1 f)⟩
structure dI (F:zP)(w w':zW):Prop where
 os:w'.os=w.os
 tape:w'.tape=w.tape
 output:w'.output=w.output
 size:w.heap.size<=w'.heap.size
 block:∀k,k<w.heap.size->¬F k->w'.heap[k]? =w.heap[k]?
 kp:Kp w w'
section
variable {F F':zP}{w w1 w':zW}
def dI.refl (F:zP)(w:zW):dI F w w:=⟨rfl,rfl,rfl,zAb _,λ_ _ _=>rfl,.same λ_ _=>rfl⟩
def dI.of {B:Nat}(h:Below B w w')(a:w.heap.size<=B):dI F w w':=⟨h.os,h.tape,h.output,h.size,λk d _=>h.block k (zAd d a),.same λx c=>h.block x (zAd (OZ c) a)⟩
def dI.trans (h:dI F w w1)(a:dI F w1 w'):dI F w w':=⟨a.os.trans h.os,a.tape.trans h.tape,a.output.trans h.output,zBc h.size a.size,λk c hF=>(a.block k (zAd c h.size) hF).trans (h.block k c hF),h.kp.trans a.kp⟩
def dI.then (h:dI F w w1)(a:dI F' w1 w')(hF:∀x,F' x->x<w.heap.size->¬F x->w1.heap[x]?≠w.heap[x]?):dI F w w':=⟨a.os.trans h.os,a.tape.trans h.tape,a.output.trans h.output,zBc h.size a.size,λk c d=>(a.block k (zAd c h.size) (λe=>hF k e c d (h.block k c d))).trans (h.block k c d),h.kp.trans a.kp⟩
def dI.mono (h:dI F w w')(hF:∀x,F x->F' x):dI F' w w':=⟨h.os,h.tape,h.output,h.size,λk c a=>h.block k c λd=>a (hF k d),h.kp⟩
def dI.grown {x:Nat}(h:w.grownBy w' (aA x))(d:F x)(a:¬eC w x):dI F w w':=⟨h.os,h.tape,h.output,h.size,λk f a=>h.block k f λe=>a (by injection e with e;rw[e];exact d),.same λy c=>h.block y (OZ c) λe=>a (by injection e with e;rw[<-e];exact c)⟩
end
def oT (S:List (List bK)):List bK:=S.getLast?.getD []
structure cS (w:zW)(t k room b cap:Nat)(S:List (List bK)):Prop where
 k1:1<=k
 k2:k<=32
 gI:mG w
 gW:fF w
 vW:zq.globals.size<t
 IA:zq.globals.size<b
 at':∃(R:Nat)(c:Int),cW w t (aC aD k) (aC aD R) (aL ⟨(dg k [0]).toArray⟩) (aK (aA ⟨b,0,aB⟩) S.length cap) (aC aD (oT S).length) c/\c+room<=R/\R<=1000000/\-(1000000*((R:Int)-room))<=c
 row:∃(C:zP)(cur:zA),w.heap[b]? =aA (aJ cur 264 (0,0))/\S.length<=cap/\cap<=maxLen/\cur.size=cap/\CS w C/\(∀x∈cur.toList,oH C x)/\∀(i:Nat) us,S[i]? =aA us->∃p,cur[i]? =aA (ptr p)/\eO k w p us 0
 st:∀us∈S,CY us/\us.length<=400
 len:S.length<=1000
 one:0<S.length
section
variable {w w':zW}{t k room b cap:Nat}{S:List (List bK)}{C:zP}
def eC.lt {x:Nat}(h:eC w x):x<w.heap.size:=OZ h
def aY.same {b z o i v g hs}(h:aY w b z o i v g hs)(a:w'.heap[b]? =w.heap[b]?):aY w' b z o i v g hs:=⟨by rw[a];exact h.at'⟩
def dM.same {b}(h:dM w b)(a:w'.heap[b]? =w.heap[b]?):dM w' b:=by obtain⟨c,h⟩:=h;exact⟨c,by rw[a];exact h⟩
def eC.same {x}(h:eC w x)(c:w'.heap[x]? =w.heap[x]?):eC w' x:=by obtain⟨z,o,i,v,g,a,h⟩:=h;exact⟨z,o,i,v,g,a,h.same c⟩
def mG.kept (h:mG w)(c:∀x,x<=zq.globals.size->w'.heap[x]? =w.heap[x]?):mG w':=λx a=>by rw[c x a];exact⟨(h x a).1,λd=>(h x a).2.1 (d.same (c x a).symm),(h x a).2.2⟩
def CS.cell (h:CS w C){x}(a:C x):eC w x:=by obtain⟨z,o,i,v,g,c,d,_⟩:=h x a;exact⟨z,o,i,v,g,c,d⟩
def CS.down (h:CS w C)(b)(z o)(i v g)(hs)(f:C b)(d:aY w b z o i v g hs)(c)(e:z=aA c\/o=aA c):C c:=by obtain⟨m,p,q,n,r,a,l,_,j⟩:=h b f;obtain⟨rfl,rfl,_⟩:=fC d l;exact j c e
def CS.kept (h:CS w C)(c:∀x,C x->w'.heap[x]? =w.heap[x]?):CS w' C:=λx a=>by obtain⟨z,o,i,v,g,d,j,f,e⟩:=h x a;exact⟨z,o,i,v,g,d,j.same (c x a),f.same (c x a),e⟩
def eO.kept {p:Option Nat}{us:List bK}{d:Nat}(h:eO k w p us d)(l:CS w C)(c:∀b,p=aA b->C b)(e:∀x,C x->w'.heap[x]? =w.heap[x]?):eO k w' p us d:=
 h.stay (G:=C) l.down (λb z o i v g a j f=>⟨a,f.same (e b j)⟩) c
def fF.kept (h:fF w)(hs:w.heap.size<=w'.heap.size)(a:∀x,x<=zq.globals.size->w'.heap[x]? =w.heap[x]?):fF w':=by
 obtain⟨f,e⟩:=GC;refine⟨⟨zAd h.mJ.1 hs,λj d=> ?_⟩,zAd h.lt hs,λj v c=> ?_⟩
 .rw[World.cell?_of_block (a _ e)];exact h.mJ.2 j d
 .rw[World.cell?_of_block (a _ f)];exact h.jF j v c
def cS.Wc (h:cS w t k room b cap S):∃cs,w.heap[t]? =aA (aJ cs 168 (0,0)):=by obtain⟨R,c,a,_⟩:=h.at';exact⟨_,a⟩
def cS.Yg (h:cS w t k room b cap S):∃cs,w.heap[b]? =aA (aJ cs 264 (0,0)):=by obtain⟨C,c,a,_⟩:=h.row;exact⟨_,a⟩
def cS.Wa (h:cS w t k room b cap S):t<w.heap.size:=by obtain⟨cs,h⟩:=h.Wc;exact(zAa.1 h).1
def cS.blt (h:cS w t k room b cap S):b<w.heap.size:=by obtain⟨cs,h⟩:=h.Yg;exact(zAa.1 h).1
def cS.tb (h:cS w t k room b cap S):t≠b:=λe=>by obtain⟨cs,d⟩:=h.Yg;obtain⟨f,a⟩:=h.Wc;rw[e,d]at a;injection a with a;injection a with _ c;revert c;decide
def cS.less {r}(h:cS w t k room b cap S)(a:r<=room):cS w t k r b cap S:=by obtain⟨R,c,d1,d,d3,d4⟩:=h.at';exact⟨h.k1,h.k2,h.gI,h.gW,h.vW,h.IA,⟨R,c,d1,by omega,d3,by omega⟩,h.row,h.st,h.len,h.one⟩
def cS.kept (h:cS w t k room b cap S)(hs:w.heap.size<=w'.heap.size)(d:∀x,x<=zq.globals.size\/x=t\/x=b\/eC w x->w'.heap[x]? =w.heap[x]?):cS w' t k room b cap S:=by
 obtain⟨C,f,c1,c2,c3,c4,c5,c6,r⟩:=h.row;obtain⟨R,c,d1,q,d3,d4⟩:=h.at';have g:∀x,C x->w'.heap[x]? =w.heap[x]? :=λx a=>d x (aI (aI (aI (c5.cell a))));refine⟨h.k1,h.k2,h.gI.kept λx a=>d x (aH a),h.gW.kept hs λx a=>d x (aH a),h.vW,h.IA,⟨R,c,(d t (aI (aH rfl))).trans d1,q,d3,d4⟩,⟨C,f,by rw[d b (aI (aI (aH rfl)))];exact c1,c2,c3,c4,c5.kept g,c6,λi us hi=> ?_⟩,h.st,h.len,h.one⟩;obtain⟨p,j,o⟩:=r i us hi;refine⟨p,j,o.kept c5 (λb n=> ?_) g⟩;obtain⟨l,e,m⟩:=c6 _ (by rw[zDo];exact zBg j);subst n;cases l with
 |none=>cases e
 |some s=>cases e;exact m _ rfl
def cS.below {B:Nat}(h:cS w t k room b cap S)(c:Below B w w')(d:w.heap.size<=B):cS w' t k room b cap S:=
 h.kept c.size λx a=>c.block x (zAd (by
  obtain a|rfl|rfl|a:=a;{have:=h.vW;have:=h.Wa;omega};{exact h.Wa};{exact h.blt}
  .exact a.lt) d)
def eC.ne {x y}(h:eC w x){cs ty fr}(c:w.heap[y]? =aA (aJ cs ty fr))(a:ty≠272):x≠y:=λe=>by subst e;obtain⟨_,_,_,_,_,_,h⟩:=h;obtain⟨f,h⟩:=h.at';rw[c]at h;injection h with h;injection h with _ d;exact a d
def cS.other {x:Nat}{cs:zA}{ty:zD}{fr:Nat×Nat}(h:cS w t k room b cap S)(f:w.grownBy w' (aA x))(g:w.heap[x]? =aA (aJ cs ty fr))(c:ty≠272/\ty≠168/\ty≠264)(hl:zq.globals.size<x):cS w' t k room b cap S:=
 h.kept f.size λy d=>by obtain d|rfl|rfl|d:=d;{exact f.block y (by have:=h.vW;have:=h.Wa;omega) (λe=>by injection e with e;omega)};{refine f.block _ h.Wa (λe=> ?_);injection e with e;subst e;obtain⟨j,a⟩:=h.Wc;rw[g]at a;injection a with a;injection a with _ i;exact c.2.1 i};{refine f.block _ h.blt (λe=> ?_);injection e with e;subst e;obtain⟨j,a⟩:=h.Yg;rw[g]at a;injection a with a;injection a with _ i;exact c.2.2 i};{refine f.block _ d.lt (λe=> ?_);injection e with e;exact d.ne g c.1 e}
def MM {D a}(h:D a.block):bR (cG D) a a:=⟨⟨rfl,h⟩,rfl,rfl⟩
def XA {D v}(h:∀a,v=aA a->D a.block)(n c):bE Qw.Al (cG D) (aK v n c) (aK v n c):=by
 cases v with
 |none=>exact .slice .none n c
 |some a=>exact .slice (.some (MM (h a rfl))) n c
def FD {D p}(h:∀b,p=aA b->D b):bE Qw.Al (cG D) (ptr p) (ptr p):=by
 cases p with
 |none=>exact .pointer .none
 |some b=>exact .pointer (.some (MM (h b rfl)))
def MS {D cs}(h:∀x∈cs.toList,bE Qw.Al (cG D) x x):aZ Qw.Al (cG D) cs cs:=⟨rfl,λi v d c a=>by rw[c]at a;injection a with a;subst a;exact h v (by rw[zDo];exact zBg c)⟩
def Hh (t b:Nat)(C:zP):zP:=λx=>x<=zq.globals.size\/x=t\/x=b\/C x
def Yc {n x1 x4 c cur}(k1:1<=k)(k2:k<=32)(D:mG w)(J:fF w)(vW:zq.globals.size<t)(IA:zq.globals.size<b)(r:cW w t (aC aD k) (aC aD x1) (aL ⟨(dg k [0]).toArray⟩) (aK (aA ⟨b,0,aB⟩) n cap) (aC aD x4) c)(q:w.heap[b]? =aA (aJ cur 264 (0,0)))(H:CS w C)(s:∀x∈cur.toList,oH C x):rG k t (Hh t b C) w:=by
 have A:∀x,x<=zq.globals.size->Hh t b C x:=λx h=>aH h;have bT:=r.lt;refine⟨k1,k2,⟨⟨λl d=>by rw[l.1,d.1],λl _=>l.1,λx h=>⟨rfl,A x h⟩⟩,by omega,λx h=> ?_⟩,λx h=> ?_,aI (aH rfl),?_,J,λx z o i v g u h E=> ?_⟩
 .by_cases nU:x<=zq.globals.size
  .obtain⟨c,ty,fr,l,d,B,K⟩|⟨o,l,d⟩:=(D x nU).2.2
   .exact aH ⟨c,ty,fr,l,d _ A,B,K⟩
   .exact aI ⟨nU,o,l,d⟩
  .left;obtain h|rfl|rfl|h:=h
   .exact absurd h nU
   .refine⟨_,_,_,r,MS λy f=> ?_,λi m hi=> ?_,zBs _⟩
    .simp only[zAg,zAo,zCe]at f;obtain rfl|rfl|rfl|rfl|rfl|rfl:=f
     .exact .int _ _
     .exact .int _ _
     .exact .string _
     .exact XA (λa G=>by injection G with G;subst G;exact aI (aI (aH rfl))) _ _
     .exact .int _ _
     .exact .int _ _
    .have:=zBg hi;simp at this
   .refine⟨_,_,_,q,MS λy f=> ?_,λi m hi=> ?_,zBs _⟩
    .obtain⟨p,rfl,I⟩:=s y f;exact FD λb q=>aI (aI (aI (I b q)))
    .obtain⟨p,e,_⟩:=s _ (by rw[zDo];exact zBg hi);cases p<;>cases e
   .obtain⟨z,o,i,v,g,u,l,⟨L,d⟩,B⟩:=H x h;obtain⟨fr,l⟩:=l.at';rw[d]at l;cases l;refine⟨_,_,_,d,MS λy f=> ?_,λj m hi=> ?_,zBs _⟩
    .simp only[lY,zAg,zAo,zCe]at f;obtain rfl|rfl|rfl|rfl|rfl|rfl:=f
     .exact FD λb q=>aI (aI (aI (B b (aH q))))
     .exact FD λb q=>aI (aI (aI (B b (aI q))))
     .exact .string _
     .exact .string _
     .exact .string _
     .exact .int _ _
    .have:=zBg hi;rw[<-zDo]at this;simp only[lY,zAg,zAo,zCe]at this;obtain e|e|e|e|e|e:=this
     .cases z<;>cases e
     .cases o<;>cases e
     all_goals cases e
 .rintro⟨y,f⟩;by_cases nU:x<=zq.globals.size
  .exact(D x nU).1 ⟨y,f⟩
  .obtain h|rfl|rfl|h:=h
   .exact absurd h nU
   .unfold cW at r;rw[f]at r;cases r
   .rw[f]at q;cases q
   .obtain⟨z,o,i,v,g,u,_,⟨L,d⟩,_⟩:=H x h;rw[f]at d;cases d
 .exact⟨bT,(bC r 0).trans rfl,(bC r 2).trans rfl⟩
 .by_cases nU:x<=zq.globals.size
  .exact absurd ⟨z,o,i,v,g,u,E⟩ (D x nU).2.1
  .obtain h|rfl|rfl|h:=h
   .exact absurd h nU
   .exact absurd rfl (r.ne E)
   .exact absurd rfl (eC.ne ⟨z,o,i,v,g,u,E⟩ q (by decide))
   .obtain⟨z,o,i,v,g,u,_,d,_⟩:=H x h;exact d
end
section
variable {w w1 w':zW}{t b k d lo hi:Nat}{x0 x1 x2 x3 x4:zY}{c:Int}{z o p:Option Nat}{i v g:zB}{hs:Int}{C:zP}{us:List bK}{rows:List (Nat×ByteArray)}
def TV {d l a b f e}(r:d<256)(hl:a+b=l)(s:1<=l)(q:f<=(257-(d+1))*a)(j:e<=(257-(d+1))*b):1+f+e<=(257-d)*l:=by obtain⟨m,h⟩:∃m,257-(d+1)=m:=⟨_,rfl⟩;rw[h]at q j;rw[show 257-d=m+1 by omega,aE7,<-hl,aE8];omega
def CS.thaw (e:CS w C){x}(a:C x):dM w x:=by obtain⟨_,_,_,_,_,_,_,h,_⟩:=e x a;exact h
def eO.TX (h:eO k w p us d)(a:CS w C)(q:∀b,p=aA b->C b)(E:d<=256):∃n,BW w n p/\n<=(257-d)*us.length:=by
 induction h with
 |nil d=>exact⟨0,.nil,zBs _⟩
 |leaf h=>exact⟨_,.mk h (a.thaw (q _ rfl)) .nil .nil,by simp only[zDs];omega⟩
 | @node b us d z o hs F l h B D j f=>have m:=q _ rfl;obtain⟨A,x,s⟩:=j (λc e=>a.down _ _ _ _ _ _ _ m h c (aH e)) (by omega);obtain⟨y,u,r⟩:=f (λc e=>a.down _ _ _ _ _ _ _ m h c (aI e)) (by omega);exact⟨_,.mk h (a.thaw m) x u,TV l (nZ us d) (by omega) s r⟩
def cR.TX (h:cR k w p us d lo hi rows)(a:CS w C)(l:∀b,p=aA b->C b)(x:d<=256):∃n,BW w n p/\n<=(257-d)*us.length:=by
 induction h with
 |done h _=>exact h.TX a l x
 |leaf _ _ h=>exact⟨_,.mk h (a.thaw (l _ rfl)) .nil .nil,by simp only[zDs];omega⟩
 | @node b us d lo m hi z o hs D ro I q h G H y j f=>have r:=l _ rfl;obtain⟨F,B,u⟩:=j (λc e=>a.down _ _ _ _ _ _ _ r h c (aH e)) (by omega);obtain⟨E,A,s⟩:=f (λc e=>a.down _ _ _ _ _ _ _ r h c (aI e)) (by omega);exact⟨_,.mk h (a.thaw r) B A,TV q (nZ us d) (by omega) u s⟩
def gp (t:Nat)(w0:zW)(n:Nat)(p:Option Nat):Prop:=
 ∀u W x0 x1 x2 x3 x4 c,Hl t w0 W->cW W t x0 x1 x2 x3 x4 c->-4611686018427387904<=c-n->c<=4611686018427387904->CallsD zq 219 #[aO (aA ⟨t,0,aB⟩),ptr p] u W λe a w'=>a=u/\(e=aM (.tuple #[])/\Hl t W w'/\∃c',cW w' t x0 x1 x2 x3 x4 c'/\c-n<=c'/\c'<=c)
def FP {w0:zW}{n:Nat}{p:Option Nat}(h:BW w0 n p):gp t w0 n p:=λu W x0 x1 x2 x3 x4 c a b d e=>(LO h W x0 x1 x2 x3 x4 c a b d e).2 u
def pR.hl {D all n}(m:1<=k)(l:k<=32)(h:pR k w D us all n b)(f:Hl t w w'):pR k w' D us all n b:=by obtain⟨z,o,i,v,hs,j⟩:=h.new;obtain⟨a,e⟩:=f.cell _ _ _ _ _ _ _ j;obtain⟨u,lo,hi,r,t1,t2⟩:=h.tree;exact⟨h.deep,h.Sx,⟨z,o,i,v,a,e⟩,u,lo,hi,r,t1.hl m l f,t2⟩
def Hl.other (j:Hl t w w')(h:cW w t x0 x1 x2 x3 x4 c){y:Nat}{cs ty fr}(a:w.heap[y]? =aA (aJ cs ty fr))(q:ty≠272)(m:ty≠168):w'.heap[y]? =w.heap[y]? :=by refine j.block y (zAa.1 a).1 (λe=> ?_) λz o i v g hs f=>eC.ne ⟨z,o,i,v,g,hs,f⟩ a q rfl;subst e;unfold cW at h;rw[a]at h;injection h with h;injection h with _ l;exact m l
def rP.hl {D ch}(y:1<=k)(r:k<=32)(h:rP k t D us ch w)(j:Hl t w w')(x:cW w t x0 x1 x2 x3 x4 c):rP k t D us ch w':=by
 obtain⟨q,F,cp,all,e,E,B,A,g4,g5,g6⟩:=h;have l:∀a,q=aA a->w'.heap[a.block]? =w.heap[a.block]? :=λa f=>by obtain⟨cur,s⟩:=g5 a f;exact j.other x s (by decide) (by decide)
 refine⟨q,F,cp,all,e,E,B,A,g4.kept j.size l,λa f=> ?_,λb u=> ?_⟩
 .rw[l a f];exact g5 a f
 .obtain⟨n,m⟩:=g6 b u;exact⟨n,m.hl y r j⟩
def rP.settle {D ch}(h:rP k t D us ch w):Go.settle (.panicking ch)= .panicking ch:=by obtain⟨q,a,cp,all,rfl,_⟩:=h;rfl
end
structure kC (k t b cap n:Nat)(C:zP)(cur:zA)(x1 x4 c:Int)(w:zW):Prop where
 gI:mG w
 gW:fF w
 tr:cW w t (aC aD k) (aC aD x1) (aL ⟨(dg k [0]).toArray⟩) (aK (aA ⟨b,0,aB⟩) n cap) (aC aD x4) c
 rZ:w.heap[b]? =aA (aJ cur 264 (0,0))
 cs:CS w C
section
variable {w w':zW}{t b k cap n:Nat}{x1 x4 c c':Int}{C C':zP}{cur:zA}{all:List (Nat×ByteArray)}
def mG.hl (h:mG w)(f:Hl t w w')(j:zq.globals.size<t)(l:t<w.heap.size):mG w':=h.kept λx a=>f.block x (by omega) (by omega) λz o i v g hs e=>(h x a).2.1 ⟨z,o,i,v,g,hs,e⟩
def mG.noCell (h:mG w){x}(a:x<=zq.globals.size):¬eC w x:=(h x a).2.1
def kC.hl (h:kC k t b cap n C cur x1 x4 c w)(a:Hl t w w')(f:zq.globals.size<t)(l:cW w' t (aC aD k) (aC aD x1) (aL ⟨(dg k [0]).toArray⟩) (aK (aA ⟨b,0,aB⟩) n cap) (aC aD x4) c')(m:CS w' C'):kC k t b cap n C' cur x1 x4 c' w':=
 ⟨h.gI.hl a f h.tr.lt,h.gW.kept a.size λx e=>a.block x (by have:=h.tr.lt;omega) (by omega) λz o i v g hs j=>h.gI.noCell e ⟨z,o,i,v,g,hs,j⟩,l,(a.other h.tr h.rZ (by decide) (by decide)).trans h.rZ,m⟩
def kC.below {B:Nat}(h:kC k t b cap n C cur x1 x4 c w)(a:Below B w w')(e:w.heap.size<=B)(f:zq.globals.size<t):kC k t b cap n C cur x1 x4 c w':=
 h.hl (.below a e) f (h.tr.below a e) (h.cs.hl (t:=t) (.below a e))
def CS.Tp (h:CS w C)(e:JR all w w'):CS w' C:=λx f=>by obtain⟨z,o,i,v,g,hs,m,l,j⟩:=h x f;obtain⟨q,a⟩:=e.cell _ _ _ _ _ _ _ m;exact⟨z,o,i,v,q,hs,a,e.thaw _ l,j⟩
def kC.Tp (h:kC k t b cap n C cur x1 x4 c w)(j:JR all w w')(s:zq.globals.size<t)(a:∀x∈all,eC w x.1):kC k t b cap n C cur x1 x4 c w':=by have q:∀x,x<=zq.globals.size->w'.heap[x]? =w.heap[x]? :=λx r=>j.block x (by have:=h.tr.lt;omega) λy f e=>h.gI.noCell r (e▸a y f);have l:=j.block t h.tr.lt λy f e=>(a y f).ne h.tr (by decide) e;have m:=j.block b (zAa.1 h.rZ).1 λy f e=>(a y f).ne h.rZ (by decide) e;exact⟨h.gI.kept q,h.gW.kept j.size q,l.trans h.tr,m.trans h.rZ,h.cs.Tp j⟩
def kC.ym (h:kC k t b cap n C cur x1 x4 c w)(k1:1<=k)(k2:k<=32)(vW:zq.globals.size<t)(IA:zq.globals.size<b)(a:∀x∈cur.toList,oH C x):rG k t (Hh t b C) w:=Yc k1 k2 h.gI h.gW vW IA h.tr h.rZ h.cs a
end
open Go Go.RowKit
def rR (S:zY->Prop)(w:zW)(v:zY):Prop:=∀g,v.ownBlock=aA g->∀cs e fr,w.heap[g]? =aA (aJ cs e fr)->∀x∈cs.toList,S x
def rR.of {S w v g cs e fr}(d:v.ownBlock=aA g)(f:w.heap[g]? =aA (aJ cs e fr))(h:∀x∈cs.toList,S x):rR S w v:=λk c j l i b=>by rw[d]at c;injection c with c;subst c;rw[f]at b;injection b with b;injection b with h1;subst h1;exact h
def rR.kept {S w w' v}(h:rR S w v)(c:∀g,v.ownBlock=aA g->w'.heap[g]? =w.heap[g]?):rR S w' v:=λg b cs e fr d=>h g b cs e fr (by rw[<-c g b];exact d)
def pP {S:zY->Prop}{z}(h:∀x∈z.toList,S x)(n):∀x∈(Builtin.zeroCells z n).toList,S x:=by
 intro x c;simp only[Builtin.zeroCells,zFx,Array.toList_range,zCi,zCb]at c;obtain⟨i,hi,rfl⟩:=c;have b:0<z.size:=by obtain b|b:=zEu z.size;{rw[b,Nat.mul_zero]at hi;omega};{exact b}
 have bT:=zGh i b;rw[zEf z _ bT];exact h _ (by simp)
section
variable {P:zZ}(w:zW)
def sJ (S:zY->Prop)(base)(t ty e)(i:TypeInfo)(z)(size bytes)(O:P.underlying t=aA (.slice e))(hi:P.info? e=aA i)(W:i.zero=aA z)
  (s:i.size=size) (U:i.bytes=bytes) (L:z.cells.size=size) (X:0<size) (M:∀x∈z.cells.toList,S x)
  (v) (n) (xs) (h:w.ownsRow base e size v n xs) (r:rR S w v)
  (a) (m c) (news) (hl:news.length=m*size) (p:∀j u,news[j]? =aA u->w.cell? (a.add j)=aA u) (h1:∀u∈news,u.oneCell'=aF) (D:∀u∈news,S u)
  (hm:0<m) (G:n+m<=maxLen) (q:(n+m)*bytes<=140737488355328) (B:base<=w.heap.size):
  ∃g cap H,(Builtin.append_ #[t,t] ty #[v,aK (aA a) m c]).run P w= .ok (aK (aA ⟨g,0,aB⟩) (n+m) cap) H/\H.ownsRow base e size (aK (aA ⟨g,0,aB⟩) (n+m) cap) (n+m) (xs++news)/\w.grownBy H v.ownBlock/\
   (v.ownBlock=aA g\/g=w.heap.size)/\rR S H (aK (aA ⟨g,0,aB⟩) (n+m) cap):=by
 subst s;subst U;have I:n+m<=9223372036854775807:=by simp only[maxLen]at G;omega
 have hlen:(xs++news).length=(n+m)*i.size:=by rw[zAc,h.1,hl,aFg]
 have N:∀x∈xs,S x:=by intro x b;obtain⟨_,h0⟩|⟨g,cap,cur,rfl,_,y,_,_,_,f⟩:=h.2;{have:=h.1;rw[h0,zFj]at this;rw[zBi this]at b;cases b};{rw[<-f]at b;exact r g rfl cur e (0,0) y x (zEl b)}
 have grown:∀(old:Nat),old<n+m->∀(row:Option Nat),
   (w.drew.alloc (aJ (xs.toArray++news.toArray++Builtin.zeroCells z.cells (grownCap w (n+m) old e-(n+m))) e)).ownsRow base e i.size
    (aK (aA ⟨w.heap.size,0,aB⟩) (n+m) (grownCap w (n+m) old e)) (n+m) (xs++news)/\
   w.grownBy (w.drew.alloc (aJ (xs.toArray++news.toArray++Builtin.zeroCells z.cells (grownCap w (n+m) old e-(n+m))) e)) row/\
   rR S (w.drew.alloc (aJ (xs.toArray++news.toArray++Builtin.zeroCells z.cells (grownCap w (n+m) old e-(n+m))) e)) (aK (aA ⟨w.heap.size,0,aB⟩) (n+m) (grownCap w (n+m) old e)):=by
  intro old ho row
  have R:=grownCap_ge w (n+m) old e
  have A:=grownCap_le_maxLen w (n+m) old e G
  refine⟨⟨hlen,aI ⟨w.heap.size,_,_,rfl,B,zGv w.drew _,R,A,?_,?_⟩⟩,⟨rfl,rfl,rfl,by simp,λk J _=>(by first|exact heap_alloc_old w.drew _ k J|exact heap_alloc_old w.drew _ J)⟩,rR.of rfl (zGv w.drew _) ?_⟩
  .simp only[zEp,zAn,size_zeroCells,L,h.1,hl,<-aFg];congr 1;omega
  .simp only[aEZ,zBp];rw[<-zBp,<-hlen];exact List.take_left
  .intro x b;simp only[aEZ,zAi]at b;obtain(b|b)|b:=b
   .exact N x b
   .exact D x b
   .exact pP M _ x b
 obtain⟨rfl,rfl⟩|⟨g,cap,cur,rfl,V,y,Y,A,T,f⟩:=h.2
 .have b:=zBi (by simpa using h.1);subst b;have C:=run_append_nil w t ty e i z O hi W a m c news hl p (by omega) (by omega) (by have Z:=q;simp only[zAz]at Z;omega);have d:=grown 0 (by omega) (Value.ownBlock (aK aB 0 0));simp only[zAz,zCk,zCf]at d⊢;exact⟨_,_,_,C,d.1,d.2.1,aI rfl,d.2.2⟩
 .by_cases l:n+m<=cap
  .have F:n*i.size+news.length<=cur.size:=by{rw[hl,T,<-aFg];exact aFh _ l};have C:=run_append_room w t ty e i O hi g n cap cur y a m c news hl p h1 l F;refine⟨_,_,_,C,⟨hlen,aI ⟨g,cap,_,rfl,V,setRow_heap w g cur _ e _ y,l,A,?_,?_⟩⟩,⟨rfl,rfl,rfl,by simp,λk _ J=>setRow_other w g k _ (λe=>J (by simp[Value.ownBlock,e]))⟩,aH rfl,rR.of rfl (setRow_heap w g cur _ e _ y) ?_⟩;{simp only[zAn,zAc,zBe,zCn,zCx];omega};{rw[f,<-hlen];exact List.take_left}
   .intro x b;simp only[zAi]at b;obtain(b|b)|b:=b
    .exact r g rfl cur e (0,0) y x (zEl b)
    .exact D x b
    .exact r g rfl cur e (0,0) y x (zEm b)
  .have holds:=h.cells rfl;have C:=run_append_grow w t ty e i z O hi W ⟨g,0,aB⟩ n cap xs h.1 holds a m c news hl p (by omega) (by omega) (growslice_fits (by omega) q);have d:=grown cap (by omega) (Value.ownBlock (aK (aA ⟨g,0,aB⟩) n cap));exact⟨_,_,_,C,d.1,d.2.1,aI rfl,d.2.2⟩
def JB (s ty elem)(i:TypeInfo)(z)(g o n cap)(cur)(t)
  (d:P.underlying s=aA (.slice elem)) (hi:P.info? elem=aA i) (c:i.zero=aA z) (j:0<n)
  (e:w.heap[g]? =aA (aJ cur t (0,0))) (h:o+n*z.cells.size<=cur.size) (f:∀v∈z.cells.toList,v.oneCell'=aF):
  (Builtin.clear_ #[s] ty #[aK (aA ⟨g,o,aB⟩) n cap]).run P w=
   .ok (.tuple #[]) (w.setRow g (cur.toList.take o++(Builtin.zeroCells z.cells n).toList++cur.toList.drop (o+n*z.cells.size)).toArray):=by
 have b:=run_storeCells_at P g o t (Builtin.zeroCells z.cells n).toList 0 cur w e (by simpa [size_zeroCells]using h) (pP f n);obtain⟨m,rfl⟩:∃m,n=m+1:=⟨n-1,by omega⟩;simp[Builtin.clear_,run_underlying d,zeroValue,typeInfo,hi,c,b,size_zeroCells]
end
section
variable {P:zZ}{w:zW}{ops:zQ}{rest:List Oper}{o:Oper}{a:Act}{K:Act->zW->Prop}{Q:zX}{E:Prop}
def IT (s x)(t b)(e:o.op= .call {callee:= .builtin .append,args:= #[s,x],argTypes:= #[t,b]})(v u)(hs:a.eval s=v)(c:a.eval x=u){v' w'}
  (d:(Builtin.append_ #[t,b] o.type #[v,u]).run P w= .ok v' w') (h:K (a.put o.dst v') w'):o.wp P a w K Q:=by
 unfold Oper.wp execOp;simp only[e,resolve,invoke,builtin,Sem.run_bind,Sem.run_pure,aE2,zFw,zDy,List.map_nil,hs,c,d];exact h
def AT (s x)(t b)(e:o.op= .call {callee:= .builtin .copy,args:= #[s,x],argTypes:= #[t,b]})(v u)(hs:a.eval s=v)(c:a.eval x=u){v' w'}
  (d:(Builtin.copy_ #[t,b] o.type #[v,u]).run P w= .ok v' w') (h:K (a.put o.dst v') w'):o.wp P a w K Q:=by
 unfold Oper.wp execOp;simp only[e,resolve,invoke,builtin,Sem.run_bind,Sem.run_pure,aE2,zFw,zDy,List.map_nil,hs,c,d];exact h
def Iv (c:o.guard=aB)(s x:Operand)(t b:zD)(f:o.op= .call {callee:= .builtin .copy,args:= #[s,x],argTypes:= #[t,b]})(v u:zY)(hs:a.eval s=v)(d:a.eval x=u){v':zY}{w':zW}
  (e:(Builtin.copy_ #[t,b] o.type #[v,u]).run P w= .ok v' w') (h:wpList P ops Q rest (a.put o.dst v') w'):wpList P ops Q (o::rest) a w:=
 wpList_plain c λ_ g=>AT s x t b f v u hs d e (g _ _ h)
def jE (c:o.guard=aB)(s x)(t b)(g:o.op= .call {callee:= .builtin .append,args:= #[s,x],argTypes:= #[t,b]})(v u)(hs:a.eval s=v)(d:a.eval x=u){v' w'}
  (f:(Builtin.append_ #[t,b] o.type #[v,u]).run P w= .ok v' w') (h:K (a.put o.dst v') w'):if Region.wanted o (yielded ops a.tmps)=aF then Oper.wp P o a w K Q else E:=by
 have e:Region.wanted o (yielded ops a.tmps)=aF:=by simp[Region.wanted,c]
 rw[zAv e];exact IT s x t b g v u hs d f h
def Px (c:o.guard=aB)(s x)(t b)(g:o.op= .call {callee:= .builtin .copy,args:= #[s,x],argTypes:= #[t,b]})(v u)(hs:a.eval s=v)(d:a.eval x=u){v' w'}
  (f:(Builtin.copy_ #[t,b] o.type #[v,u]).run P w= .ok v' w') (h:K (a.put o.dst v') w'):if Region.wanted o (yielded ops a.tmps)=aF then Oper.wp P o a w K Q else E:=by
 have e:Region.wanted o (yielded ops a.tmps)=aF:=by simp[Region.wanted,c]
 rw[zAv e];exact AT s x t b g v u hs d f h
end
def over (c:zV)(o:Nat)(a:zV):zV:=c.take o++a++c.drop (o+a.length)
def lT {c o news}(h:o+news.length<=c.length):(over c o news).length=c.length:=by unfold over;simp only[zAc,zBe,zCn];omega
def Lh {c o news}(h:o+news.length<=c.length){m}(a:m<=o):(over c o news).take m=c.take m:=by unfold over;rw[zBp,zFv (by rw[zBe];omega),List.take_take,aFi a]
def Fp {c o news}(h:o+news.length<=c.length){m}(a:m=o+news.length):(over c o news).take m=c.take o++news:=by unfold over;rw[zFv (by rw[zAc,zBe];omega),zCm (by rw[zAc,zBe];omega)]
def SK {c o news x}(h:x∈over c o news):x∈c\/x∈news:=by
 obtain h|h:=zAi.1 h
 .obtain h|h:=zAi.1 h
  .exact aH (zEl h)
  .exact aI h
 .exact aH (zEm h)
def SL {c xs zs p q m}(h:c.take m=xs)(i:p+q<=m)(j:m<=c.length)(f:zs.length=q):
  (over (over c p (xs.drop (p+q))) (m-q) zs).take (m-q)=xs.take p++xs.drop (p+q):=by
 have b:xs.length=m:=by rw[<-h,zBe];omega
 have a:p+(xs.drop (p+q)).length<=c.length:=by rw[zCn];omega
 have d:m-q+zs.length<=(over c p (xs.drop (p+q))).length:=by rw[lT a];omega
 rw[Lh d (zAb _),Fp a (by rw[zCn];omega)];congr 1;rw[<-h,List.take_take,aFi (by omega)]
def dZ (S:zY->Prop)(w:zW)(base:Nat)(e:zD)(size:Nat)(v:zY)(n:Nat)(xs:zV):Prop:=w.ownsRow base e size v n xs/\rR S w v
section
variable {S:zY->Prop}{w w':zW}{base:Nat}{e:zD}{size:Nat}{v:zY}{n g cap:Nat}{xs:zV}
def dZ.kept (h:dZ S w base e size v n xs)(b:∀g,v.ownBlock=aA g->w'.heap[g]? =w.heap[g]?):dZ S w' base e size v n xs:=by
 refine⟨?_,h.2.kept b⟩;obtain⟨⟨d,a⟩,_⟩:=h;refine⟨d,?_⟩;obtain a|⟨g,cap,cur,rfl,hb,c,r⟩:=a
 .exact aH a
 .exact aI ⟨g,cap,cur,rfl,hb,by rw[b g rfl];exact c,r⟩
def dZ.lt (h:dZ S w base e size v n xs):∀k,v.ownBlock=aA k->base<=k/\k<w.heap.size:=World.ownsRow.lt h.1
def dZ.below {B:Nat}(h:dZ S w base e size v n xs)(b:Below B w w')(c:w.heap.size<=B):dZ S w' base e size v n xs:=
 h.kept λg a=>b.block g (zAd (h.lt g a).2 c)
def dZ.alloc (h:dZ S w base e size v n xs)(o):dZ S (w.alloc o) base e size v n xs:=h.kept λg a=>by first|exact heap_alloc_old w o g (h.lt g a).2|exact heap_alloc_old w o (h.lt g a).2
def dZ.row (h:dZ S w base e size (aK (aA ⟨g,0,aB⟩) n cap) n xs):
  ∃c:zA,w.heap[g]? =aA (aJ c e (0,0))/\base<=g/\n<=cap/\cap<=maxLen/\c.size=cap*size/\c.toList.take (n*size)=xs/\∀x∈c.toList,S x:=by
 obtain⟨e,_⟩|⟨l,d,c,e,hb,b,h1,j,i,f⟩:=h.1.2
 .cases e
 .injection e with a _ k;iterate 2 (injection a with a)
  subst a k;exact⟨c,b,hb,h1,j,i,f,h.2 g rfl c _ _ b⟩
def dZ.of (cur:zA)(hh:w.heap[g]? =aA (aJ cur e (0,0)))(c:base<=g)(b:n<=cap)(f:cap<=maxLen)(a:cur.size=cap*size)(h:cur.toList.take (n*size)=xs)(d:∀x∈cur.toList,S x):
  dZ S w base e size (aK (aA ⟨g,0,aB⟩) n cap) n xs:=
 ⟨⟨by rw[<-h,zBe,zCx,a];exact aFi (aFh _ b),aI ⟨g,cap,cur,rfl,c,hh,b,f,a,h⟩⟩,rR.of rfl hh d⟩
end
def iD (w:zW)(g)(cs):w.grownBy (w.setRow g cs) (aA g):=⟨rfl,rfl,rfl,by simp,λk _ h=>setRow_other w g k _ (λe=>h (by rw[e]))⟩
def xQ (w:zW)(row:Option Nat):w.grownBy w row:=⟨rfl,rfl,rfl,zAb _,λ_ _ _=>rfl⟩
def OM (w:zW)(row):w.grownBy w.drew row:=⟨rfl,rfl,rfl,zAb _,λ_ _ _=>rfl⟩
def OJ {t z s b}(h:(zq.info? t).map (λi=>(i.zero,i.size,i.bytes))=aA (aA z,s,b)):∃i,zq.info? t=aA i/\i.zero=aA z/\i.size=s/\i.bytes=b:=by
 cases a:zq.info? t with
 |none=>rw[a]at h;cases h
 |some i=>rw[a]at h;simp only[zBf,aEr,aFj]at h;exact⟨i,rfl,h.1,h.2.1,h.2.2⟩
def Cw {S:zY->Prop}{ts e:zD}{it:TypeInfo}{z:zY}(d:zq.underlying ts=aA (.slice e))(ti:zq.info? e=aA it)(Q:it.zero=aA z)(C:it.size=1)(l:z.cells.size=1)(y:∀x,S x->x.oneCell'=aF)(A:∀x∈(Value.cells z).toList,S x)(base g n cap c:Nat)(xs:zV)(w:zW)(J:dZ S w base e 1 (aK (aA ⟨g,0,aB⟩) n cap) n xs)(H:1<=c)(T:c<=n):
  n<=cap/\cap<=maxLen/\∃W k,(∀ty,(Builtin.append_ #[ts,ts] ty #[aK (aA ⟨g,0,aB⟩) 0 cap,aK (if cap=c then aA ⟨g,0,aB⟩else aA ⟨g,c,aB⟩) (n-c) (cap-c)]).run zq w.drew= .ok (aK (aA ⟨g,0,aB⟩) (n-c) cap) W)/\(∀ty,(Builtin.clear_ #[ts] ty #[aK (aA ⟨g,n-c,aB⟩) c (cap-(n-c))]).run zq W= .ok (.tuple #[]) k)/\
   dZ S k base e 1 (aK (aA ⟨g,0,aB⟩) (n-c) cap) (n-c) (xs.drop c)/\w.grownBy k (aA g):=by
 obtain⟨b,F,U,O,N,M,B,L⟩:=J.row;have E:xs.length=n:=by have:=J.1.1;rw[zEa]at this;exact this
 rw[zEa]at M B;have i:b.toList.length=cap:=by rw[zCx,M]
 have t:∀x∈xs,S x:=λx f=>L x (zEl (by rw[B];exact f));have K:(xs.drop c).length=n-c:=by rw[zCn,E]
 have h:0+(xs.drop c).length<=b.toList.length:=by rw[K,i];omega
 obtain⟨W,s⟩:∃W,W=w.drew.setRow g (over b.toList 0 (xs.drop c)).toArray:=⟨_,rfl⟩;have v:W.heap[g]? =aA (aJ (over b.toList 0 (xs.drop c)).toArray e (0,0)):=by rw[s];exact setRow_heap w.drew g b _ e _ F
 have R:∀ty,(Builtin.append_ #[ts,ts] ty #[aK (aA ⟨g,0,aB⟩) 0 cap,aK (if cap=c then aA ⟨g,0,aB⟩else aA ⟨g,c,aB⟩) (n-c) (cap-c)]).run zq w.drew= .ok (aK (aA ⟨g,0,aB⟩) (n-c) cap) W:=λty=>by
  rw[s];have:=λa c' V=>run_append_room (P:=zq) w.drew ts ty e it d ti g 0 cap b F a (n-c) c' (xs.drop c) (by rw[K,C,zEa]) V (λu d=>y u (t u (zEm d))) (by omega) (by rw[zFj,<-zCx];exact h);rw[zFj,zAz]at this;by_cases I:cap=c;{rw[zAv I];refine this _ _ λj u d=> ?_;have:=(zAx.1 d).1;omega}
  .rw[zAt I];refine this _ _ λj u d=> ?_;rw[Addr.add_lit,zHb w.drew g _ b e (0,0) F,<-zBt];rw[zEh,<-B,zCr]at d;split at d
   .exact d
   .cases d
 obtain⟨k,r⟩:∃k,k=W.setRow g (over (over b.toList 0 (xs.drop c)) (n-c) (Builtin.zeroCells (Value.cells z) c).toList).toArray:=⟨_,rfl⟩;have o:(Builtin.zeroCells (Value.cells z) c).toList.length=c:=by rw[zCx,size_zeroCells,l,zEa]
 have G:∀ty,(Builtin.clear_ #[ts] ty #[aK (aA ⟨g,n-c,aB⟩) c (cap-(n-c))]).run zq W= .ok (.tuple #[]) k:=λty=>by
  have:=JB (P:=zq) W ts ty e it z g (n-c) c (cap-(n-c)) _ e d ti Q H v (by rw[l,zEa,zAn,lT h,i];omega) (λu d=>y u (A u d))
  rw[this,r];congr 2;show(List.take (n-c) _++_++_).toArray=_;unfold over;rw[o,l,zEa]
 have D:n-c+(Builtin.zeroCells (Value.cells z) c).toList.length<=(over b.toList 0 (xs.drop c)).length:=by rw[lT h,i,o];omega
 refine⟨O,N,W,k,R,G,dZ.of _ (by rw[r];exact setRow_heap W g _ _ e _ v) U (by omega) N ?_ ?_ ?_,?_⟩
 .rw[zAn,lT D,lT h,i,zEa]
 .have:=SL (c:=b.toList) (xs:=xs) (zs:=(Builtin.zeroCells (Value.cells z) c).toList) (p:=0) (q:=c) (m:=n) B (by omega) (by rw[i];exact O) o;rw[zEa];simpa using this
 .intro x f;obtain f|f:=SK f
  .obtain f|f:=SK f
   .exact L x f
   .exact t x (zEm f)
  .exact pP A c x f
 .rw[r,s];exact((OM w (aA g)).trans (iD _ _ _)).trans (iD _ _ _)
def Nv {S:zY->Prop}(a:∀x,S x->x.oneCell'=aF)(d:∀x∈(Value.cells (aL ⟨#[]⟩)).toList,S x)(base g n cap c:Nat)(xs:zV)(w:zW)(i:dZ S w base 9 1 (aK (aA ⟨g,0,aB⟩) n cap) n xs)(I:n<=1000000)(m:c<=n):
  Calls zq 65 #[aK (aA ⟨g,0,aB⟩) n cap,aC aD 0,aC aD c] w λe p=>e=aM (aK (aA ⟨g,0,aB⟩) (n-c) cap)/\dZ S p base 9 1 (aK (aA ⟨g,0,aB⟩) (n-c) cap) (n-c) (xs.drop c)/\w.grownBy p (aA g):=by
 obtain⟨G,r,_,J,F,_⟩:=i.row;have i2:(n:Int)<=(cap:Int):=by omega
 have i3:(cap:Int)<=9223372036854775807:=by simp only[maxLen]at F;omega
 have C:(0:Int)<=(c:Int):=by omega
 have B:(c:Int)<=(n:Int):=by omega
 by_cases E:c=0
 .subst E;have k:Hid (dZ S w base 9 1 (aK (aA ⟨g,0,aB⟩) n cap) n xs):=i;clear i a d r;go_enter (Qz.fn func65),ntmps65;go_wp2;go_ret;exact⟨rfl,k.out,xQ w _⟩
 .obtain⟨it,ti,q,f,l⟩:=OJ (t:=9) (z:=(aL ⟨#[]⟩)) (s:=1) (b:=16) (by kernel_rfl);obtain⟨_,_,K,W,y,D,j,H⟩:=Cw ((Qz.eZ 82).trans underlying82) ti q f rfl a d base g n cap c xs w i (by omega) m;have k:Hid (dZ S W base 9 1 (aK (aA ⟨g,0,aB⟩) (n-c) cap) (n-c) (xs.drop c)):=j;have v:Hid (w.grownBy W (aA g)):=H;have A:c<=cap:=by{omega};have o:¬((0:Int)=(c:Int)):=by{omega};have u:((0:Int)==(c:Int))=aG:=by{simpa using o};have i5:n-(n-c)=c:=by{omega};have i6:¬(cap=n-c):=by{omega};have i7:(0:Int)<=((n-c:Nat):Int):=by{omega};have i8:((n-c:Nat):Int)<=(n:Int):=by{omega};have i9:((n-c:Nat):Int).toNat=n-c:=by{omega};clear i a d q f l ti j H r;go_enter (Qz.fn func65),ntmps65;go_wp2_with fail;go_region_law (refine jE rfl _ _ 82 82 rfl _ _ (by simp[Act.eval,Act.put]) (by simp[Act.eval,Act.put]) (y _) ?_);go_wp2;{rename_i h;subst h;go_ret;exact⟨rfl,k.out,v.out⟩};{go_ret;exact⟨rfl,k.out,v.out⟩}
def Nw {S:zY->Prop}(a:∀x,S x->x.oneCell'=aF)(d:∀x∈(Value.cells (.pointer aB)).toList,S x)(base g n cap c:Nat)(xs:zV)(w:zW)(i:dZ S w base 264 1 (aK (aA ⟨g,0,aB⟩) n cap) n xs)(I:n<=1000000)(m:c<=n):
  Calls zq 220 #[aK (aA ⟨g,0,aB⟩) n cap,aC aD 0,aC aD c] w λe p=>e=aM (aK (aA ⟨g,0,aB⟩) (n-c) cap)/\dZ S p base 264 1 (aK (aA ⟨g,0,aB⟩) (n-c) cap) (n-c) (xs.drop c)/\w.grownBy p (aA g):=by
 obtain⟨G,r,_,J,F,_⟩:=i.row;have i2:(n:Int)<=(cap:Int):=by omega
 have i3:(cap:Int)<=9223372036854775807:=by simp only[maxLen]at F;omega
 have C:(0:Int)<=(c:Int):=by omega
 have B:(c:Int)<=(n:Int):=by omega
 by_cases E:c=0
 .subst E;have k:Hid (dZ S w base 264 1 (aK (aA ⟨g,0,aB⟩) n cap) n xs):=i;clear i a d r;go_enter (Qz.fn func220),ntmps220;go_wp2;go_ret;exact⟨rfl,k.out,xQ w _⟩
 .obtain⟨it,ti,q,f,l⟩:=OJ (t:=264) (z:=(.pointer aB)) (s:=1) (b:=8) (by kernel_rfl);obtain⟨_,_,K,W,y,D,j,H⟩:=Cw ((Qz.eZ 166).trans underlying166) ti q f rfl a d base g n cap c xs w i (by omega) m;have k:Hid (dZ S W base 264 1 (aK (aA ⟨g,0,aB⟩) (n-c) cap) (n-c) (xs.drop c)):=j;have v:Hid (w.grownBy W (aA g)):=H;have A:c<=cap:=by{omega};have o:¬((0:Int)=(c:Int)):=by{omega};have u:((0:Int)==(c:Int))=aG:=by{simpa using o};have i5:n-(n-c)=c:=by{omega};have i6:¬(cap=n-c):=by{omega};have i7:(0:Int)<=((n-c:Nat):Int):=by{omega};have i8:((n-c:Nat):Int)<=(n:Int):=by{omega};have i9:((n-c:Nat):Int).toNat=n-c:=by{omega};clear i a d q f l ti j H r;go_enter (Qz.fn func220),ntmps220;go_wp2_with fail;go_region_law (refine jE rfl _ _ 166 166 rfl _ _ (by simp[Act.eval,Act.put]) (by simp[Act.eval,Act.put]) (y _) ?_);go_wp2;{rename_i h;subst h;go_ret;exact⟨rfl,k.out,v.out⟩};{go_ret;exact⟨rfl,k.out,v.out⟩}
def iX (w:zW)(t b:Nat):zP:=λx=>x=t\/x=b\/eC w x
section
variable {w w1 w':zW}{t k room b cap n:Nat}{S:List (List bK)}{C C':zP}{cur:zA}{x1 x4 c:Int}{p:Option Nat}{all:List (Nat×ByteArray)}{F:zP}
def dI.hl (a:Hl t w w'):dI (iX w t b) w w':=⟨a.os,a.tape,a.output,a.size,λx m l=>a.block x m (λe=>l (aH e)) λz o i v g f j=>l (aI (aI ⟨z,o,i,v,g,f,j⟩)),λb z o i v g f j=>⟨by obtain⟨d,h⟩:=a.cell b z o i v g f j;exact⟨g,d,h,λ_=>rfl⟩,a.thaw b⟩⟩
def dI.Tp (a:JR all w w')(d:∀x∈all,∃z o i v hs,aY w x.1 z o i v [] hs):dI (iX w t b) w w':=⟨a.os,a.tape,a.output,a.size,λx j r=>a.block x j λy m e=>r (aI (aI (by obtain⟨z,o,i,v,hs,f⟩:=d y m;exact e▸⟨z,o,i,v,[],hs,f⟩))),λb z o i v g hs f=>⟨by
 obtain⟨u,h⟩:=a.cell b z o i v g hs f;refine⟨u,hs,h,λs=> ?_⟩;have e:=a.block b f.lt λx j e=>by obtain⟨A,D,E,B,q,l⟩:=d x j;subst e;exact s (fC f l).2.2.2.2.1
 exact(fC h (f.same e)).2.2.2.2.1,a.thaw b⟩⟩
def dI.step {b'}(h:dI (iX w t b) w w1)(g:dI (iX w1 t b') w1 w')(d:b'=b\/w.heap.size<=b'):dI (iX w t b) w w':=h.then g λx a bT f e=>by
 obtain a|a|a:=a
 .exact f (aH a)
 .obtain d|d:=d
  .exact f (aI (aH (a.trans d)))
  .omega
 .exact f (aI (aI (a.same e.symm)))
def Ld {x}(h:oH C x):x.oneCell'=aF:=by obtain⟨p,rfl,_⟩:=h;cases p<;>rfl
def KS:∀x∈(Value.cells (.pointer aB)).toList,oH C x:=λx h=>by simp[Value.cells]at h;subst h;exact⟨aB,rfl,λb e=>by cases e⟩
def Dv (v:w.heap[b]? =aA (aJ cur 264 (0,0)))(G:n<=cap)(g:cap<=maxLen)(D:cur.size=cap)(h:∀x∈cur.toList,oH C x)(hl:n<1000)(E:∀b,p=aA b->C b){vb}(B:w.heap[vb]? =aA (aJ #[ptr p] 264 (0,0))):
  ∃f a W d,(∀ty,(Builtin.append_ #[166,166] ty #[aK (aA ⟨b,0,aB⟩) n cap,aK (aA ⟨vb,0,aB⟩) 1 1]).run zq w= .ok (aK (aA ⟨f,0,aB⟩) (n+1) a) W)/\w.grownBy W (aA b)/\(f=b\/f=w.heap.size)/\
   W.heap[f]? =aA (aJ d 264 (0,0))/\n+1<=a/\a<=maxLen/\d.size=a/\(∀x∈d.toList,oH C x)/\d.toList.take (n+1)=cur.toList.take n++[ptr p]:=by
 obtain⟨it,ti,A,i,l⟩:=SD;have y:dZ (oH C) w b 264 1 (aK (aA ⟨b,0,aB⟩) n cap) n (cur.toList.take n):=by have:=dZ.of cur v (zAb _) G g (size:=1) (by omega) (by rw[zEa]) h;exact this
 have s:=(zAa.1 v).1;have H:=λty=>sJ w (oH C) b 166 ty 264 it _ 1 8 ((Qz.eZ 166).trans underlying166) ti A i l rfl (by omega) KS _ n _ y.1 y.2 ⟨vb,0,aB⟩ 1 1 [ptr p] rfl (λj u I=>by rw[addr_add,zAz,zHb w vb j _ 264 (0,0) B];simpa using I) (λu m=>by rw[zAs.1 m];cases p<;>rfl) (λu m=>by rw[zAs.1 m];exact⟨p,rfl,E⟩) (Nat.succ_pos _) (by simp only[maxLen];omega) (by omega) (by omega)
 obtain⟨f,a,W,M,L,r,q,J⟩:=H 0;have K:=r;have o:dZ (oH C) W b 264 1 (aK (aA ⟨f,0,aB⟩) (n+1) a) (n+1) (cur.toList.take n++[ptr p]):=⟨L,J⟩;obtain⟨d,Q,T,P,O,R,z,N⟩:=o.row;refine⟨f,a,W,d,λty=>M,K,?_,Q,P,O,by omega,N,by rw[zEa]at z;exact z⟩;obtain e|e:=q
 .exact aH (zAk e).symm
 .exact aI e
def QC (k:Nat)(w:zW)(cur:zA)(S:List (List bK)):Prop:=∀(i:Nat) us,S[i]? =aA us->∃p,cur[i]? =aA (ptr p)/\eO k w p us 0
def NV {cur:zA}(a:∀x∈cur.toList,oH C x){i:Nat}{p}(h:cur[i]? =aA (ptr p)):∀b,p=aA b->C b:=λb g=>by
 obtain⟨d,e,f⟩:=a _ (by rw[zDo];exact zBg h);subst g;cases d with
 |none=>cases e
 |some j=>cases e;exact f _ rfl
def QC.hl (e:1<=k)(a:k<=32)(h:QC k w cur S)(d:Hl t w w'):QC k w' cur S:=λi us hi=>by obtain⟨p,g,f⟩:=h i us hi;exact⟨p,g,f.hl e a d⟩
def QC.kept (h:QC k w cur S)(f:CS w C)(a:∀x∈cur.toList,oH C x)(d:∀x,C x->w'.heap[x]? =w.heap[x]?):QC k w' cur S:=λi us hi=>by obtain⟨p,e,g⟩:=h i us hi;exact⟨p,e,g.kept f (NV a e) d⟩
def Jm {a us}(h:QC k w cur S)(hl:S.length<=cur.size)(g:a.toList.take (S.length+1)=cur.toList.take S.length++[ptr p])(l:eO k w p us 0):QC k w a (S++[us]):=λi u hi=>by
 have d:∀(j:Nat),j<S.length+1->a[j]? =(cur.toList.take S.length++[ptr p])[j]? :=λj o=>by rw[<-g,zCr,zAv (by omega),zBt]
 have f:(cur.toList.take S.length).length=S.length:=by rw[zBe,show cur.toList.length=cur.size from zCx ..];omega
 by_cases e:i<S.length
 .rw[zCh e]at hi;obtain⟨q,d1,m⟩:=h i u hi;refine⟨q,?_,m⟩;rw[d i (by omega),zCh (by omega),zCr,zAv e,zBt];exact d1
 .have bT:=(zAx.1 hi).1;rw[zAc]at bT;simp only[zDs]at bT;obtain rfl:i=S.length:=by{omega};rw[zBh (zAb _),zFq]at hi;simp only[zCw,aEr]at hi;subst hi;refine⟨p,?_,l⟩;rw[d _ (by omega),zBh (by omega),f,zFq];rfl
def cS.mem (h:cS w t k room b cap S):∃C cur R c,kC k t b cap S.length C cur (R:Nat) (oT S).length c w/\(∀x∈cur.toList,oH C x)/\QC k w cur S/\S.length<=cap/\cap<=maxLen/\cur.size=cap/\c+room<=R/\R<=1000000/\-(1000000*((R)-room))<=c:=by obtain⟨C,cur,c1,c2,c3,c4,c5,c6,a⟩:=h.row;obtain⟨R,c,d1,d,d3,d4⟩:=h.at';exact⟨C,cur,R,c,⟨h.gI,h.gW,d1,c1,c5⟩,c6,a,c2,c3,c4,d,d3,d4⟩
def kC.uX {R:Nat}(h:kC k t b cap S.length C cur (R:Nat) (oT S).length c w)(a:∀x∈cur.toList,oH C x)(f:QC k w cur S)(hl:S.length<=cap)(d:cap<=maxLen)(e:cur.size=cap)(g:c+room<=R)(d3:R<=1000000)(d4: -(1000000*((R:Int)-room))<=c)(k1:1<=k)(k2:k<=32)(vW:zq.globals.size<t)(IA:zq.globals.size<b)(st:∀us∈S,CY us/\us.length<=400)(len:S.length<=1000)(one:0<S.length):cS w t k room b cap S:=
 ⟨k1,k2,h.gI,h.gW,vW,IA,⟨R,c,h.tr,g,d3,d4⟩,⟨C,cur,h.rZ,hl,d,e,h.cs,a,f⟩,st,len,one⟩
def kC.vC {b' cap' n':Nat}{i:zA}{W:zW}(h:kC k t b cap n C cur x1 x4 c w)(D:zq.globals.size<t)(E:zq.globals.size<b)(j:w.grownBy W (aA b))(q:W.heap[b']? =aA (aJ i 264 (0,0))):
  kC k t b' cap' n' C i x1 x4 c (W.setCell ⟨t,3,aB⟩ (aK (aA ⟨b',0,aB⟩) n' cap'))/\(∀x,eC w x->(W.setCell ⟨t,3,aB⟩ (aK (aA ⟨b',0,aB⟩) n' cap')).heap[x]? =w.heap[x]?)/\dI (iX w t b) w (W.setCell ⟨t,3,aB⟩ (aK (aA ⟨b',0,aB⟩) n' cap')):=by
 have u:=h.tr.lt;have v:t≠b:=λe=>by have l:=h.rZ;have s:=h.tr;unfold cW at s;rw[<-e,s]at l;injection l with l;injection l with _ A;revert A;decide
 have r:cW W t (aC aD k) (aC aD x1) (aL ⟨(dg k [0]).toArray⟩) (aK (aA ⟨b,0,aB⟩) n cap) (aC aD x4) c:=(j.block t u (λe=>v (zAk e))).trans h.tr;have y:b'≠t:=λe=>by unfold cW at r;rw[e,r]at q;injection q with q;injection q with _ A;revert A;decide
 obtain⟨V,g⟩:∃V,V=W.setCell ⟨t,3,aB⟩ (aK (aA ⟨b',0,aB⟩) n' cap'):=⟨_,rfl⟩;have m:V.heap.size=W.heap.size:=by rw[g];simp[World.setCell]
 have d:∀x,x<w.heap.size->x≠b->x≠t->V.heap[x]? =w.heap[x]? :=λx f l s=>by rw[g,zGr _ _ _ _ s];exact j.block x f (λe=>l (zAk e))
 have a:∀x,eC w x->V.heap[x]? =w.heap[x]? :=λx f=>d x f.lt (f.ne h.rZ (by decide)) (f.ne h.tr (by decide));have o:∀x,x<=zq.globals.size->V.heap[x]? =w.heap[x]? :=λx f=>d x (by omega) (by omega) (by omega);have z:cW V t (aC aD k) (aC aD x1) (aL ⟨(dg k [0]).toArray⟩) (aK (aA ⟨b',0,aB⟩) n' cap') (aC aD x4) c:=by rw[g];unfold cW at r⊢;rw[eF r 3];rfl
 rw[<-g];refine⟨⟨h.gI.kept o,h.gW.kept (by rw[m];exact j.size) o,z,by rw[g,zGr _ _ _ _ y];exact q,h.cs.kept λx f=>a x (h.cs.cell f)⟩,a,?_⟩;refine⟨?_,?_,?_,by rw[m];exact j.size,λx f B=>d x f (λe=>B (aI (aH e))) (λe=>B (aH e)),.same a⟩
 .rw[g];exact j.os
 .rw[g];exact j.tape
 .rw[g];exact j.output
def kC.sized (h:kC k t b cap n C cur x1 x4 c w)(y:zq.globals.size<t)(a:Int):
  kC k t b cap n C cur x1 a c (w.setCell ⟨t,4,aB⟩ (aC aD a))/\(∀x,eC w x->(w.setCell ⟨t,4,aB⟩ (aC aD a)).heap[x]? =w.heap[x]?)/\dI (iX w t b) w (w.setCell ⟨t,4,aB⟩ (aC aD a)):=by
 have s:=h.tr.lt;have f:∀x,x≠t->(w.setCell ⟨t,4,aB⟩ (aC aD a)).heap[x]? =w.heap[x]? :=λx l=>zGr _ _ _ _ l;have g:(w.setCell ⟨t,4,aB⟩ (aC aD a)).heap.size=w.heap.size:=by simp[World.setCell]
 have d:∀x,eC w x->(w.setCell ⟨t,4,aB⟩ (aC aD a)).heap[x]? =w.heap[x]? :=λx j=>f x (j.ne h.tr (by decide));have i:∀x,x<=zq.globals.size->(w.setCell ⟨t,4,aB⟩ (aC aD a)).heap[x]? =w.heap[x]? :=λx j=>f x (by omega);have q:cW (w.setCell ⟨t,4,aB⟩ (aC aD a)) t (aC aD k) (aC aD x1) (aL ⟨(dg k [0]).toArray⟩) (aK (aA ⟨b,0,aB⟩) n cap) (aC aD a) c:=by have r:=h.tr;unfold cW at r⊢;rw[eF r 4];rfl
 have o:b≠t:=λe=>by have m:=h.rZ;have l:=h.tr;unfold cW at l;rw[e,l]at m;injection m with m;injection m with _ v;revert v;decide
 exact⟨⟨h.gI.kept i,h.gW.kept (by rw[g];exact zAb _) i,q,(f b o).trans h.rZ,h.cs.kept λx j=>d x (h.cs.cell j)⟩,d,⟨rfl,rfl,rfl,by rw[g];exact zAb _,λx _ u=>f x λe=>u (aH e),.same d⟩⟩
def FT (S)(us):oT (S++[us])=us:=by unfold oT;rw[List.getLast?_concat];rfl
end
section
variable {w:zW}{t k room b cap n:Nat}{S:List (List bK)}
def ZK (h:cS w t k (room+n) b cap S)(hS:n<S.length):
  Calls zq 214 #[aO (aA ⟨t,0,aB⟩),aC aD n] w λe o=>e=aM (.tuple #[])/\cS o t k room b cap (S.drop n)/\dI (iX w t b) w o:=by
 obtain⟨C,d,R,c,hM,f,D,g1,g2,g3,g4,g5,g6⟩:=h.mem;have h1:=h.k1;have hk:=h.k2;have Q:=h.vW;have hb:=h.IA;have hlen:=h.len;have s:=h.st;have P:t≠b:=h.tb;have M:Hid (∀W c' (j:Nat),kC k t b cap S.length C d R (oT S).length c' W->QC k W d S->dI (iX w t b) w W->c-102800*(j:Int)<=c'->c'<=c->j<n->∃N,W.cell? ⟨b,j,aB⟩=aA N/\W.cell? ⟨t,3,aB⟩=aA (aK (aA ⟨b,0,aB⟩) S.length cap)/\Calls zq 219 #[aO (aA ⟨t,0,aB⟩),N] W λe o=>e=aM (.tuple #[])/\∃c2,kC k t b cap S.length C d R (oT S).length c2 o/\QC k o d S/\dI (iX w t b) w o/\c-102800*((j+1:Nat):Int)<=c2/\c2<=c):=λW c' j a l r l1 l2 hj=>by obtain⟨us,z⟩:∃us,S[j]? =aA us:=⟨_,zAh (by omega)⟩;obtain⟨p,B,hr⟩:=l j us z;obtain⟨m,hm,T⟩:=hr.TX a.cs (NV f B) (zBs _);have hu:=(s us (zDe z)).2;have jh:m<=102800:=by{have:m<=257*us.length:=T;omega};refine⟨ptr p,by rw[bC a.rZ];exact B,(bC a.tr 3).trans rfl,(LO hm W _ _ _ _ _ c' .refl a.tr (by omega) (by omega)).1.mono λe o ⟨e1,hH,c2,Z,k1,k2⟩=>⟨e1,c2,a.hl hH Q Z (a.cs.hl hH),l.hl h1 hk hH,r.step (.hl hH) (aH rfl),by omega,by omega⟩⟩
 have J:Hid (∀W c',kC k t b cap S.length C d R (oT S).length c' W->QC k W d S->dI (iX w t b) w W->c-102800*(n:Int)<=c'->c'<=c->W.cell? ⟨t,3,aB⟩=aA (aK (aA ⟨b,0,aB⟩) S.length cap)/\Calls zq 220 #[aK (aA ⟨b,0,aB⟩) S.length cap,aC aD 0,aC aD n] W λe I=>e=aM (aK (aA ⟨b,0,aB⟩) (S.length-n) cap)/\(∃x,I.cell? ⟨t,3,aB⟩=aA x)/\I.frozen? ⟨t,3,aB⟩=aG/\cS (I.setCell ⟨t,3,aB⟩ (aK (aA ⟨b,0,aB⟩) (S.length-n) cap)) t k room b cap (S.drop n)/\dI (iX w t b) w (I.setCell ⟨t,3,aB⟩ (aK (aA ⟨b,0,aB⟩) (S.length-n) cap))):=λW c' a l r l1 l2=>by
  refine⟨(bC a.tr 3).trans rfl,?_⟩;have hO:dZ (oH C) W b 264 1 (aK (aA ⟨b,0,aB⟩) S.length cap) S.length (d.toList.take S.length):=by have:=dZ.of (S:=oH C) (n:=S.length) d a.rZ (zAb _) g1 g2 (size:=1) (by omega) (by rw[zEa]) f;exact this
  refine(Nw (S:=oH C) (λx O=>Ld O) KS b b S.length cap n _ W hO (by omega) (by omega)).mono ?_;rintro e I ⟨rfl,h2,h3⟩;obtain⟨g,e1,e2,e3,e4,e5,e6,e7⟩:=dZ.row h2;obtain⟨yc,y,A⟩:=a.vC (cap':=cap) (n':=S.length-n) Q hb h3 e1;have E:=(h3.block t a.tr.lt (λe=>P (zAk e))).trans a.tr;have X:(S.drop n).length=S.length-n:=zCn ..;have U:oT (S.drop n)=oT S:=by unfold oT;rw[List.getLast?_drop,zAt (by omega)]
  refine⟨rfl,⟨_,(bC E 3).trans rfl⟩,cT E 3,kC.uX (R:=R) (C:=C) (cur:=g) (c:=c') (by rw[X,U];exact yc) e7 (λi u hi=> ?_) (by omega) g2 (by omega) (by omega) g5 (by omega) h1 hk Q hb (λu hu=>s u (zEm hu)) (by omega) (by omega),r.step A (aH rfl)⟩;rw[zEh]at hi;have bT:=(zAx.1 hi).1;obtain⟨q,d1,d2⟩:=l (n+i) u hi;refine⟨q,?_,d2.kept a.cs (NV f d1) λx O=>y x (a.cs.cell O)⟩;have v:g[i]? =(g.toList.take ((S.length-n)*1))[i]? :=by{rw[zCr,zAv (by omega),zBt]};rw[v,e6,zEh,zCr,zAv bT,zBt];exact d1
 have c3:w.cell? ⟨t,3,aB⟩=aA (aK (aA ⟨b,0,aB⟩) S.length cap):=(bC hM.tr 3).trans rfl;have HM:Hid (kC k t b cap S.length C d R (oT S).length c w):=hM;have HTS:Hid (QC k w d S):=D;obtain⟨S',G⟩:∃S',S'=S.drop n:=⟨_,rfl⟩;rw[<-G]at J⊢;have dG:n<=cap:=by omega
 have Y:(n:Int)<=(cap:Int):=by omega
 have wj:(0:Int)<=(n:Int):=by omega
 have ox:n<=1000:=by omega
 obtain⟨LU,H⟩:∃LU:Int,LU=((oT S).length:Int):=⟨_,rfl⟩;rw[<-H]at M J HM;clear G hM f h H s D;generalize S.length=ns at*;go_enter (Qz.fn func214),ntmps214;go_wp2_with fail;go_loopg [13] n (λq i wr=>∃(j:Nat)(c':Int),j+q=n/\i=aC aD (j:Int)/\kC k t b cap ns C d R LU c' wr/\QC k wr d S/\dI (iX w t b) w wr/\c-102800*(j:Int)<=c'/\c'<=c);case atStart=>exact⟨0,c,by omega,rfl,HM.out,HTS.out,.refl _ _,by omega,by omega⟩
 case round=>
  obtain⟨j,c',hj,rfl,L,a2,a3,a4,a5⟩:=hrel
  by_cases bT:j<n
  .obtain⟨N,d1,t3,K⟩:=M.out wr c' j L a2 a3 a4 a5 bT;have Mm:¬((j:Int)<0):=by{omega};have V:(j:Int)<(n:Int):=by{omega};clear M J L a2 a3 t3;go_wp2_with fail;refine K.mono ?_;clear K;rintro e w1 ⟨rfl,c2,b1,b2,b3,b4,b5⟩;go_wp2;go_roundg (n-(j+1));case measure=>omega
   case rel=>go_light;exact⟨j+1,c2,by omega,by go_num,b1,b2,b3,b4,b5⟩
  .obtain rfl:j=n:=by{omega};have V:¬((j:Int)<(j:Int)):=by{omega};obtain⟨t3,K⟩:=J.out wr c' L a2 a3 a4 a5;clear J L a2 a3 M;go_wp2_with fail;refine K.mono ?_;clear K t3;rintro e w2 ⟨rfl,⟨x,t3⟩,f3,hE,F⟩;have HE:Hid (cS (w2.setCell ⟨t,3,aB⟩ (aK (aA ⟨b,0,aB⟩) (ns-j) cap)) t k room b cap S'):=hE;have HSv:Hid (dI (iX w t b) w (w2.setCell ⟨t,3,aB⟩ (aK (aA ⟨b,0,aB⟩) (ns-j) cap))):=F;clear hE F;go_wp2;go_end0;exact⟨rfl,HE.out,HSv.out⟩
def RZ (h:cS w t k room b cap S){i:Nat}{us}(hi:S[i]? =aA us):
  Calls zq 217 #[aO (aA ⟨t,0,aB⟩),aC aD i] w (RF λx j=>x=aL ⟨(kQ k (bH us) 0).toArray⟩/\zb w j):=by
 obtain⟨C,r,R,c,a,g,f,y,u,s,g4,g5,g6⟩:=h.mem;obtain⟨p,d,l⟩:=f i us hi;have H:=hid (FV ⟨a.tr.lt,(bC a.tr 0).trans rfl,(bC a.tr 2).trans rfl⟩ l);have c3:=(bC a.tr 3).trans rfl;have d1:w.cell? ⟨b,i,aB⟩=aA (ptr p):=by rw[bC a.rZ];exact d
 have m:=(zAx.1 hi).1;have q:¬((i:Int)<0):=by omega
 have o:(i:Int)<(S.length:Int):=by omega
 generalize ptr p=v at*;generalize S.length=n at*;go_enter (Qz.fn func217),ntmps217;go_wp2_with fail;refine H.out.mono ?_;rintro e w1 ⟨rfl,rfl⟩;go_wp2;go_ret;exact .of ⟨rfl,zGm _ _⟩
end
def BX {W ops o a K Q E}(m:o.guard=aB)(s x)
  (B:o.op= .call {callee:= .builtin .append,args:= #[s,x],argTypes:= #[48,48]})
  (base) (v) (l) (hs:a.eval s=v) (d:cI W base v l) (u) (c) (A:a.eval x=aK (aA ⟨W.heap.size,0,aB⟩) 1 c)
  (F:l.length<=1000000) (q:base<=W.heap.size)
  (h:∀g cap w',cI w' base (aK (aA ⟨g,0,aB⟩) (l.length+1) cap) (l++[u])->W.grownBy w' v.ownBlock->K (a.put o.dst (aK (aA ⟨g,0,aB⟩) (l.length+1) cap)) w'):if Region.wanted o (yielded ops a.tmps)=aF then Oper.wp zq o a (W.alloc (aJ #[aL ⟨u.idx.toArray⟩,aL ⟨u.val.toArray⟩,.bool u.gone] 53)) K Q else E:=by
 obtain⟨i,hi,r,f,p⟩:=DM;refine step_append_lies _ m s x 48 B base 53 i _ 3 40 ((Qz.eZ 48).trans underlying48) hi r f p rfl (by omega) v l.length (cE l) hs (World.ownsRow.alloc d _) ⟨W.heap.size,0,aB⟩ 1 c u.cells A rfl (λj y z=> ?_) (vU u) (by omega) (by simp only[maxLen];omega) (by omega) (by rw[size_alloc];omega) _ rfl (λg cap w' D C _ _=>h g cap w' ?_ (kL C))
 .have e:(⟨W.heap.size,0,aB⟩:Addr).add j=⟨W.heap.size,j,aB⟩:=by{unfold Addr.add;split<;>simp_all};rw[e];show(W.alloc (aJ u.cells.toArray 53)).cell? _=_;rw[(cB.new W 53 u.cells.toArray).cell j];simpa using z
 .unfold cI;rw[uI,zAc];exact D
open Go
@[simp]theorem ll:zq.stoodInHeld 76=aG:=by kernel_rfl
@[simp]theorem ru:zq.eqGuardType zq.depth 76=aG:=by kernel_rfl
@[simp]theorem ln:zq.stoodInHeld 53=aG:=by kernel_rfl
@[simp]theorem rv:zq.eqGuardType zq.depth 53=aG:=by kernel_rfl
def Yb (e:rQ):bK:=⟨e.1,e.2,aG⟩
def ar (s:St)(k:Nat):Nat:=((List.range k).filterMap (dJ s)).length
def Kv (s):ar s 64=(cO s).length:=rfl
def Rs (s):∀k,ar s k<=k:=λk=>by have:=zGi (dJ s) (List.range k);rw[List.length_range]at this;exact this
def cI.len {w base v l}(h:cI w base v l):∃a c,v=aK a l.length c/\(0<l.length->∃g,a=aA ⟨g,0,aB⟩/\base<=g/\g<w.heap.size):=by
 obtain⟨rfl,d⟩|⟨g,cap,cur,rfl,hb,b,_⟩:=h.2
 .exact⟨aB,0,by rw[d],λe=>by omega⟩
 .exact⟨_,cap,rfl,λ_=>⟨g,rfl,hb,(zAa.1 b).1⟩⟩
def cI.cellAt {w base g c l}(h:cI w base (aK (aA ⟨g,0,aB⟩) l.length c) l)(i)(u)(a:l[i]? =aA u)(j)(b:j<3):w.cell? ⟨g,i*3+j,aB⟩=u.cells[j]? :=by have hi:=(zAx.1 a).1;rw[World.ownsRow.cellAt h (i*3+j) (by omega)];exact qG l i u a j b
def reaches {name f}(h:(zq.info? 146).bind (λi=>(i.methods.find? (·.name==name)).map λm=>(m.path,m.func))=aA (#[],aA (f,aF)))(a)(w):
  (method (zq.types.size+100) 146 (.pointer a) name).run zq w= .ok (f,.pointer a) w:=by
 cases hi:zq.info? 146 with
 |none=>rw[hi]at h;cases h
 |some i=>
  rw[hi]at h;simp only[zEd]at h;cases hm:i.methods.find? (·.name==name)with
  |none=>rw[hm]at h;cases h
  |some m=>rw[hm]at h;simp only[zBf,aEr,aFj]at h;rw[show zq.types.size+100=(zq.types.size+99)+1 from rfl];have c:=run_underlying ((Qz.eZ 146).trans underlying146);have b:(typeInfo 146).run zq w= .ok i w:=by{simp[typeInfo,hi]};unfold method;simp only[Sem.run_bind,b,aE2,hm,h.1,h.2];simp[follow,receiverAt,c,Place.get]
def fX (S:zLL):zV:=S.map λx=>aL ⟨x.toArray⟩
def PL (x:zY):Prop:=∃s,x=aL s
structure cH (w:zW)(d k win first hb dG t room b cap:Nat)(S:List (List bK))(H:zLL):Prop where
 uX:cS w t k room b cap S
 UQ:zq.globals.size<d
 nU:zq.globals.size<hb
 at':w.heap[d]? =aA (aJ #[aC aD k,aC aD win,aC aD first,aK (aA ⟨hb,0,aB⟩) S.length dG,.iface 146 (aO (aA ⟨t,0,aB⟩))] 86 (0,0))
 hlen:H.length=S.length
 Qg:∀h∈H,h.length<=32
 eQ:dZ PL w hb 9 1 (aK (aA ⟨hb,0,aB⟩) S.length dG) S.length (fX H)
 f1:first<=1000000
section
variable {w w':zW}{d k win first hb dG t room b cap:Nat}{S:List (List bK)}{H:zLL}
def cH.lt (h:cH w d k win first hb dG t room b cap S H):d<w.heap.size:=(zAa.1 h.at').1
def cH.cell (h:cH w d k win first hb dG t room b cap S H)(i:Nat):w.cell? ⟨d,i,aB⟩=(#[aC aD k,aC aD win,aC aD first,aK (aA ⟨hb,0,aB⟩) S.length dG,.iface 146 (aO (aA ⟨t,0,aB⟩))]:zA)[i]? :=zHb w d i _ _ (0,0) h.at'
def cH.below {B:Nat}(h:cH w d k win first hb dG t room b cap S H)(a:Below B w w')(c:w.heap.size<=B):cH w' d k win first hb dG t room b cap S H:=⟨h.uX.below a c,h.UQ,h.nU,by rw[a.block d (zAd h.lt c)];exact h.at',h.hlen,h.Qg,h.eQ.below a c,h.f1⟩
def TL (h:cH w d k win first hb dG t room b cap S H):
  Calls zq 23 #[aO (aA ⟨d,0,aB⟩)] w λe w'=>e=aM (.tuple #[aC aD first,aC aD ((first:Int)+(S.length:Int)-1)])/\zb w w':=by
 have g:=dU ((h.cell 2).trans (rfl:_=aA (Value.int aD first))) h.lt;have f:=dU ((h.cell 3).trans (rfl:_=aA (Value.slice (aA ⟨hb,0,aB⟩) S.length dG))) h.lt;have i:=h.f1;have hl:=h.uX.len;clear h;generalize S.length=n at*;go_enter (Qz.fn func23),ntmps23;go_upto_region 1 with(fail)
 refine zHe (by kernel_rfl) (by kernel_rfl) ?_;repeat (any_goals(first|go_big_quiet_step (fail)|quiet_step (fail)))
 refine wpQuiet_nil ?_;intro W a;obtain⟨q,c⟩:=a;have hb:Hid (zb w W):=by rw[c];exact zGt w q.d q.os
 clear c g f;go_wp2;go_ret2;exact⟨rfl,hb.out⟩
def LR (h:cH w d k win first hb dG t room b cap S H){i:Nat}(hi:i<S.length):
  Calls zq 36 #[aO (aA ⟨d,0,aB⟩),aC aD ((first:Int)+(i:Int))] w λe w'=>e=aM (.bool aF)/\zb w w':=by
 have a:=TL h;have f:(first:Int)<=(first:Int)+(i:Int):=by omega
 have c:(first:Int)+(i:Int)<=(first:Int)+(S.length:Int)-1:=by omega
 clear h hi;generalize(first:Int)+(S.length:Int)-1=l at*;generalize(first:Int)+(i:Int)=g at*;go_enter (Qz.fn func36),ntmps36;go_wp2_with fail;refine a.mono ?_;clear a;rintro e w2 ⟨rfl,hb⟩;have B:Hid (zb w w2):=hb;clear hb;dsimp only;go_wp2;go_ret;exact⟨by simp[f,c],B.out⟩
def tA (h:cH w d k win first hb dG t room b cap S H){i:Nat}{us:List bK}(hi:S[i]? =aA us):
  Calls zq 21 #[aO (aA ⟨d,0,aB⟩),aC aD ((first:Int)+(i:Int))] w (RF λx w'=>x= .tuple #[aL ⟨(kQ k (bH us) 0).toArray⟩,aC aD 0]/\zb w w'):=by
 have j:=(zAx.1 hi).1;have m:=LR h j;have n:Hid (cH w d k win first hb dG t room b cap S H):=h;have z:=h.f1;have hl:=h.uX.len;have r:Hid (S[i]? =aA us):=hi;have y:∀W,(method (zq.types.size+100) 146 (aO (aA ⟨t,0,aB⟩)) "Root").run zq W= .ok (217,aO (aA ⟨t,0,aB⟩)) W:=λW=>reaches (by kernel_rfl) _ W;have p:IntKind.i64.wrap (i:Int)=(i:Int):=by rw[zGq];omega
 have l:(first:Int)+(i:Int)-(first:Int)=(i:Int):=by omega
 clear h hi;go_enter (Qz.fn func21),ntmps21;go_wp2_with fail;refine m.mono ?_;clear m;rintro e w2 ⟨rfl,a⟩;have v:Hid (zb w w2):=a;have E:Hid (cH w2 d k win first hb dG t room b cap S H):=n.out.below a (zAb _);clear a n;dsimp only;have o:w2.cell? ⟨d,2,aB⟩=aA (aC aD first):=E.out.cell 2;have q:w2.cell? ⟨d,4,aB⟩=aA (.iface 146 (aO (aA ⟨t,0,aB⟩))):=E.out.cell 4;have s:Hid (cS w2.drew t k room b cap S):=E.out.uX.kept (zAb _) λ_ _=>rfl;have B:Hid (zb w w2.drew):=lG v.out;have f:w.heap.size<=w2.drew.heap.size:=B.out.size;go_wp2_with fail;go_region_with (first
  |(go_at_call 217;refine(RZ s.out r.out).mono ?_;rintro e w3 (⟨_,rfl,rfl,g⟩|⟨c,rfl,he⟩);rotate_left;exact⟨rfl,.told he⟩;dsimp only))
 all_goals
  have u:Hid (zb w w3):=bL B.out g f
  clear g o q
  go_wp2
  go_ret2
  exact .of ⟨rfl,u.out⟩
end
structure Base (w:zW):Prop where
 gI:mG w
 gW:fF w
 low:zq.globals.size<w.heap.size
def Base.below {w w':zW}{B:Nat}(h:Base w)(a:Below B w w')(b:w.heap.size<=B):Base w':=
 ⟨h.gI.kept λx c=>a.block x (by have:=h.low;omega),h.gW.below a b,zAd h.low a.size⟩
def Tn {w}(h:Base w)(k room t c:Nat)(j:1<=k)(g:k<=32)(f:room<=1000000)(n:cW w t (aC aD k) (aC aD room) (aL ⟨(dg k [0]).toArray⟩) (aK (aA ⟨c,0,aB⟩) 1 1) (aC aD 0) 0)(o:w.heap[c]? =aA (aJ #[.pointer aB] 264 (0,0)))(d:zq.globals.size<t)(l:zq.globals.size<c):cS w t k room c 1 [[]]:=by
 refine⟨j,g,h.gI,h.gW,d,l,⟨room,0,n,by omega,f,by omega⟩,⟨λ_=>False,_,o,zAb _,by simp only[maxLen];omega,rfl,λx a=>a.elim,λx a=> ?_,λi us hi=> ?_⟩,λus m=> ?_,by simp,by simp⟩
 .simp only[zAg,zAo,zCe]at a;subst a;exact⟨aB,rfl,λb e=>by cases e⟩
 .match i,hi with
  |0,hi=>simp at hi;subst hi;exact⟨aB,rfl,.nil 0⟩
 .rw[zAs.1 m];exact⟨CY.nil,zBs _⟩
def Se (k room:Nat)(w)(h:Base w)(c:1<=k)(b:k<=32)(f:room<=1000000):
  Calls zq 87 #[aC aD k,aC aD room] w λe g=>∃t i,e=aM (aO (aA ⟨t,0,aB⟩))/\cS g t k room i 1 [[]]/\w.heap.size<=t/\w.heap.size<=i/\zb w g:=by
 have H:=hid h;go_enter (Qz.fn func87),ntmps87;go_wp2_with fail;refine(MP k w c b H.out.gW).mono ?_;rintro e w1 ⟨rfl,d⟩;have B:=hid d;have H1:=hid (H.out.below d (zAb _));go_wp2_with fail;have a:∀(v:zW)(o:Obj),(v.alloc o).heap.size=v.heap.size+1:=λv o=>zBv ..;have k1:Hid (cB ((w1.alloc (aJ #[.pointer aB] 264)).alloc (aJ #[aC aD (k:Int),aC aD (room:Int),aL ⟨(dg k [0]).toArray⟩,aK (aA ⟨w1.heap.size,0,aB⟩) 1 1,aC aD 0,aC aD 0] 168)) w1.heap.size 264 #[.pointer aB]):=(cB.new _ _ _).alloc _;have k2:Hid (cB ((w1.alloc (aJ #[.pointer aB] 264)).alloc (aJ #[aC aD (k:Int),aC aD (room:Int),aL ⟨(dg k [0]).toArray⟩,aK (aA ⟨w1.heap.size,0,aB⟩) 1 1,aC aD 0,aC aD 0] 168)) (w1.heap.size+1) 168 #[aC aD (k:Int),aC aD (room:Int),aL ⟨(dg k [0]).toArray⟩,aK (aA ⟨w1.heap.size,0,aB⟩) 1 1,aC aD 0,aC aD 0]):=by have:=cB.new (w1.alloc (aJ #[.pointer aB] 264)) 168 #[aC aD (k:Int),aC aD (room:Int),aL ⟨(dg k [0]).toArray⟩,aK (aA ⟨w1.heap.size,0,aB⟩) 1 1,aC aD 0,aC aD 0];rw[a]at this;exact this
 have j:Hid (zb w1 ((w1.alloc (aJ #[.pointer aB] 264)).alloc (aJ #[aC aD (k:Int),aC aD (room:Int),aL ⟨(dg k [0]).toArray⟩,aK (aA ⟨w1.heap.size,0,aB⟩) 1 1,aC aD 0,aC aD 0] 168))):=((zGm _ _).alloc (zAb _) _).alloc (by rw[a];omega) _;generalize(w1.alloc (aJ #[.pointer aB] 264)).alloc (aJ #[aC aD (k:Int),aC aD (room:Int),aL ⟨(dg k [0]).toArray⟩,aK (aA ⟨w1.heap.size,0,aB⟩) 1 1,aC aD 0,aC aD 0] 168)=w2 at*;have n:=hid (bL B.out j.out B.out.size);have hl:=H1.out.low;have l:=B.out.size;have m:=hid (Tn (H1.out.below j.out (zAb _)) k room _ _ c b f k2.out k1.out (by omega) hl);go_ret;exact⟨w1.heap.size+1,w1.heap.size,rfl,m.out,by omega,l,n.out⟩
def OI (k a cells:Nat)(w)(g:1<=k)(f:k<=32)(d:1<=a)(h:a<=50)(j:1<=cells)(i:cells<=100000):
  Calls zq 57 #[.agg #[aC aD 0,aC aD k,aC aD a,aC aD cells]] w λe c=>e=aM (.bool aF)/\zb w c:=by
 have r:Hid (zb w (w.alloc (aJ #[aC aD 0,aC aD (k:Int),aC aD (a:Int),aC aD (cells:Int)] 23))):=(zGm _ _).alloc (zAb _) _;have b:Hid (cB (w.alloc (aJ #[aC aD 0,aC aD (k:Int),aC aD (a:Int),aC aD (cells:Int)] 23)) w.heap.size 23 #[aC aD 0,aC aD (k:Int),aC aD (a:Int),aC aD (cells:Int)]):=cB.new _ _ _;have q:(1:Int)<=(k:Int):=by omega
 have p:(k:Int)<=32:=by omega
 have o:(1:Int)<=(a:Int):=by omega
 have n:(a:Int)<=50:=by omega
 have m:(1:Int)<=(cells:Int):=by omega
 have l:(cells:Int)<=100000:=by omega
 go_enter (Qz.fn func57),ntmps57;go_upto_region 1 with(fail)
 generalize w.alloc (aJ #[aC aD 0,aC aD (k:Int),aC aD (a:Int),aC aD (cells:Int)] 23)=w0 at*;have c0:=(b.out.cell 0).trans rfl;have c1:=(b.out.cell 1).trans rfl;have c2:=(b.out.cell 2).trans rfl;have c3:=(b.out.cell 3).trans rfl;go_wp2;go_ret;exact⟨by simp[q,p,o,n,m,l],r.out⟩
def OR (k a room:Nat)(w)(h:Base w)(i:1<=k)(g:k<=32)(f:room<=1000000):
  Calls zq 59 #[.agg #[aC aD 0,aC aD k,aC aD a,aC aD room]] w λe l=>∃t b,e=aM (.iface 146 (aO (aA ⟨t,0,aB⟩)))/\cS l t k room b 1 [[]]/\w.heap.size<=t/\w.heap.size<=b/\zb w l:=by
 have c:Hid (zb w (w.alloc (aJ #[aC aD 0,aC aD (k:Int),aC aD (a:Int),aC aD (room:Int)] 23))):=(zGm _ _).alloc (zAb _) _;have d:Hid (cB (w.alloc (aJ #[aC aD 0,aC aD (k:Int),aC aD (a:Int),aC aD (room:Int)] 23)) w.heap.size 23 #[aC aD 0,aC aD (k:Int),aC aD (a:Int),aC aD (room:Int)]):=cB.new _ _ _;have H:=hid h;go_enter (Qz.fn func59),ntmps59;go_upto_region 1 with(fail)
 generalize w.alloc (aJ #[aC aD 0,aC aD (k:Int),aC aD (a:Int),aC aD (room:Int)] 23)=w0 at*;have c0:=(d.out.cell 0).trans rfl;have c1:=(d.out.cell 1).trans rfl;have c3:=(d.out.cell 3).trans rfl;go_wp2_with fail;refine(Se k room w0 (H.out.below c.out (zAb _)) i g f).mono ?_;rintro e w1 ⟨t,b,rfl,m,h1,o,j⟩;have B:=hid (bL c.out j c.out.size);have E:=hid m;have n:=c.out.size;go_wp2;go_ret;exact⟨t,b,rfl,E.out,by omega,by omega,B.out⟩
def JH (k:Nat)(w)(d:fF w)(a:1<=k)(h:k<=32):
  Calls zq 58 #[aC aD k] w λe c=>e=aM (aL ⟨(dg k [3]).toArray⟩)/\zb w c:=by
 have f:=tH k ⟨#[3]⟩ w a h (by decide) d;have H:=hid f;go_enter (Qz.fn func58),ntmps58;go_wp2_with fail;refine H.out.mono ?_;rintro e w1 ⟨rfl,b⟩;have B:=hid b;go_wp2;go_ret;exact⟨rfl,B.out⟩
def Cv {w:zW}{d k a e t room b:Nat}{h:zB}(g:cS w t k room b 1 [[]])(f:w.heap[d]? =aA (aJ #[aC aD k,aC aD a,aC aD 0,aK (aA ⟨e,0,aB⟩) 1 1,.iface 146 (aO (aA ⟨t,0,aB⟩))] 86 (0,0)))(hh:w.heap[e]? =aA (aJ #[aL ⟨h.toArray⟩] 9 (0,0)))(hl:h.length<=32)(j:zq.globals.size<d)(i:zq.globals.size<e):
  cH w d k a 0 e 1 t room b 1 [[]] [h]:=
 ⟨g,j,i,f,rfl,λx c=>by rw[zAs.1 c];exact hl,dZ.of _ hh (zAb _) (zAb _) (by simp only[maxLen];omega) rfl rfl (λx c=>by simp only[zAg,zAo,zCe]at c;exact⟨_,c⟩),zBs _⟩
def ZQ (k a room:Nat)(w:zW)(h:Base w)(r:1<=k)(n:k<=32)(G:1<=a)(F:a<=50)(J:1<=room)(I:room<=100000):
  Calls zq 35 #[.agg #[aC aD 0,aC aD k,aC aD a,aC aD room]] w λe l=>∃d S t j,e=aM (.tuple #[aO (aA ⟨d,0,aB⟩),aC aD 0])/\cH l d k a 0 S 1 t room j 1 [[]] [dg k [3]]/\w.heap.size<=d/\w.heap.size<=S/\w.heap.size<=t/\w.heap.size<=j/\zb w l:=by
 have L:Hid (zb w (w.alloc (aJ #[aC aD 0,aC aD (k:Int),aC aD (a:Int),aC aD (room:Int)] 23))):=(zGm _ _).alloc (zAb _) _;have A:Hid (cB (w.alloc (aJ #[aC aD 0,aC aD (k:Int),aC aD (a:Int),aC aD (room:Int)] 23)) w.heap.size 23 #[aC aD 0,aC aD (k:Int),aC aD (a:Int),aC aD (room:Int)]):=cB.new _ _ _;have HB:Hid (Base w):=h;have nU:=h.low;clear h;go_enter (Qz.fn func35),ntmps35;go_upto_region 1 with(fail)
 generalize w.alloc (aJ #[aC aD 0,aC aD (k:Int),aC aD (a:Int),aC aD (room:Int)] 23)=w0 at*;go_wp2_with (refine zGs rfl 23 _ rfl w.heap.size rfl 23 _ (0,0) _ A.out ((Qz.eZ 23).trans underlying23) rfl (by kernel_rfl) ?_);refine(OI k a room w0 r n G F J I).mono ?_;rintro e w1 ⟨rfl,u⟩;have C:Hid (zb w w1):=bL L.out u L.out.size;have K1:Hid (cB w1 w.heap.size 23 #[aC aD 0,aC aD (k:Int),aC aD (a:Int),aC aD (room:Int)]):=A.out.below u A.out.lt;have H1:Hid (Base w1):=HB.out.below C.out (zAb _);have R:=C.out.size;clear u L A HB;dsimp only;go_upto_region 3 with(fail)
 have M:Hid (∀W,zb w1 W->W.cell? ⟨w.heap.size,0,aB⟩=aA (aC aD 0)/\W.cell? ⟨w.heap.size,1,aB⟩=aA (aC aD (k:Int))/\W.cell? ⟨w.heap.size,2,aB⟩=aA (aC aD (a:Int))/\W.cell? ⟨w.heap.size,3,aB⟩=aA (aC aD (room:Int))/\w.heap.size<W.heap.size):=λW o=>⟨((K1.out.below o K1.out.lt).cell 0).trans rfl,((K1.out.below o K1.out.lt).cell 1).trans rfl,((K1.out.below o K1.out.lt).cell 2).trans rfl,((K1.out.below o K1.out.lt).cell 3).trans rfl,(K1.out.below o K1.out.lt).lt⟩;obtain⟨c0,c1,c2,c3,c4⟩:=M.out w1 (zGm _ _);have y:(dg k [3]).length<=32:=by have:=nE k [3] n;omega
 have z:Hid ((dg k [3]).length<=32):=y;have Z:Hid (∀W,zb w1 W->Calls zq 58 #[aC aD k] W λe l=>e=aM (aL ⟨(dg k [3]).toArray⟩)/\zb W l):=λW o=>JH k W (H1.out.below o (zAb _)).gW r n;have N:Hid (∀W,zb w1 W->Calls zq 59 #[.agg #[aC aD 0,aC aD k,aC aD a,aC aD room]] W λe l=>∃t j,e=aM (.iface 146 (aO (aA ⟨t,0,aB⟩)))/\cS l t k room j 1 [[]]/\W.heap.size<=t/\W.heap.size<=j/\zb W l):=λW o=>OR k a room W (H1.out.below o (zAb _)) r n (by omega);generalize H3:dg k [3]=i at*;have E3:Hid (dg k [3]=i):=H3;clear H3;clear y K1 H1;go_region_held3 (λl=>l.cell? ⟨w.heap.size,0,aB⟩=aA (aC aD 0)/\l.cell? ⟨w.heap.size,1,aB⟩=aA (aC aD (k:Int))/\l.cell? ⟨w.heap.size,2,aB⟩=aA (aC aD (a:Int))/\l.cell? ⟨w.heap.size,3,aB⟩=aA (aC aD (room:Int))) (go_keep) (first
  |(go_at_call 58;
    first
    |(refine(Z.out _ (lG (zGm _ w1))).mono ?_;rintro e wf ⟨rfl,m⟩;have c:Hid (zb w1 wf):=yL m)
    |(refine(Z.out _ f.out).mono ?_;rintro e wf ⟨rfl,m⟩;have c:Hid (zb w1 wf):=bL f.out m f.out.size);
    obtain⟨f0,f1,f2,f3,f4⟩:=M.out wf c.out;dsimp only)
  |(go_at_call 59;
    first
    |(refine(N.out _ (lG (zGm _ w1))).mono ?_;rintro e b ⟨t,j,rfl,B,x,v,g⟩;have f:Hid (zb w1 b):=yL g)
    |(refine(N.out _ c.out).mono ?_;rintro e b ⟨t,j,rfl,B,x,v,g⟩;have f:Hid (zb w1 b):=bL c.out g c.out.size)
    |(refine(N.out _ (c.out.alloc c.out.size _)).mono ?_;rintro e b ⟨t,j,rfl,B,x,v,g⟩;have f:Hid (zb w1 b):=bL (c.out.alloc c.out.size _) g (c.out.alloc c.out.size _).size);
    obtain⟨g0,V,U,T,g4⟩:=M.out b f.out;have H:Hid (cS b t k room j 1 [[]]):=B;have s:=g;clear B;dsimp only))
 .have q:cB (wf.alloc (aJ #[aL ⟨i.toArray⟩] 9)) wf.heap.size 9 #[aL ⟨i.toArray⟩]:=cB.new _ _ _;have Y:Hid (cB b wf.heap.size 9 #[aL ⟨i.toArray⟩]):=q.below s q.lt;have D:=c.out.size;have p:(wf.alloc (aJ #[aL ⟨i.toArray⟩] 9)).heap.size=wf.heap.size+1:=zBv ..;have E:=f.out.size;have P:Hid (zb w (b.alloc (aJ #[aC aD (k:Int),aC aD (a:Int),aC aD 0,aK (aA ⟨wf.heap.size,0,aB⟩) 1 1,.iface 146 (aO (aA ⟨t,0,aB⟩))] 86))):=(bL C.out f.out R).out.alloc (by omega) _;have K:Hid (cB (b.alloc (aJ #[aC aD (k:Int),aC aD (a:Int),aC aD 0,aK (aA ⟨wf.heap.size,0,aB⟩) 1 1,.iface 146 (aO (aA ⟨t,0,aB⟩))] 86)) b.heap.size 86 #[aC aD (k:Int),aC aD (a:Int),aC aD 0,aK (aA ⟨wf.heap.size,0,aB⟩) 1 1,.iface 146 (aO (aA ⟨t,0,aB⟩))]):=cB.new _ _ _;have O:Hid (cH (b.alloc (aJ #[aC aD (k:Int),aC aD (a:Int),aC aD 0,aK (aA ⟨wf.heap.size,0,aB⟩) 1 1,.iface 146 (aO (aA ⟨t,0,aB⟩))] 86)) b.heap.size k a 0 wf.heap.size 1 t room j 1 [[]] [i]):=Cv (H.out.below ((zGm _ _).alloc (zAb _) _) (zAb _)) K.out (Y.out.alloc _) z.out (by omega) (by omega);generalize b.alloc (aJ #[aC aD (k:Int),aC aD (a:Int),aC aD 0,aK (aA ⟨wf.heap.size,0,aB⟩) 1 1,.iface 146 (aO (aA ⟨t,0,aB⟩))] 86)=w9 at*;clear q s g m c0 c1 c2 c3 f0 f1 f2 f3 g0 V U T Y K;go_wp2;go_ret2;exact⟨b.heap.size,wf.heap.size,t,j,rfl,by rw[E3.out];exact O.out,by omega,by omega,by omega,by omega,P.out⟩
 .have D:=c.out.size;have E:=f.out.size;have p:∀Q,(b.alloc Q).heap.size=b.heap.size+1:=λQ=>zBv ..;have X:Hid (cB ((b.alloc (aJ #[aL ⟨i.toArray⟩] 9)).alloc (aJ #[aC aD (k:Int),aC aD (a:Int),aC aD 0,aK (aA ⟨b.heap.size,0,aB⟩) 1 1,.iface 146 (aO (aA ⟨t,0,aB⟩))] 86)) b.heap.size 9 #[aL ⟨i.toArray⟩]):=(cB.new _ _ _).alloc _;have K:Hid (cB ((b.alloc (aJ #[aL ⟨i.toArray⟩] 9)).alloc (aJ #[aC aD (k:Int),aC aD (a:Int),aC aD 0,aK (aA ⟨b.heap.size,0,aB⟩) 1 1,.iface 146 (aO (aA ⟨t,0,aB⟩))] 86)) (b.heap.size+1) 86 #[aC aD (k:Int),aC aD (a:Int),aC aD 0,aK (aA ⟨b.heap.size,0,aB⟩) 1 1,.iface 146 (aO (aA ⟨t,0,aB⟩))]):=by
   have:=cB.new (b.alloc (aJ #[aL ⟨i.toArray⟩] 9)) 86 #[aC aD (k:Int),aC aD (a:Int),aC aD 0,aK (aA ⟨b.heap.size,0,aB⟩) 1 1,.iface 146 (aO (aA ⟨t,0,aB⟩))];rw[p]at this;exact this
  have be:zb b ((b.alloc (aJ #[aL ⟨i.toArray⟩] 9)).alloc (aJ #[aC aD (k:Int),aC aD (a:Int),aC aD 0,aK (aA ⟨b.heap.size,0,aB⟩) 1 1,.iface 146 (aO (aA ⟨t,0,aB⟩))] 86)):=((zGm _ _).alloc (zAb _) _).alloc (by rw[p];omega) _;have P:Hid (zb w ((b.alloc (aJ #[aL ⟨i.toArray⟩] 9)).alloc (aJ #[aC aD (k:Int),aC aD (a:Int),aC aD 0,aK (aA ⟨b.heap.size,0,aB⟩) 1 1,.iface 146 (aO (aA ⟨t,0,aB⟩))] 86))):=bL (bL C.out f.out R).out be (by omega);have O:Hid (cH ((b.alloc (aJ #[aL ⟨i.toArray⟩] 9)).alloc (aJ #[aC aD (k:Int),aC aD (a:Int),aC aD 0,aK (aA ⟨b.heap.size,0,aB⟩) 1 1,.iface 146 (aO (aA ⟨t,0,aB⟩))] 86)) (b.heap.size+1) k a 0 b.heap.size 1 t room j 1 [[]] [i]):=Cv (H.out.below be (zAb _)) K.out X.out z.out (by omega) (by omega);generalize(b.alloc (aJ #[aL ⟨i.toArray⟩] 9)).alloc (aJ #[aC aD (k:Int),aC aD (a:Int),aC aD 0,aK (aA ⟨b.heap.size,0,aB⟩) 1 1,.iface 146 (aO (aA ⟨t,0,aB⟩))] 86)=w9 at*;clear s g m c0 c1 c2 c3 f0 f1 f2 f3 g0 V U T X K be;go_wp2;go_ret2;exact⟨b.heap.size+1,b.heap.size,t,j,rfl,by rw[E3.out];exact O.out,by omega,by omega,by omega,by omega,P.out⟩
def Mp (k a:Nat)(h r:zB)(w:zW)(l:fF w)(i:1<=k)(g:k<=32)(hh:h.length<=32)(x:r.length<=32)(o:a<=2000000):
  Calls zq 40 #[aC aD k,aL ⟨h.toArray⟩,aC aD a,aL ⟨r.toArray⟩] w λe w'=>e=aM (aL ⟨(dg k (3::(h++eight a++r))).toArray⟩)/\zb w w':=by
 have s:Hid (fF w):=l;have u:Hid (∀W (m:ByteArray),m.size<=1000->fF W->Calls zq 53 #[aC aD k,aL m] W λe w'=>e=aM (aL ⟨(dg k m.data.toList).toArray⟩)/\zb W w'):=λW m y q=>tH k m W i g (by omega) q;have p:(eight a).length=8:=by simp[eight]
 clear l;go_enter (Qz.fn func40),ntmps40;go_wp2_with fail;refine(sZ a w).mono ?_;rintro e w1 ⟨rfl,f⟩;have B:Hid (zb w w1):=f;clear f;generalize n:eight a=E at*;have j:Hid (eight a=E):=n;clear n;dsimp only;go_wp2_with fail;refine(u.out w1 _ ?_ (s.out.below B.out (zAb _))).mono ?_
 .simp only[zFt];show 1+h.toArray.size+E.toArray.size+r.toArray.size<=1000;simp only[zAn];omega
 rintro e w2 ⟨rfl,c⟩;have v:Hid (zb w w2):=bL B.out c B.out.size;clear c;dsimp only;go_wp2;go_ret;exact⟨by rw[j.out];congr 5,v.out⟩
def kM (w:zW)(d hb t b:Nat):zP:=λx=>x=d\/x=hb\/iX w t b x
def dI.four {w w1 w' d hb c t b b'}(h:dI (kM w d hb t b) w w1)(j:dI (kM w1 d c t b') w1 w')(i:c=hb\/w.heap.size<=c)(g:b'=b\/w.heap.size<=b'):dI (kM w d hb t b) w w':=h.then j λx a bT f e=>by
 obtain a|a|a|a|a:=a
 .exact f (aH a)
 .obtain i|i:=i
  .exact f (aI (aH (a.trans i)))
  .omega
 .exact f (aI (aI (aH a)))
 .obtain g|g:=g
  .exact f (aI (aI (aI (aH (a.trans g)))))
  .omega
 .exact f (aI (aI (aI (aI (a.same e.symm)))))
section
variable {w w':zW}{d k win first hb dG t room b cap:Nat}{S:List (List bK)}{H:zLL}
def fB {x y:Nat}{cs cs' c ty j i}(g:w.heap[x]? =aA (aJ cs c j))(h:w.heap[y]? =aA (aJ cs' ty i))(a:c≠ty):x≠y:=λe=>by subst e;rw[g]at h;injection h with h;injection h with _ f;exact a f
def cH.ne (h:cH w d k win first hb dG t room b cap S H):d≠hb/\d≠t/\d≠b/\hb≠t/\hb≠b:=by obtain⟨a,c1⟩:=h.uX.Yg;obtain⟨ct,t1⟩:=h.uX.Wc;obtain⟨c,e,_⟩:=dZ.row h.eQ;exact⟨fB h.at' e (by decide),fB h.at' t1 (by decide),fB h.at' c1 (by decide),fB e t1 (by decide),fB e c1 (by decide)⟩
def cH.two (h:cH w d k win first hb dG t room b cap S H):¬iX w t b d/\¬iX w t b hb:=by
 obtain⟨i,f,n3,e,n⟩:=h.ne;obtain⟨c,g,_⟩:=dZ.row h.eQ;refine⟨λa=> ?_,λa=> ?_⟩
 .obtain a|a|a:=a
  .exact f a
  .exact n3 a
  .exact a.ne h.at' (by decide) rfl
 .obtain a|a|a:=a
  .exact e a
  .exact n a
  .exact a.ne g (by decide) rfl
def cH.less {r:Nat}(h:cH w d k win first hb dG t room b cap S H)(a:r<=room):cH w d k win first hb dG t r b cap S H:=⟨h.uX.less a,h.UQ,h.nU,h.at',h.hlen,h.Qg,h.eQ,h.f1⟩
def cH.bT (h:cH w d k win first hb dG t room b cap S H):hb<w.heap.size:=by obtain⟨c,e,_⟩:=dZ.row h.eQ;exact(zAa.1 e).1
def JL {c:Nat}(h:cH w d k win first hb dG t (room+c) b cap S H)(J:c<S.length):
  Calls zq 41 #[aO (aA ⟨d,0,aB⟩),aC aD c] w λe w'=>e=aM (.tuple #[])/\(first+c<=1000000->cH w' d k win (first+c) hb dG t room b cap (S.drop c) (H.drop c))/\dI (kM w d hb t b) w w':=by
 obtain⟨A,P,n3,N,M⟩:=h.ne;have u:=ZK h.uX J;have I:∀W,(method (zq.types.size+100) 146 (aO (aA ⟨t,0,aB⟩)) "Forget").run zq W= .ok (214,aO (aA ⟨t,0,aB⟩)) W:=λW=>reaches (by kernel_rfl) _ W;have F:w.cell? ⟨d,4,aB⟩=aA (.iface 146 (aO (aA ⟨t,0,aB⟩))):=h.cell 4;have a:Hid (cH w d k win first hb dG t (room+c) b cap S H):=h;have hlen:=h.uX.len;have Q:=h.f1;clear h;go_enter (Qz.fn func41),ntmps41;go_wp2_with fail;refine u.mono ?_;clear u;rintro e w1 ⟨rfl,r,i⟩;have E:Hid (cS w1 t k room b cap (S.drop c)):=r;have V:Hid (dI (iX w t b) w w1):=i;have D1:Hid (cB w1 d 86 #[aC aD k,aC aD win,aC aD first,aK (aA ⟨hb,0,aB⟩) S.length dG,.iface 146 (aO (aA ⟨t,0,aB⟩))]):=(i.block d a.out.lt a.out.two.1).trans a.out.at';have q:=a.out.eQ;have O:Hid (dZ PL w1 hb 9 1 (aK (aA ⟨hb,0,aB⟩) S.length dG) S.length (fX H)):=q.kept λg v=>by have e:hb=g:=zAk v;subst e;exact i.block hb a.out.bT a.out.two.2
 clear r i q F I;dsimp only;have G:w1.cell? ⟨d,3,aB⟩=aA (aK (aA ⟨hb,0,aB⟩) S.length dG):=(D1.out.cell 3).trans rfl;have D:=Nv (S:=PL) (λx j=>by obtain⟨s,rfl⟩:=j;rfl) (λx j=>by simp[Value.cells]at j;exact⟨_,j⟩) hb hb S.length dG c (fX H) w1 O.out (by omega) (by omega);go_wp2_with fail;refine D.mono ?_;clear D;rintro e w2 ⟨rfl,m,f⟩;have D2:Hid (cB w2 d 86 #[aC aD k,aC aD win,aC aD first,aK (aA ⟨hb,0,aB⟩) S.length dG,.iface 146 (aO (aA ⟨t,0,aB⟩))]):=D1.out.grown f (λe=>by injection e with e;exact A e);obtain⟨B,n,_⟩:=dZ.row O.out;have L:Hid (cS w2 t k room b cap (S.drop c)):=E.out.other f n (by decide) a.out.nU;have K:Hid (dI (kM w d hb t b) w w2):=(V.out.mono λx j=>aI (aI j)).trans (dI.grown f (aI (aH rfl)) λz=>z.ne n (by decide) rfl);have C:Hid (dZ PL w2 hb 9 1 (aK (aA ⟨hb,0,aB⟩) (S.length-c) dG) (S.length-c) (fX (H.drop c))):=by have e:List.drop c (fX H)=fX (H.drop c):=by{simp[fX]};rw[e]at m;exact m
 have p3:w2.cell? ⟨d,3,aB⟩=aA (aK (aA ⟨hb,0,aB⟩) S.length dG):=(D2.out.cell 3).trans rfl;have p2:w2.cell? ⟨d,2,aB⟩=aA (aC aD first):=(D2.out.cell 2).trans rfl;have f3:=D2.out.frozen 3;have f2:=D2.out.frozen 2;clear m f n G E V O D1;dsimp only;go_wp2_with fail;go_end0;have o:(w2.setCell ⟨d,3,aB⟩ (aK (aA ⟨hb,0,aB⟩) (S.length-c) dG)).setCell ⟨d,2,aB⟩ (aC aD ((first:Int)+(c:Int)))=w2.setRow d (#[aC aD k,aC aD win,aC aD ((first:Int)+(c:Int)),aK (aA ⟨hb,0,aB⟩) (S.length-c) dG,.iface 146 (aO (aA ⟨t,0,aB⟩))]:zA):=by rw[setCell_eq_setRow w2 d 3 _ _ (0,0) _ D2.out,setCell_eq_setRow _ d 2 _ _ (0,0) _ (D2.out.eG _),setRow_setRow];rfl
 have l:=iD w2 d (#[aC aD k,aC aD win,aC aD ((first:Int)+(c:Int)),aK (aA ⟨hb,0,aB⟩) (S.length-c) dG,.iface 146 (aO (aA ⟨t,0,aB⟩))]:zA);have p:=D2.out.eG (#[aC aD k,aC aD win,aC aD ((first:Int)+(c:Int)),aK (aA ⟨hb,0,aB⟩) (S.length-c) dG,.iface 146 (aO (aA ⟨t,0,aB⟩))]:zA);rw[o];refine⟨rfl,λy=>⟨L.out.other l D2.out (by decide) a.out.UQ,a.out.UQ,a.out.nU,by rw[zCn];exact p,by rw[zCn,zCn,a.out.hlen],λx j=>a.out.Qg x (zEm j),?_,y⟩,K.out.trans (dI.grown l (aH rfl) λz=>z.ne D2.out (by decide) rfl)⟩;rw[zCn];exact C.out.kept λg v=>by have e:hb=g:=zAk v;subst e;exact l.block hb ((dZ.lt C.out hb rfl).2) (λe=>by injection e with e;exact A e.symm)
end
end Go.Proofs.Zq
