import Derived.Shelf.Strconv.Clone
import Derived.Lib.Bytealg
import Derived.Defers
import Derived.Maps.AppendAt
import Derived.Laws.CopyRow
import Derived.Lib.AppendStr
import Derived.Test.YtghpcgagijhlaaaGreatDoorL06
set_option linter.all false
set_option maxRecDepth 100000
set_option maxHeartbeats 16000000
open Option renaming some->aA,none->aB
open Bool renaming true->aF,false->aG
open Or renaming inl->aH,inr->aI
open Go.Ending renaming returned->aM
open Go.Obj renaming cells->aJ
open Go.IntKind renaming i64->aD,u32->aP,u8->aQ
open Go.Value renaming slice->aK,string->aL,pointer->aO,int->aC
open Array renaming replicate_zero->aE5,toList_append->aE6
open Go renaming undef->aEn
open Go.Lib renaming compareBytes->aE7
open Go.Result renaming andThen_ok->aE8
open Nat renaming add_zero->aE9,add_mul->aFa,mul_le_mul_right->aFb,min_eq_left->aFc
open Option.some renaming injEq->aEx
open Prod.mk renaming injEq->aFd
open UInt8 renaming ofNat->aE4,lt_irrefl->aFe,toNat_lt->aFf
open Go.Proofs.Tryz
namespace Go.Proofs
open Go.Shelf
def Qz.NO:Go.Shelf.Ren:=⟨λ|316=>100|n=>n,λ|9=>9|3=>3|4=>4|37=>50|0=>0|127=>184|5=>5|n=>n,λ|n=>n⟩
def Qz.Md:Go.Proofs.LaysM.n316 zq Qz.NO:={
 mixed:=by kernel_rfl
 f316:=(Qz.fn func100).trans (congrArg aA (by kernel_rfl))
 t0:=((Qz.fH 0).trans Tryz.underlying0)
 a0:=(λw=>(Qz.isAgg w 0).trans (Tryz.isAgg0 w))
 z0:=(λw=>(Qz.sizeOf w 0).trans (Tryz.sizeOf0 w))
 v0:=(λw=>(Qz.zeroValue w 0).trans (Tryz.zeroValue0 w))
 t3:=((Qz.fH 3).trans Tryz.underlying3)
 a3:=(λw=>(Qz.isAgg w 3).trans (Tryz.isAgg3 w))
 z3:=(λw=>(Qz.sizeOf w 3).trans (Tryz.sizeOf3 w))
 v3:=(λw=>(Qz.zeroValue w 3).trans (Tryz.zeroValue3 w))
 t4:=((Qz.fH 4).trans Tryz.underlying4)
 a4:=(λw=>(Qz.isAgg w 4).trans (Tryz.isAgg4 w))
 z4:=(λw=>(Qz.sizeOf w 4).trans (Tryz.sizeOf4 w))
 v4:=(λw=>(Qz.zeroValue w 4).trans (Tryz.zeroValue4 w))
 t9:=((Qz.fH 9).trans Tryz.underlying9)
 a9:=(λw=>(Qz.isAgg w 9).trans (Tryz.isAgg9 w))
 z9:=(λw=>(Qz.sizeOf w 9).trans (Tryz.sizeOf9 w))
 v9:=(λw=>(Qz.zeroValue w 9).trans (Tryz.zeroValue9 w))
 t37:=((Qz.fH 50).trans Tryz.underlying50)
 a37:=(λw=>(Qz.isAgg w 50).trans (Tryz.isAgg50 w))
 z37:=(λw=>(Qz.sizeOf w 50).trans (Tryz.sizeOf50 w))
 v37:=(λw=>(Qz.zeroValue w 50).trans (Tryz.zeroValue50 w))
 t127:=((Qz.fH 184).trans Tryz.underlying184)
 a127:=(λw=>(Qz.isAgg w 184).trans (Tryz.isAgg184 w))
 z127:=(λw=>(Qz.sizeOf w 184).trans (Tryz.sizeOf184 w))
 v127:=(λw=>(Qz.zeroValue w 184).trans (Tryz.zeroValue184 w))
 t5:=((Qz.fH 5).trans Tryz.underlying5)
 a5:=(λw=>(Qz.isAgg w 5).trans (Tryz.isAgg5 w))
 z5:=(λw=>(Qz.sizeOf w 5).trans (Tryz.sizeOf5 w))
 v5:=(λw=>(Qz.zeroValue w 5).trans (Tryz.zeroValue5 w))
 i0:=by kernel_rfl
 i3:=by kernel_rfl
 i4:=by kernel_rfl
 i5:=by kernel_rfl
 i9:=by kernel_rfl
 i37:=by kernel_rfl
 i127:=by kernel_rfl}
open Go.RowKit in
def Qz.stringslite_Clone (s:ByteArray)(w:zW)(h:s.size<=281474976710656):
  Calls zq 100 #[aL s] w λe a=>e=aM (aL s)/\zb w a:=Any.stringslite_Clone Qz.Md s w h
end Go.Proofs
namespace Go.Proofs.Zq
open Go.RowKit Sha
def XY (r idx)(w)(d:1<=r.size)(c:r.size<=32)(b:idx.size=32):Calls zq 54 #[aL r,aL idx] w λe a=>e=aM (.bool aF)/\a=w:=by go_enter (Qz.fn func54),ntmps54;go_wp2_with fail;refine(BI _ w (by omega) (by omega)).mono ?_;rintro e w2 ⟨rfl,h⟩;obtain rfl:w=w2:=h.symm;go_wp2;go_ret;exact⟨rfl,rfl⟩
def LY (s)(w)(h:s.size<=1000):Calls zq 85 #[aL s] w λe a=>e=aM (aL s)/\zb w a:=by go_enter (Qz.fn func85),ntmps85;go_wp2_with fail;refine(Qz.stringslite_Clone s w (by omega)).mono ?_;rintro e w2 ⟨rfl,hb⟩;have H:=hid hb;go_wp2;go_ret;exact⟨rfl,H.out⟩
def fE (c:Int)(n:Int):Int:=(if c<0 then-(c+1)else c)%n
def RZ (c)(n)(h:0<n):0<=fE c n/\fE c n<n:=⟨Int.emod_nonneg _ (by omega),Int.emod_lt_of_pos _ h⟩
def mW (c)(n:Nat)(h:0<n):∃m:Nat,fE c (n)=(m)/\m<n:=by obtain⟨b,a⟩:=RZ c n (by omega);exact⟨(fE c n).toNat,by omega,by omega⟩
def wS (c n)(w)(i: -9223372036854775808<=c)(g:c<=9223372036854775807)(f:1<=n)(d:n<=256):
  Calls zq 15 #[aC aD c,aC aD n] w λe b=>e=aM (aC aD (fE c n))/\b=w:=by
 by_cases a:c<0
 .have h:Hid (fE c n= -(c+1).tmod n):=by{show _=_;rw[fE,zAz a,<-Int.neg_tmod,Int.tmod_eq_emod_of_nonneg (by omega)]};go_enter (Qz.fn func15),ntmps15;go_wp2;go_ret;exact⟨by rw[h.out];rfl,rfl⟩
 .have h:Hid (fE c n=c%n):=by{show _=_;rw[fE,zAv a]};go_enter (Qz.fn func15),ntmps15;go_wp2;go_ret;exact⟨by rw[h.out];rfl,rfl⟩
def rV (l:zB):zA:=(l.map λb=>Value.int aQ (b.toNat:Int)).toArray
def JY (l)(i)(h:i<l.length):(rV l)[i]? =aA (aC aQ ((l.getD i 0).toNat:Int)):=by simp[rV,h]
def JX (l)(i)(b:UInt8):(rV l).setIfInBounds i (aC aQ (b.toNat:Int))=rV (l.set i b):=by apply zDx.1;rw[zGb];simp[rV,List.map_set]
def VQ (n:Nat):zA:=rV (List.replicate n 0)
def YA (n:Nat)(e:n<=1000)(W):(Instr.makeSlice 50 (aC aD (n)) (aC aD (n))).run zq W= .ok (aK (aA ⟨W.heap.size,0,aB⟩) n n) (W.alloc (aJ (VQ n) 5)):=by
 obtain⟨i,d,c,b,a⟩:=Hh;have:=run_make W 50 5 i (aC aQ 0) ((Qz.fH 50).trans underlying50) d c aD aD (n:Int) (n:Int) (by omega) (Int.le_refl _) (by rw[a];omega) (by omega);have h:(madeCells (Value.int aQ 0).cells n)=VQ n:=by apply zDx.1;rw[show(Value.int aQ 0).cells= #[Value.int aQ 0]from rfl,toList_madeCells_one];simp[VQ,rV]
 rw[this,b,zDw,show((n:Int)).toNat=n from by omega,h]
def At {W:zW}{g:Nat}{l:zB}(h:cL W g 5 (rV l))(c:Nat):(convert 50 9 (aK (aA ⟨g,0,aB⟩) l.length c)).run zq W= .ok (aL ⟨l.toArray⟩) W:=
 pC (P:=zq) W 50 9 5 g 0 c l ((Qz.fH 50).trans underlying50) ((Qz.fH 5).trans underlying5) ((Qz.fH 9).trans underlying9) (λj a=>by rw[zBd,h.cell j];exact JY l j a)
def idxOf (n:Int):zB:=((List.replicate 32 0).set 0 (aE4 ((fE n 64).toNat/2*8))).set 31 (aE4 ((fE n 64).toNat%2))
def gJ (n):(idxOf n).length=32:=by simp[idxOf]
def oO (n)(w)(q: -9223372036854775808<=n)(p:n<=9223372036854775807):
  Calls zq 22 #[aC aD n] w λe d=>e=aM (aL ⟨(idxOf n).toArray⟩)/\zb w d:=by
 have a:∀W,(Instr.makeSlice 50 (aC aD 32) (aC aD 32)).run zq W= .ok (aK (aA ⟨W.heap.size,0,aB⟩) 32 32) (W.alloc (aJ (VQ 32) 5)):=YA 32 (by omega);have r:Hid (zb w (w.alloc (aJ (VQ 32) 5))):=(zGo _ _).alloc (zAb _) _;have k:Hid (cL (w.alloc (aJ (VQ 32) 5)) w.heap.size 5 (rV (List.replicate 32 0))):=cL.new _ _ _;go_enter (Qz.fn func22),ntmps22;go_wp2_with fail;generalize w.alloc (aJ (VQ 32) 5)=w0 at*;refine(wS n 64 w0 q p (by omega) (by omega)).mono ?_;rintro e w2 ⟨rfl,h⟩;obtain rfl:w0=w2:=h.symm;clear h a;obtain⟨m,b,c⟩:=mW n 64 (by omega);have H:Hid (fE n 64=(m:Int)):=b;rw[show fE n 64=(m:Int)from b];clear b;have l:((m:Int)/2*8)=((aE4 (m/2*8)).toNat:Int):=by rw[zFk];omega
 have j:((m:Int)%2)=((aE4 (m%2)).toNat:Int):=by rw[zFk];omega
 have o:Hid (idxOf n=((List.replicate 32 0).set 0 (aE4 (m/2*8))).set 31 (aE4 (m%2))):=by rw[idxOf,H.out];rfl
 have i:=(aE4 (m/2*8)).toNat_lt;have g:=(aE4 (m%2)).toNat_lt;generalize aE4 (m/2*8)=x at*;generalize aE4 (m%2)=y at*;have t:w0.cell? ⟨w.heap.size,0,aB⟩=aA (aC aQ 0):=by rw[k.out.cell];rfl
 have f0:=k.out.frozen 0;have k1:Hid (cL (w0.setCell ⟨w.heap.size,0,aB⟩ (aC aQ (x.toNat:Int))) w.heap.size 5 (rV ((List.replicate 32 0).set 0 x))):=by have:=k.out.fM 0 (aC aQ (x.toNat:Int));rw[JX]at this;exact this
 have s:(w0.setCell ⟨w.heap.size,0,aB⟩ (aC aQ (x.toNat:Int))).cell? ⟨w.heap.size,31,aB⟩=aA (aC aQ 0):=by rw[k1.out.cell,JY _ _ (by simp)];rfl
 have f1:=k1.out.frozen 31;have k2:Hid (cL ((w0.setCell ⟨w.heap.size,0,aB⟩ (aC aQ (x.toNat:Int))).setCell ⟨w.heap.size,31,aB⟩ (aC aQ (y.toNat:Int))) w.heap.size 5 (rV (idxOf n))):=by have:=k1.out.fM 31 (aC aQ (y.toNat:Int));rw[JX,<-o.out]at this;exact this
 have f:(convert 50 9 (aK (aA ⟨w.heap.size,0,aB⟩) 32 32)).run zq ((w0.setCell ⟨w.heap.size,0,aB⟩ (aC aQ (x.toNat:Int))).setCell ⟨w.heap.size,31,aB⟩ (aC aQ (y.toNat:Int)))= .ok (aL ⟨(idxOf n).toArray⟩) ((w0.setCell ⟨w.heap.size,0,aB⟩ (aC aQ (x.toNat:Int))).setCell ⟨w.heap.size,31,aB⟩ (aC aQ (y.toNat:Int))):=by have:=At k2.out 32;rw[gJ]at this;exact this
 have i1:(0:Int)<=(m:Int)/2*8:=by omega
 have i2:(m:Int)/2*8<256:=by omega
 go_wp2;go_ret;exact⟨rfl,(r.out.setCell (by simp) _).setCell (by simp) _⟩
def valOf (n:Int):zB:=List.replicate ((fE n 30).toNat%5) (aE4 (97+(fE n 30).toNat))
def vK (n):(valOf n).length<=4:=by rw[valOf,List.length_replicate];omega
def QD (n)(w)(z: -9223372036854775808<=n)(y:n<=9223372036854775807):
  Calls zq 37 #[aC aD n] w λe g=>e=aM (aL ⟨(valOf n).toArray⟩)/\zb w g:=by
 go_enter (Qz.fn func37),ntmps37;go_wp2_with fail;refine(wS n 30 w z y (by omega) (by omega)).mono ?_;rintro e w2 ⟨rfl,h⟩;obtain rfl:w=w2:=h.symm;obtain⟨m,d,c⟩:=mW n 30 (by omega);have A:Hid (fE n 30=(m:Int)):=d;rw[show fE n 30=(m:Int)from d];have H:Hid (valOf n=List.replicate (m%5) (aE4 (97+m))):=by show _=_;rw[valOf,A.out];rfl
 have f:(97:Int)+(m:Int)=((aE4 (97+m)).toNat:Int):=by rw[zFk];omega
 have B:=hid f;clear f;obtain⟨r,a⟩:∃r:Nat,r=m%5:=⟨_,rfl⟩;have p:(m:Int)%5=(r:Int):=by omega
 have s:r<5:=by omega
 rw[<-a]at H;clear a;generalize aE4 (97+m)=b at*;have t:=b.toNat_lt;go_wp2;go_loopg [4,5] r (λq x i wr=>∃j:Nat,j+q=r/\i=aC aD (j:Int)/\x=aL ⟨(List.replicate j b).toArray⟩/\zb w wr);case atStart=>exact⟨0,by omega,rfl,rfl,zGo _ _⟩
 case round=>
  obtain⟨j,D,rfl,rfl,c1⟩:=hrel
  have C:=hid c1
  clear c1
  by_cases bT:j<r
  .have k:(⟨(List.replicate j b).toArray⟩:ByteArray).size=j:=by show(List.replicate j b).length=j;simp
   have o:(convert 50 9 (aK (aA ⟨wr.heap.size,0,aB⟩) 1 1)).run zq (wr.alloc (aJ #[aC aQ (b.toNat:Int)] 5))= .ok (aL ⟨#[b]⟩) (wr.alloc (aJ #[aC aQ (b.toNat:Int)] 5)):=At (l:=[b]) (cL.new _ _ _) 1;have v:Hid ((⟨(List.replicate j b).toArray⟩:ByteArray)++⟨#[b]⟩=⟨(List.replicate (j+1) b).toArray⟩):=by apply zFw;apply zDx.1;simp[zEj,List.replicate_succ']
   have u:=B.out;generalize(⟨(List.replicate j b).toArray⟩:ByteArray)=X at*;go_wp2;go_roundg (r-(j+1));case measure=>omega
   case rel=>
    go_light
    exact⟨j+1,by omega,by go_num,by rw[<-v.out],C.out.alloc C.out.size _⟩
  .obtain rfl:j=r:=by{omega};go_wp2;go_ret;exact⟨by rw[H.out];rfl,C.out⟩
structure bJ where
 idx:zB
 val:zB
 gone:Bool
def bJ.cells (u:bJ):zV:=[aL ⟨u.idx.toArray⟩,aL ⟨u.val.toArray⟩,.bool u.gone]
def cD (l:List bJ):zV:=l.flatMap bJ.cells
def uC (u)(l):cD (u::l)=u.cells++cD l:=rfl
def IL (l)(u):cD (l++[u])=cD l++u.cells:=by simp[cD]
def lY (l):(cD l).length=l.length*3:=by
 induction l with
 |nil=>rfl
 |cons u l i=>rw[uC,zAc,i,zAf];show 3+_=_;omega
def qD (l):∀(i)(u),l[i]? =aA u->∀j,j<3->(cD l)[i*3+j]? =u.cells[j]? :=by
 induction l with
 |nil=>intro i u h;cases h
 |cons a l b=>
  intro i u h j c;rw[uC];cases i with
  |zero=>simp only[zCu,aEx]at h;subst h;rw[zCj (by show _<3;omega)];simp
  |succ i=>rw[zBn (by show 3<=_;omega),show(i+1)*3+j-a.cells.length=i*3+j by show(i+1)*3+j-3=_;omega];exact b i u (by simpa using h) j c
def BX (u:bJ):∀x∈u.cells,x.oneCell'=aF:=by intro x h;simp only[bJ.cells,zAg,zAr,zCd]at h;obtain rfl|rfl|rfl:=h<;>rfl
def cH (w:zW)(base:Nat)(v:zY)(l:List bJ):Prop:=w.ownsRow base 53 3 v l.length (cD l)
def cH.nil (w)(base):cH w base (aK aB 0 0) []:=World.ownsRow_nil _ _ _ _
def cH.alloc {w base v l}(h:cH w base v l)(o):cH (w.alloc o) base v l:=World.ownsRow.alloc h o
def cH.lt {w base v l}(h:cH w base v l):∀k,v.ownBlock=aA k->base<=k/\k<w.heap.size:=World.ownsRow.lt h
def cH.kept {w w' base v l}(h:cH w base v l)(b:∀g,v.ownBlock=aA g->w'.heap[g]? =w.heap[g]?):cH w' base v l:=by
 obtain⟨d,a⟩:=h;refine⟨d,?_⟩;obtain a|⟨g,cap,cur,rfl,hb,c,r⟩:=a
 .exact aH a
 .exact aI ⟨g,cap,cur,rfl,hb,by rw[b g rfl];exact c,r⟩
def cH.below {w w':zW}{B base:Nat}{v:zY}{l:List bJ}(h:cH w base v l)(b:Below B w w')(c:w.heap.size<=B):cH w' base v l:=
 h.kept λg a=>b.block g (zAd (h.lt g a).2 c)
def QE:∃i,zq.info? 53=aA i/\i.zero=aA (.agg #[aL ⟨#[]⟩,aL ⟨#[]⟩,.bool aG])/\i.size=3/\i.bytes=40:=by
 have h:(zq.info? 53).map (λi=>(i.zero,i.size,i.bytes))=aA (aA (.agg #[aL ⟨#[]⟩,aL ⟨#[]⟩,.bool aG]),3,40):=by kernel_rfl
 cases a:zq.info? 53 with
 |none=>rw[a]at h;cases h
 |some i=>rw[a]at h;simp only[zBi,aEx,aFd]at h;exact⟨i,rfl,h.1,h.2.1,h.2.2⟩
def gM {W ops rest o a Q}(f:o.guard=aB)(s x)
  (r:o.op= .call {callee:= .builtin .append,args:= #[s,x],argTypes:= #[48,48]})
  (base) (v) (l) (hs:a.eval s=v) (b:cH W base v l) (u) (c) (q:a.eval x=aK (aA ⟨W.heap.size,0,aB⟩) 1 c)
  (z:l.length<=1000000) (m:base<=W.heap.size)
  (h:∀g cap w',cH w' base (aK (aA ⟨g,0,aB⟩) (l.length+1) cap) (l++[u])->W.grownBy w' v.ownBlock->wpList zq ops Q rest (a.put o.dst (aK (aA ⟨g,0,aB⟩) (l.length+1) cap)) w'):wpList zq ops Q (o::rest) a (W.alloc (aJ #[aL ⟨u.idx.toArray⟩,aL ⟨u.val.toArray⟩,.bool u.gone] 53)):=by
 obtain⟨i,hi,n,e,k⟩:=QE;refine wpList_append_lies _ f s x 48 r base 53 i _ 3 40 ((Qz.fH 48).trans underlying48) hi n e k rfl (by omega) v l.length (cD l) hs (World.ownsRow.alloc b _) ⟨W.heap.size,0,aB⟩ 1 c u.cells q rfl (λj y p=> ?_) (BX u) (by omega) (by simp only[maxLen];omega) (by omega) (by rw[size_alloc];omega) _ rfl (λg cap w' w t _ _=>h g cap w' ?_ (nT t))
 .have d:(⟨W.heap.size,0,aB⟩:Addr).add j=⟨W.heap.size,j,aB⟩:=by{unfold Addr.add;split<;>simp_all};rw[d];show(W.alloc (aJ u.cells.toArray 53)).cell? _=_;rw[(cL.new W 53 u.cells.toArray).cell j];simpa using p
 .unfold cH;rw[IL,zAc];exact w
def dT {w0 w w':zW}{B base:Nat}{v:zY}{l:List bJ}(d:Below B w0 w)(h:cH w base v l)(c:w.grownBy w' v.ownBlock)(e:B<=base)(a:B<=w.heap.size):Below B w0 w':=
 d.grown c a λk b=>zBb e (h.lt k b).1
def dH (r:Int×Int):bJ:=if r.2%7=0 then⟨idxOf r.1,[],aF⟩else⟨idxOf r.1,valOf r.2,aG⟩
structure uP (w:zW)(v:zY)(l:zII):Prop where
 fits:∀r∈l,-9223372036854775808<=r.1/\r.1<=9223372036854775807/\-9223372036854775808<=r.2/\r.2<=9223372036854775807
 TA:(l=[]/\∃a c,v=aK a 0 c)\/∃g o c,v=aK (aA ⟨g,o,aB⟩) l.length c/\g<w.heap.size/\∀i r,l[i]? =aA r->w.cell? ⟨g,o+i*2,aB⟩=aA (aC aD r.1)/\w.cell? ⟨g,o+i*2+1,aB⟩=aA (aC aD r.2)
def uP.below {w w' B v l}(h:uP w v l)(a:Below B w w')(d:w.heap.size<=B):uP w' v l:=by
 refine⟨h.fits,?_⟩;obtain h1|⟨g,o,c,h1,b,f⟩:=h.TA
 .exact aH h1
 .refine aI ⟨g,o,c,h1,zAd b a.size,λi r e=> ?_⟩;rw[a.cell (zAd b d),a.cell (zAd b d)];exact f i r e
def cZ:∀a:zB,Lib.compareBytes a a=0
 |[]=>rfl
 |x::a=>by rw[aE7,zAv (aFe x),zAv (aFe x)];exact cZ a
def jA:∀{a b:zB},aE7 a b=0->a=b
 |[],[],_=>rfl
 |[],_::_,h=>by simp[aE7]at h
 |_::_,[],h=>by simp[aE7]at h
 |x::a,y::b,h=>by
  rw[aE7]at h;by_cases d:x<y;{rw[zAz d]at h;cases h}
  .rw[zAv d]at h;by_cases c:y<x
   .rw[zAz c]at h;cases h
   .rw[zAv c]at h;have e:=zGi (zEx.1 c) (zEx.1 d);rw[e,jA h]
def gQ:∀a b:zB,aE7 a b= -1\/aE7 a b=0\/aE7 a b=1
 |[],[]=>aI (aH rfl)
 |[],_::_=>aH rfl
 |_::_,[]=>aI (aI rfl)
 |x::a,y::b=>by
  rw[aE7];by_cases c:x<y;{rw[zAz c];exact aH rfl}
  .rw[zAv c];by_cases h:y<x
   .rw[zAz h];exact aI (aI rfl)
   .rw[zAv h];exact gQ a b
def fS:∀a b:zB,aE7 b a= -aE7 a b
 |[],[]=>rfl
 |[],_::_=>rfl
 |_::_,[]=>rfl
 |x::a,y::b=>by
  rw[aE7,aE7];by_cases h:x<y;{rw[zAz h,zAv (zEx.2 (UInt8.le_of_lt h)),zAz h];rfl}
  .by_cases c:y<x
   .simp only[zAz c,zAv h]
   .simp only[zAv c,zAv h];exact fS a b
def nC:∀{a b c:zB},aE7 a b= -1->aE7 b c= -1->aE7 a c= -1
 |[],[],_,h,_=>by simp[aE7]at h
 |_::_,[],_,h,_=>by simp[aE7]at h
 |[],_::_,[],_,h=>by simp[aE7]at h
 |[],_::_,_::_,_,_=>rfl
 |_::_,_::_,[],_,h=>by simp[aE7]at h
 |x::a,y::b,z::c,h1,i=>by
  rw[aE7]at h1 i⊢;by_cases g:x<y
  .by_cases d:y<z
   .rw[zAz (UInt8.lt_trans g d)]
   .rw[zAv d]at i;by_cases f:z<y
    .rw[zAz f]at i;simp at i
    .have e:=zGi (zEx.1 f) (zEx.1 d);rw[<-e,zAz g]
  .rw[zAv g]at h1;by_cases j:y<x
   .rw[zAz j]at h1;simp at h1
   .rw[zAv j]at h1;have e:=zGi (zEx.1 j) (zEx.1 g);subst e;by_cases d:x<z
    .rw[zAz d]
    .rw[zAv d]at i⊢;by_cases f:z<x
     .rw[zAz f]at i;simp at i
     .rw[zAv f]at i⊢;exact nC h1 i
def eJ (l:List oW):Prop:=l.Pairwise λa b=>aE7 a.1 b.1= -1
def wP (l:List oW)(u:bJ):List oW:=
 l.filter (λe=>decide (aE7 e.1 u.idx= -1))++((if u.gone then []else [(u.idx,u.val)])++l.filter (λe=>decide (aE7 e.1 u.idx=1)))
def cT (l:List oW)(us:List bJ):List oW:=us.foldl wP l
def uZ {l u}(h:eJ l):eJ (wP l u):=by
 unfold wP eJ;rw[zCf,zCf];refine⟨h.filter _,⟨?_,h.filter _,?_⟩,?_⟩
 .split<;>simp
 .intro a d b c;split at d
  .cases d
  .rw[zAm]at d;subst d;have:=of_decide_eq_true (zAx.1 c).2;rw[fS b.1 u.idx,this]
 .intro a d b c;have e:=of_decide_eq_true (zAx.1 d).2;obtain c|c:=zAh.1 c
  .split at c
   .cases c
   .rw[zAm]at c;subst c;exact e
  .have f:=of_decide_eq_true (zAx.1 c).2;exact nC e (by rw[fS b.1 u.idx,f])
def kG {us}:∀{l},eJ l->eJ (cT l us):=by
 induction us with
 |nil=>intro l h;exact h
 |cons u us i=>intro l h;exact i (uZ h)
def ix (k:Nat):zB:=idxOf (k:Int)
def TN (n):idxOf n=ix (fE n 64).toNat:=by
 unfold ix idxOf;obtain⟨m,h,hl⟩:=mW n 64 (by omega);have e:fE n 64=(m:Int):=h;rw[e,zGk];have a:fE (m:Int) 64=(m:Int):=by unfold fE;rw[zAv (by omega)];omega
 rw[a,zGk]
def KO (n):(fE n 64).toNat<64:=by obtain⟨m,h,hl⟩:=mW n 64 (by omega);have e:fE n 64=(m:Int):=h;rw[e,zGk];exact hl
def LL (k):(ix k).length=32:=gJ _
def FN (j k)(a:j<64)(h:k<64):aE7 (ix j) (ix k)=if j<k then-1 else if k<j then 1 else 0:=by
 have H:∀j k:Fin 64,aE7 (ix j.val) (ix k.val)=if j.val<k.val then-1 else if k.val<j.val then 1 else 0:=by decide+kernel
 exact H ⟨j,a⟩ ⟨k,h⟩
abbrev St:=Nat->Option (zB)
def St.put (s:St)(m:Nat)(v:Option (zB)):St:=λk=>if k=m then v else s k
def fG (s:St)(k:Nat):Option oW:=(s k).map λv=>(ix k,v)
def lZ (s:St):List oW:=(List.range 64).filterMap (fG s)
def range_split (m)(b:m<64):List.range 64=List.range m++(m::(List.range (63-m)).map (·+(m+1))):=by
 apply List.ext_getElem (by simp;omega);intro i d c;simp only[List.getElem_range];by_cases h:i<m
 .rw[List.getElem_append_left (by simpa using h)];simp
 .rw[List.getElem_append_right (by simpa using zEy.1 h)];simp only[List.length_range];by_cases a:i=m
  .subst a;simp
  .obtain⟨j,rfl⟩:∃j,i=m+1+j:=⟨i-(m+1),by omega⟩;simp[show m+1+j-m=j+1 by omega];omega
def sS {s s':St}{l:List Nat}(h:∀k∈l,s k=s' k):l.filterMap (fG s)=l.filterMap (fG s'):=
 by
 induction l with
 |nil=>rfl
 |cons a l i=>have e:fG s a=fG s' a:=by{unfold fG;rw[h a (zAy ..)]};rw[zFg,zFg,e,i λk b=>h k (zBc _ b)]
def filter_all {s}{l:List Nat}{p}(h:∀k∈l,∀v,p (ix k,v)=aF):(l.filterMap (fG s)).filter p=l.filterMap (fG s):=by
 rw[zFf];intro e d;obtain⟨k,c,a⟩:=List.mem_filterMap.1 d;unfold fG at a;cases b:s k with
 |none=>rw[b]at a;cases a
 |some v=>rw[b]at a;simp only[zBi,aEx]at a;subst a;exact h k c v
def filter_none {s}{l:List Nat}{p}(h:∀k∈l,∀v,p (ix k,v)=aG):(l.filterMap (fG s)).filter p=[]:=by
 rw[zFl];intro e d;obtain⟨k,c,a⟩:=List.mem_filterMap.1 d;unfold fG at a;cases b:s k with
 |none=>rw[b]at a;cases a
 |some v=>rw[b]at a;simp only[zBi,aEx]at a;subst a;rw[h k c v];decide
def Kv (s)(m)(d:m<64)(v)(g):wP (lZ s) ⟨ix m,v,g⟩=lZ (s.put m (if g then aB else aA v)):=by
 unfold lZ wP;have a:∀k∈List.range m,k<m:=λk h=>zCi.1 h;have b:∀k∈(List.range (63-m)).map (·+(m+1)),m<k/\k<64:=λk h=>by obtain⟨j,u,rfl⟩:=zBl.1 h;have:=zCi.1 u;omega
 rw[range_split m d];simp only[List.filterMap_append,zFg,zDl];generalize List.range m=A at*;generalize(List.range (63-m)).map (·+(m+1))=C at*;have q:(A.filterMap (fG s)).filter (λe=>decide (aE7 e.1 (ix m)= -1))=A.filterMap (fG s):=filter_all λk h v=>by have:=a k h;rw[show((ix k,v):oW).1=ix k from rfl,FN k m (by omega) d,zAz this];decide
 have p:(A.filterMap (fG s)).filter (λe=>decide (aE7 e.1 (ix m)=1))=[]:=filter_none λk h v=>by have:=a k h;rw[show((ix k,v):oW).1=ix k from rfl,FN k m (by omega) d,zAz this];decide
 have i:(C.filterMap (fG s)).filter (λe=>decide (aE7 e.1 (ix m)= -1))=[]:=filter_none λk h v=>by have:=b k h;rw[show((ix k,v):oW).1=ix k from rfl,FN k m (by omega) d,zAv (by omega),zAz (by omega)];decide
 have f:(C.filterMap (fG s)).filter (λe=>decide (aE7 e.1 (ix m)=1))=C.filterMap (fG s):=filter_all λk h v=>by have:=b k h;rw[show((ix k,v):oW).1=ix k from rfl,FN k m (by omega) d,zAv (by omega),zAz (by omega)];decide
 have o:A.filterMap (fG (s.put m (if g then aB else aA v)))=A.filterMap (fG s):=sS λk h=>by have:=a k h;unfold St.put;rw[zAv (by omega)]
 have n:C.filterMap (fG (s.put m (if g then aB else aA v)))=C.filterMap (fG s):=sS λk h=>by have:=b k h;unfold St.put;rw[zAv (by omega)]
 have l:fG (s.put m (if g then aB else aA v)) m=if g then aB else aA (ix m,v):=by unfold fG St.put;rw[zAz rfl];cases g<;>rfl
 rw[o,n,l,q,p];cases c:fG s m with
 |none=>rw[i,f];cases g<;>simp
 |some e=>
  have t:aE7 e.1 (ix m)=0:=by
   unfold fG at c;cases r:s m with
   |none=>rw[r]at c;cases c
   |some x=>rw[r]at c;simp only[zBi,aEx]at c;rw[<-c];exact cZ _
  rw[zAn (by rw[t];decide),zAn (by rw[t];decide),i,f];cases g<;>simp
def St.with (s:St)(l:zII):St:=(l.take 20).foldl (λs r=>s.put (fE r.1 64).toNat (if r.2%7=0 then aB else aA (valOf r.2))) s
def Cz (s)(l):cT (lZ s) ((l.take 20).map dH)=lZ (s.with l):=by
 unfold cT St.with;generalize l.take 20=r;induction r generalizing s with
 |nil=>rfl
 |cons x r i=>rw[zEf,zGa,zGa,<-i];congr 1;unfold dH;by_cases h:x.2%7=0;{rw[zAz h,zAz h,TN,Kv _ _ (KO _)];rfl};{rw[zAv h,zAv h,TN,Kv _ _ (KO _)];rfl}
def WL {s e}(h:e∈lZ s):∃k,k<64/\e.1=ix k/\s k=aA e.2:=by
 obtain⟨k,c,a⟩:=List.mem_filterMap.1 h;unfold fG at a;cases b:s k with
 |none=>rw[b]at a;cases a
 |some v=>rw[b]at a;simp only[zBi,aEx]at a;subst a;exact⟨k,zCi.1 c,rfl,b⟩
def Ix {s:St}(a:∀k v,s k=aA v->v.length<=100)(l):∀k v,s.with l k=aA v->v.length<=100:=by
 unfold St.with;generalize l.take 20=r;induction r generalizing s with
 |nil=>exact a
 |cons x r i=>
  rw[zGa];refine i λk v h=> ?_;unfold St.put at h;split at h
  .split at h
   .cases h
   .have:=vK x.2;simp only[aEx]at h;subst h;omega
  .exact a k v h
def vT (s):eJ (lZ s):=by
 unfold lZ eJ;have h:(List.range 64).Pairwise (·<·):=List.pairwise_lt_range;rw[List.pairwise_filterMap];refine h.imp_of_mem λ{j k} g hk f=> ?_;intro a d b c;have l:a.1=ix j:=by
  unfold fG at d;cases e:s j with
  |none=>rw[e]at d;cases d
  |some v=>rw[e]at d;simp only[zBi,aEx]at d;rw[<-d]
 have i:b.1=ix k:=by
  unfold fG at c;cases e:s k with
  |none=>rw[e]at c;cases c
  |some v=>rw[e]at c;simp only[zBi,aEx]at c;rw[<-c]
 rw[l,i,FN j k (zCi.1 g) (zCi.1 hk),zAz f]
def IM {α β:Type}(l:List α)(f:α->β)(t)(h:t<l.length):(l.take (t+1)).map f=(l.take t).map f++[f l[t]]:=by rw[zEl h,zDk];rfl
def uP.at {w w' v vc l}(h:uP w (aK v l.length vc) l)(b:zb w w')(t)(a:t<l.length):
  ∃g o,v=aA ⟨g,o,aB⟩/\w'.cell? ⟨g,o+t*2,aB⟩=aA (aC aD l[t].1)/\w'.cell? ⟨g,o+t*2+1,aB⟩=aA (aC aD l[t].2):=by
 obtain⟨rfl,_⟩|⟨g,o,c,h1,d,e⟩:=h.TA
 .simp at a
 .injection h1 with h1 _ _;have:=e t l[t] (zAi a);refine⟨g,o,h1,?_,?_⟩
  .rw[b.cell d];exact this.1
  .rw[b.cell d];exact this.2
def Ht (v)(l)(w)(hl:uP w v l)(hlen:l.length<=4611686018427387904):
  Calls zq 20 #[v] w λe G=>∃U,e=aM U/\cH G w.heap.size U ((l.take 20).map dH)/\zb w G:=by
 obtain⟨T,S,hv⟩:∃T S,v=aK T l.length S:=by obtain⟨rfl,a,c,rfl⟩|⟨g,o,c,rfl,_⟩:=hl.TA;{exact⟨a,c,rfl⟩};{exact⟨_,c,rfl⟩}
 subst hv;have Q:=hid hl;go_enter (Qz.fn func20),ntmps20;go_wp2;go_loopg [3,4] 20 (λq out i wr=>∃t:Nat,t+q=20/\t<=l.length/\i=aC aD (t:Int)/\zb w wr/\cH wr w.heap.size out ((l.take t).map dH));case atStart=>exact⟨0,rfl,zBu _,rfl,zGo _ _,cH.nil _ _⟩
 case round=>
  obtain⟨t,ht,om,rfl,b1,b2⟩:=hrel
  have B:=hid b1
  have K:=hid b2
  by_cases L:t<l.length/\t<20
  .obtain⟨bT,sn⟩:=L;have ee:(t:Int)<(l.length:Int):=by{omega};have Y:(t:Int)<20:=by omega
   obtain⟨g,o,rfl,c1,_⟩:=Q.out.at B.out t bT;have d:=Q.out.fits l[t] (zDo _);have E:Hid (∀W,zb w W->W.cell? ⟨g,o+t*2+1,aB⟩=aA (aC aD l[t].2)):=λW hW=>by obtain⟨g',o',e,_,Z⟩:=Q.out.at hW t bT;injection e with e;injection e with O N;subst O;subst N;exact Z
   have Hs:=hid (IM l dH t bT);generalize l[t]=r at*;obtain⟨r1,r2⟩:=r;dsimp only at*;go_wp2_with fail;refine(oO r1 wr d.1 d.2.1).mono ?_;rintro e w2 ⟨rfl,x⟩;have k:=hid (B.out.trans (x.mono B.out.size));have R:=hid (K.out.below x (zAb _));clear x c1 B K;go_upto_region 6 with(fail)
   have A:Hid (cL (w2.alloc (aJ #[aL ⟨(idxOf r1).toArray⟩,aL ⟨#[]⟩,.bool aG] 53)) w2.heap.size 53 #[aL ⟨(idxOf r1).toArray⟩,aL ⟨#[]⟩,.bool aG]):=cL.new _ _ _;have f:Hid (zb w (w2.alloc (aJ #[aL ⟨(idxOf r1).toArray⟩,aL ⟨#[]⟩,.bool aG] 53))):=k.out.alloc k.out.size _;have J:Hid (cH (w2.alloc (aJ #[aL ⟨(idxOf r1).toArray⟩,aL ⟨#[]⟩,.bool aG] 53)) w.heap.size u3 ((l.take t).map dH)):=R.out.alloc _;have X:=k.out.size;have HN:Hid (∀g,u3.ownBlock=aA g->g<w2.heap.size):=λg C=>(R.out.lt g C).2;generalize w2.alloc (aJ #[aL ⟨(idxOf r1).toArray⟩,aL ⟨#[]⟩,.bool aG] 53)=w3 at*;clear k R;have c3:=E.out w3 f.out;by_cases I:r2%7=0
   .have M:=Int.tmod_eq_zero_of_dvd (Int.dvd_of_emod_eq_zero I);have N:w3.cell? ⟨w2.heap.size,2,aB⟩=aA (.bool aG):=by{rw[A.out.cell];rfl};have f2:=A.out.frozen 2;have P:dH (r1,r2)=⟨idxOf r1,[],aF⟩:=zAz I;go_upto_region 9 with(fail)
    have z:Hid (cL (w3.setCell ⟨w2.heap.size,2,aB⟩ (.bool aF)) w2.heap.size 53 #[aL ⟨(idxOf r1).toArray⟩,aL ⟨#[]⟩,.bool aF]):=A.out.fM 2 _;have H:Hid (zb w (w3.setCell ⟨w2.heap.size,2,aB⟩ (.bool aF))):=f.out.setCell X _;have C4:Hid (cH (w3.setCell ⟨w2.heap.size,2,aB⟩ (.bool aF)) w.heap.size u3 ((l.take t).map dH)):=J.out.kept λg C=>zGr _ _ _ _ (by have:=HN.out g C;simp only;omega);generalize w3.setCell ⟨w2.heap.size,2,aB⟩ (.bool aF)=w4 at*;clear A f J N f2 c3;have u:=H.out.size;have j:((l.take t).map dH).length=t:=by{rw[zCl,zBf];omega};have p:((l.take t).map dH).length<=1000000:=by{omega};have y:=hid j;clear j;go_wp2_with (first|(refine zGw rfl 53 _ rfl w2.heap.size rfl 53 _ (0,0) _ z.out ((Qz.fH 53).trans underlying53) rfl (by kernel_rfl) ?_)|(at_builtin;refine gM rfl _ _ rfl w.heap.size _ _ rfl C4.out ⟨idxOf r1,[],aF⟩ 1 rfl p u ?_;intro g' D G b s));go_roundg (19-t);case measure=>omega
    case rel=>
     go_light
     refine⟨t+1,by omega,by omega,by go_num,dT H.out C4.out s (zAb _) H.out.size,?_⟩
     rw[Hs.out,show dH (r1,r2)=⟨idxOf r1,[],aF⟩from P]
     rw[y.out]at b
     exact b
   .have M:¬r2.tmod 7=0:=λh=>I (Int.emod_eq_zero_of_dvd (Int.dvd_of_tmod_eq_zero h));have P:dH (r1,r2)=⟨idxOf r1,valOf r2,aG⟩:=zAv I;go_wp2_with fail;refine(QD r2 w3 d.2.2.1 d.2.2.2).mono ?_;rintro e w5 ⟨rfl,m⟩;have n:Hid (cL w5 w2.heap.size 53 #[aL ⟨(idxOf r1).toArray⟩,aL ⟨#[]⟩,.bool aG]):=A.out.below m A.out.lt;have F:Hid (zb w w5):=f.out.trans (m.mono f.out.size);have C5:Hid (cH w5 w.heap.size u3 ((l.take t).map dH)):=J.out.below m (zAb _);have O:w5.cell? ⟨w2.heap.size,1,aB⟩=aA (aL ⟨#[]⟩):=by{rw[n.out.cell];rfl};have f1:w5.frozen? ⟨w2.heap.size,1,aB⟩=aG:=n.out.frozen 1;clear m A f J c3;go_upto_region 9 with(fail)
    have z:Hid (cL (w5.setCell ⟨w2.heap.size,1,aB⟩ (aL ⟨(valOf r2).toArray⟩)) w2.heap.size 53 #[aL ⟨(idxOf r1).toArray⟩,aL ⟨(valOf r2).toArray⟩,.bool aG]):=n.out.fM 1 _;have H:Hid (zb w (w5.setCell ⟨w2.heap.size,1,aB⟩ (aL ⟨(valOf r2).toArray⟩))):=F.out.setCell X _;have C4:Hid (cH (w5.setCell ⟨w2.heap.size,1,aB⟩ (aL ⟨(valOf r2).toArray⟩)) w.heap.size u3 ((l.take t).map dH)):=C5.out.kept λg C=>zGr _ _ _ _ (by have:=HN.out g C;simp only;omega);generalize w5.setCell ⟨w2.heap.size,1,aB⟩ (aL ⟨(valOf r2).toArray⟩)=w4 at*;clear n F C5 O f1;have u:=H.out.size;have j:((l.take t).map dH).length=t:=by{rw[zCl,zBf];omega};have p:((l.take t).map dH).length<=1000000:=by{omega};have y:=hid j;clear j;go_wp2_with (first|(refine zGw rfl 53 _ rfl w2.heap.size rfl 53 _ (0,0) _ z.out ((Qz.fH 53).trans underlying53) rfl (by kernel_rfl) ?_)|(at_builtin;refine gM rfl _ _ rfl w.heap.size _ _ rfl C4.out ⟨idxOf r1,valOf r2,aG⟩ 1 rfl p u ?_;intro g' D G b s));go_roundg (19-t);case measure=>omega
    case rel=>
     go_light
     refine⟨t+1,by omega,by omega,by go_num,dT H.out C4.out s (zAb _) H.out.size,?_⟩
     rw[Hs.out,show dH (r1,r2)=⟨idxOf r1,valOf r2,aG⟩from P]
     rw[y.out]at b
     exact b
  .have V:(l.take t).map dH=(l.take 20).map dH:=by
    by_cases h:t<l.length;{obtain rfl:t=20:=by{omega};rfl};{rw[zCx (by omega),zCx (by omega)]}
   have Hq:=hid V;clear V;by_cases h:t<l.length;{have h1:(t:Int)<(l.length:Int):=by{omega};have Z:¬(t:Int)<20:=by{omega};go_wp2;go_ret;exact⟨u3,rfl,by rw[<-List.map_take,<-Hq.out];exact K.out,B.out⟩};{have h1:¬(t:Int)<(l.length:Int):=by{omega};go_wp2;go_ret;exact⟨u3,rfl,by rw[<-List.map_take,<-Hq.out];exact K.out,B.out⟩}
def nP:Nat->List oW->List oW->Nat->Nat
 |0,_,_,_=>0
 |f+1,l,w,d=>if l.length<2\/l=w then 0 else 1+(nP f (dG l d 0) (dG w d 0) (d+1)+nP f (dG l d 1) (dG w d 1) (d+1))
def FT (l)(d):(dG l d 0).length+(dG l d 1).length=l.length:=by
 unfold dG;induction l with
 |nil=>rfl
 |cons e l i=>obtain h|h:=rA e.1 d;{rw[zAt (by rw[h];rfl),zAn (by rw[h];decide),zAf,zAf];omega};{rw[zAn (by rw[h];decide),zAt (by rw[h];rfl),zAf,zAf];omega}
def wZ:∀(f:Nat)(l w:List oW)(d:Nat),nP f l w d<=f*(l.length-1)
 |0,_,_,_=>zBu _
 |f+1,l,w,d=>by rw[nP];split;{exact zBu _};{rename_i h;have i:=wZ f (dG l d 0) (dG w d 0) (d+1);have g:=wZ f (dG l d 1) (dG w d 1) (d+1);have hl:=FT l d;have c:2<=l.length:=by{omega};generalize(dG l d 0).length=a at*;generalize(dG l d 1).length=b at*;generalize l.length=n at*;subst hl;have e:(f+1)*(a+b-1)=f*(a+b-1)+(a+b-1):=by{rw[Nat.succ_mul]};have j:f*(a-1)+f*(b-1)<=f*(a+b-1):=by{rw[<-Nat.mul_add];exact Nat.mul_le_mul_left _ (by omega)};rw[e];omega}
def IQ (rs:Nat->zII):Nat->St
 |0=>λ_=>aB
 |j+1=>(IQ rs j).with (rs j)
open Go Go.RowKit Sha Go.Ga Go.Ren
abbrev ptr:Option Nat->zY
 |none=> .pointer aB
 |some b=>aO (aA ⟨b,0,aB⟩)
def jB (z o:Option Nat)(i v g:zB)(hs:Int):zA:= #[ptr z,ptr o,aL ⟨i.toArray⟩,aL ⟨v.toArray⟩,aL ⟨g.toArray⟩,aC aD hs]
structure aX (w:zW)(b:Nat)(z o:Option Nat)(i v g:zB)(hs:Int):Prop where
 at':∃fr,w.heap[b]? =aA (aJ (jB z o i v g hs) 272 fr)
section
variable {w:zW}{b:Nat}{z o:Option Nat}{i v g:zB}{hs:Int}
def aX.lt (h:aX w b z o i v g hs):b<w.heap.size:=by obtain⟨fr,h⟩:=h.at';exact(zAa.1 h).1
def aX.c0 (h:aX w b z o i v g hs):w.cell? ⟨b,0,aB⟩=aA (ptr z):=by obtain⟨fr,h⟩:=h.at';exact(bC h 0).trans rfl
def aX.c1 (h:aX w b z o i v g hs):w.cell? ⟨b,1,aB⟩=aA (ptr o):=by obtain⟨fr,h⟩:=h.at';exact(bC h 1).trans rfl
def aX.c2 (h:aX w b z o i v g hs):w.cell? ⟨b,2,aB⟩=aA (aL ⟨i.toArray⟩):=by obtain⟨fr,h⟩:=h.at';exact(bC h 2).trans rfl
def aX.c3 (h:aX w b z o i v g hs):w.cell? ⟨b,3,aB⟩=aA (aL ⟨v.toArray⟩):=by obtain⟨fr,h⟩:=h.at';exact(bC h 3).trans rfl
def aX.c4 (h:aX w b z o i v g hs):w.cell? ⟨b,4,aB⟩=aA (aL ⟨g.toArray⟩):=by obtain⟨fr,h⟩:=h.at';exact(bC h 4).trans rfl
def aX.c5 (h:aX w b z o i v g hs):w.cell? ⟨b,5,aB⟩=aA (aC aD hs):=by obtain⟨fr,h⟩:=h.at';exact(bC h 5).trans rfl
def dC (w:zW)(b:Nat):Prop:=∃c,w.heap[b]? =aA (aJ c 272 (0,0))
def dC.f (h:dC w b)(j):w.frozen? ⟨b,j,aB⟩=aG:=by obtain⟨c,h⟩:=h;exact cR h j
def kW (h:aX w b z o i v g hs):Calls zq 227 #[ptr (aA b)] w λe a=>e=aM (.bool (z.isNone&&o.isNone))/\a=w:=by
 have k:=h.c0;have k1:=h.c1;cases z with
 |none=>
  cases o with
  |none=>go_enter (Qz.fn func227),ntmps227;go_wp2;go_ret;exact⟨rfl,rfl⟩
  |some o=>go_enter (Qz.fn func227),ntmps227;go_wp2;go_ret;exact⟨rfl,rfl⟩
 |some z=>go_enter (Qz.fn func227),ntmps227;go_wp2;go_ret;exact⟨rfl,rfl⟩
def LS (w):Calls zq 225 #[ptr aB] w λe a=>e=aM (.bool aF)/\a=w:=by go_enter (Qz.fn func225),ntmps225;go_wp2;go_ret;exact⟨rfl,rfl⟩
def xQ (h:aX w b z o i v g hs):Calls zq 225 #[ptr (aA b)] w λe a=>e=aM (.bool (z.isNone&&o.isNone))/\a=w:=by have H:=hid h;go_enter (Qz.fn func225),ntmps225;go_wp2_with fail;refine(kW H.out).mono ?_;rintro e a ⟨rfl,rfl⟩;go_wp2;go_ret;exact⟨rfl,rfl⟩
def xH (w):Calls zq 246 #[ptr aB] w λe a=>e=aM (.bool aG)/\a=w:=by go_enter (Qz.fn func246),ntmps246;go_wp2;go_ret;exact⟨rfl,rfl⟩
def lT (h:aX w b z o i v g hs):Calls zq 246 #[ptr (aA b)] w λe a=>e=aM (.bool g.isEmpty)/\a=w:=by have k:=h.c4;go_enter (Qz.fn func246),ntmps246;go_wp2;go_ret;exact⟨rfl,rfl⟩
def Gh (w):Calls zq 222 #[ptr aB] w λe a=>e=aM (ptr aB)/\a=w:=by go_enter (Qz.fn func222),ntmps222;go_wp2;go_ret;exact⟨rfl,rfl⟩
end
def eT (w:zW)(v:zO)(us:List bJ):Prop:=0<us.length->∃g o,v=aA ⟨g,o,aB⟩/\g<w.heap.size/\∀j u,(cD us)[j]? =aA u->w.cell? ⟨g,o+j,aB⟩=aA u
def eT.below {w w' B v us}(h:eT w v us)(a:Below B w w')(i:w.heap.size<=B):eT w' v us:=λf=>by obtain⟨g,o,e,c,d⟩:=h f;exact⟨g,o,e,zAd c a.size,λj u b=>by rw[<-d j u b];exact a.cell (p:=⟨g,o+j,aB⟩) (by simp only;omega)⟩
def eT.idx {w v us}(h:eT w v us)(i)(u)(b:us[i]? =aA u):∃g o,v=aA ⟨g,o,aB⟩/\g<w.heap.size/\w.cell? ⟨g,o+i*3,aB⟩=aA (aL ⟨u.idx.toArray⟩)/\w.cell? ⟨g,o+i*3+1,aB⟩=aA (aL ⟨u.val.toArray⟩)/\w.cell? ⟨g,o+i*3+2,aB⟩=aA (.bool u.gone):=by
 have hi:=(zBa.1 b).1;obtain⟨g,o,e,d,a⟩:=h (by omega);have k:=λj (c:j<3)=>qD us i u b j c;refine⟨g,o,e,d,?_,?_,?_⟩
 .exact a (i*3) _ ((k 0 (by decide)).trans rfl)
 .rw[zCh];exact a (i*3+1) _ ((k 1 (by decide)).trans rfl)
 .rw[zCh];exact a (i*3+2) _ ((k 2 (by decide)).trans rfl)
structure Cut (us:List bJ)(d m:Nat):Prop where
 le:m<=us.length
 zero:∀i u,i<m->us[i]? =aA u->eD u.idx d=0
 one:∀i u,m<=i->us[i]? =aA u->eD u.idx d=1
def LX:∀{a b:zB},a.length=b.length->aE7 a b= -1->∃j,j<a.length/\(∀i,i<j->a.getD i 0=b.getD i 0)/\(a.getD j 0).toNat<(b.getD j 0).toNat
 |[],[],_,h=>by simp[aE7]at h
 |[],_::_,h,_=>by simp at h
 |_::_,[],h,_=>by simp at h
 |x::a,y::b,hl,h=>by
  rw[aE7]at h;by_cases d:x<y;{exact⟨0,by simp,λi hi=>by omega,by simpa using UInt8.lt_iff_toNat_lt.1 d⟩}
  .rw[zAv d]at h;by_cases c:y<x
   .rw[zAz c]at h;simp at h
   .rw[zAv c]at h;have e:=zGi (zEx.1 c) (zEx.1 d);obtain⟨j,k,f,g⟩:=LX (by simpa using hl) h;refine⟨j+1,by simp;omega,λi hi=> ?_,by simpa using g⟩;cases i with
    |zero=>simpa using e
    |succ i=>simpa using f i (by omega)
def Hi (x y r)(j:x<256)(g:y<256)(a:r<8)(h:∀i,i<r->x/2^(7-i)%2=y/2^(7-i)%2)(l:x/2^(7-r)%2=1)(m:y/2^(7-r)%2=0):y<x:=by
 have k:=h;have f:=k 0;have k1:=k 1;have k2:=k 2;have e:=k 3;have d:=k 4;have c:=k 5;have b:=k 6;match r,a with
 |0,_=>simp at*;omega
 |1,_=>simp at*;omega
 |2,_=>simp at*;omega
 |3,_=>simp at*;omega
 |4,_=>simp at*;omega
 |5,_=>simp at*;omega
 |6,_=>simp at*;omega
 |7,_=>simp at*;omega
def Hg (x y)(g:x<256)(f:y<256)(h:∀i,i<8->x/2^(7-i)%2=y/2^(7-i)%2):x=y:=by have e:=h 0;have k1:=h 1;have k2:=h 2;have d:=h 3;have c:=h 4;have b:=h 5;have a:=h 6;have k:=h 7;simp at*;omega
def Ho {a b}(o:a.length=32)(n:b.length=32)(h:aE7 a b= -1){d}(c:∀i,i<d->eD a i=eD b i)(g:eD a d=1):eD b d=1:=by
 obtain f|f:=rA b d
 .exfalso;obtain⟨j,m,l,p⟩:=LX (by omega) h;obtain bT|rfl|k:=Nat.lt_trichotomy (d/8) j
  .have:=l (d/8) bT;unfold eD at f g;rw[this]at g;omega
  .have e:∀i,i<d%8->(a.getD (d/8) 0).toNat/2^(7-i)%2=(b.getD (d/8) 0).toNat/2^(7-i)%2:=λi hi=>by
    have:=c (8*(d/8)+i) (by omega);unfold eD at this;rw[show(8*(d/8)+i)/8=d/8 by omega,show(8*(d/8)+i)%8=i by omega]at this;exact this
   have:=Hi _ _ (d%8) (aFf _) (aFf _) (by omega) e g f;omega
  .have e:∀i,i<8->(a.getD j 0).toNat/2^(7-i)%2=(b.getD j 0).toNat/2^(7-i)%2:=λi hi=>by
    have:=c (8*j+i) (by omega);unfold eD at this;rw[show(8*j+i)/8=j by omega,show(8*j+i)%8=i by omega]at this;exact this
   have:=Hg _ _ (aFf _) (aFf _) e;omega
 .exact f
def bF (us:List bJ):List oW:=us.map λu=>(u.idx,u.val)
def eH (us):(bF us).length=us.length:=zCl ..
structure Sub (us:List bJ)(d:Nat):Prop where
 order:us.Pairwise λa b=>aE7 a.idx b.idx= -1
 idx:∀u∈us,u.idx.length=32
 bits:∀a∈us,∀b∈us,∀i,i<d->eD a.idx i=eD b.idx i
def bL (d b:Nat)(us:List bJ):List bJ:=us.filter λu=>eD u.idx d==b
def fL (us)(d b):bF (bL d b us)=dG (bF us) d b:=by unfold bF bL dG;rw[List.filter_map];rfl
def Oa (d:Nat):∀us:List bJ,(us.Pairwise λa b=>eD a.idx d=1->eD b.idx d=1)->∃m,Cut us d m/\us.take m=bL d 0 us/\us.drop m=bL d 1 us
 |[],_=>⟨0,⟨zAb _,λi u hi=>by omega,λi u _ h=>by simp at h⟩,rfl,rfl⟩
 |u::us,h=>by
  obtain⟨k,j⟩:=zBy.1 h;obtain f|f:=rA u.idx d
  .obtain⟨m,g,n,l⟩:=Oa d us j;refine⟨m+1,⟨by have:=g.le;simp;omega,λi v hi c=> ?_,λi v hi c=> ?_⟩,?_,?_⟩
   .cases i with
    |zero=>simp at c;rw[<-c];exact f
    |succ i=>exact g.zero i v (by omega) (by simpa using c)
   .cases i with
    |zero=>omega
    |succ i=>exact g.one i v (by omega) (by simpa using c)
   .rw[zFe,n,bL,bL,zAt (by rw[f];rfl)]
   .rw[zFh,l,bL,bL,zAn (by rw[f];decide)]
  .have e:∀v∈u::us,eD v.idx d=1:=λv c=>by
    obtain rfl|c:=zAg.1 c;{exact f};{exact k v c f}
   refine⟨0,⟨zBu _,λi v hi=>by omega,λi v _ c=>e v (zDf c)⟩,?_,?_⟩;{rw[zFm,bL,zFl.2];intro v c;rw[e v c];decide};{rw[zEu,bL,zFf.2];intro v c;rw[e v c];rfl}
def Sub.cut {us:List bJ}{d:Nat}(h:Sub us d):∃m,Cut us d m/\us.take m=bL d 0 us/\us.drop m=bL d 1 us:=
 Oa d us (h.order.imp_of_mem λ{a b} e hb c h1=>Ho (h.idx a e) (h.idx b hb) c (h.bits a e b hb) h1)
def Sub.deep {us d}(h:Sub us d)(f:2<=us.length):d<256:=by
 match us,f with
 |a::b::us,_=>obtain c|c:=zDc d 256;{exact c};{exfalso;have e:=Cp (h.idx a (by simp)) (h.idx b (by simp)) λi hi=>h.bits a (by simp) b (by simp) i (by omega);have:=(zBy.1 h.order).1 b (by simp);rw[e,cZ]at this;cases this}
def Sub.zero {us}(h:us.Pairwise λa b=>aE7 a.idx b.idx= -1)(hi:∀u∈us,u.idx.length=32):Sub us 0:=⟨h,hi,λ_ _ _ _ i hi=>by omega⟩
def sX (us)(d):(bL d 0 us).length+(bL d 1 us).length=us.length:=by have:=FT (bF us) d;rw[<-fL,<-fL,eH,eH,eH]at this;exact this
def Dd (k d):mE k [] d=dg k [0]:=by unfold mE;cases 256-d<;>rfl
def yD (k d)(e):mE k [e] d=dg k (FH k e):=by unfold mE;cases 256-d<;>rfl
def WE (k d)(l)(h:2<=l.length)(c:d<256):mE k l d=dg k (2::(mE k (dG l d 0) (d+1)++mE k (dG l d 1) (d+1))):=by
 unfold mE;rw[show 256-d=(256-(d+1))+1 by omega];match l,h with
 |a::b::l,_=>rfl
def vM (k d)(l)(h:k<=32):(mE k l d).length=k:=tP k _ h
def addr_add (g o j):(⟨g,o,aB⟩:Addr).add j=⟨g,o+j,aB⟩:=by unfold Addr.add;split<;>simp_all
def eT.part {w v us}(h:eT w v us)(m):eT w v (us.take m):=λd=>by
 obtain⟨g,o,e,b,c⟩:=h (by rw[zBf]at d;omega);refine⟨g,o,e,b,λj u a=>c j u ?_⟩;have f:cD us=cD (us.take m)++cD (us.drop m):=by rw[cD,cD,cD,<-List.flatMap_append,zCa]
 rw[f,zCj (zBa.1 a).1];exact a
def eT.rest {w v vb us}(h:eT w v us)(m)(d:m<us.length->vb=v.map λx=>x.add (m*3)):eT w vb (us.drop m):=λf=>by
 rw[zCn]at f;obtain⟨g,o,e,b,c⟩:=h (by omega);subst e;refine⟨g,o+m*3,(d (by omega)).trans (by rw[zBi,addr_add]),b,λj u a=> ?_⟩;rw[zCh];refine c (m*3+j) u ?_;have i:cD us=cD (us.take m)++cD (us.drop m):=by rw[cD,cD,cD,<-List.flatMap_append,zCa]
 rw[i,zBn (by rw[lY,zBf];omega),lY,zBf,show m*3+j-min m us.length*3=j by omega];exact a
abbrev iM (k:Nat)(us:List bJ)(d:Nat):zB:=mE k (bF us) d
inductive eL (k:Nat)(w:zW):Option Nat->List bJ->zP
 |nil (d:Nat):eL k w aB [] d
 |leaf {b:Nat} {u:bJ} {d:Nat} {hs:Int} (h:aX w b aB aB u.idx u.val (iM k [u] d) hs):eL k w (aA b) [u] d
 |node {b:Nat} {us:List bJ} {d:Nat} {z o:Option Nat} {hs:Int} (h2:2<=us.length) (hd:d<256) (h:aX w b z o [] [] (iM k us d) hs) (hz:eL k w z (bL d 0 us) (d+1)) (ho:eL k w o (bL d 1 us) (d+1)):eL k w (aA b) us d
inductive cO (k:Nat)(w:zW):Option Nat->List bJ->Nat->Nat->Nat->List (Nat×ByteArray)->Prop
 |done {p:Option Nat} {us:List bJ} {d lo hi:Nat} (h:eL k w p us d) (hl:lo<=hi):cO k w p us d lo hi []
 |leaf {b:Nat} {u:bJ} {d lo hi:Nat} {hs:Int} (h1:lo<=b) (h2:b<hi) (h:aX w b aB aB u.idx u.val [] hs):cO k w (aA b) [u] d lo hi [(b,⟨(iM k [u] d).toArray⟩)]
 |node {b:Nat} {us:List bJ} {d lo m hi:Nat} {z o:Option Nat} {hs:Int} {rz ro:List (Nat×ByteArray)} (h2:2<=us.length) (hd:d<256) (h:aX w b z o [] [] [] hs) (hz:cO k w z (bL d 0 us) (d+1) lo m rz) (ho:cO k w o (bL d 1 us) (d+1) m b ro) (hb:b<hi):cO k w (aA b) us d lo hi (rz++ro++[(b,⟨(iM k us d).toArray⟩)])
section
variable {k:Nat}{w w':zW}{p:Option Nat}{us:List bJ}{d lo hi:Nat}{rows:List (Nat×ByteArray)}
def eC {b z o c f i v g i' v' l hs a}(h:aX w b z o i v g hs)(m:aX w b c f i' v' l a):z=c/\o=f/\i=i'/\v=v'/\g=l/\hs=a:=by
 obtain⟨fr,e⟩:=h.at';obtain⟨n,B⟩:=m.at';rw[B]at e;injection e with e;injection e with e _ _;have e:=congrArg Array.toList e;simp only[jB,List.cons.injEq,and_true]at e;obtain⟨A,u,t,s,r,q⟩:=e;have j:∀{x y:Option Nat},ptr x=ptr y->y=x:=λ{x y} h=>by cases x<;>cases y<;>simp_all [ptr]
 refine⟨j A,j u,?_,?_,?_,?_⟩
 .simpa using t.symm
 .simpa using s.symm
 .simpa using r.symm
 .simpa using q.symm
def GJ (h:k<=32):(iM k us d).length=k:=vM k d _ h
def qU (a:1<=k)(h:k<=32):iM k us d≠[]:=λe=>by have:=GJ (us:=us) (d:=d) h;rw[e]at this;simp at this;omega
def GI (k d a)(u):iM k [u] d=iM k [u] a:=by unfold iM bF;rw[List.map_singleton,yD,yD]
def eL.iA (h:eL k w p us d):p=aB↔us=[]:=by
 cases h with
 |nil=>simp
 |leaf=>simp
 |node a=>constructor;{intro e;cases e};{rintro rfl;simp at a}
def cO.iA (h:cO k w p us d lo hi rows):p=aB↔us=[]:=by
 cases h with
 |done h=>exact h.iA
 |leaf=>simp
 |node a=>constructor;{intro e;cases e};{rintro rfl;simp at a}
def cO.Fp (h:cO k w p us d lo hi rows):lo<=hi:=by
 induction h with
 |done _ h=>exact h
 |leaf h1 b _=>omega
 |node _ _ _ _ _ hb a i=>omega
def cO.wide {l a}(h:cO k w p us d lo hi rows)(c:l<=lo)(f:hi<=a):cO k w p us d l a rows:=by
 induction h generalizing l a with
 |done h hl=>exact .done h (by omega)
 |leaf k1 k2 h=>exact .leaf (by omega) (by omega) h
 |node g2 e g j go m i b=>exact .node g2 e g (i c (zAb _)) go (by omega)
def eL.keep (m:1<=k)(j:k<=32)(l:∀b z o i v g hs,g≠[]->aX w b z o i v g hs->∃a,aX w' b z o i v g a)(h:eL k w p us d):eL k w' p us d:=by
 induction h with
 |nil d=>exact .nil d
 |leaf h=>obtain⟨a,f⟩:=l _ _ _ _ _ _ _ (qU m j) h;exact .leaf f
 |node q n h _ _ e c=>obtain⟨a,f⟩:=l _ _ _ _ _ _ _ (qU m j) h;exact .node q n f e c
def cO.keep (q:1<=k)(l:k<=32)(f:∀b z o i v g hs,aX w b z o i v g hs->∃a,aX w' b z o i v g a)(h:cO k w p us d lo hi rows):cO k w' p us d lo hi rows:=by
 induction h with
 |done h hl=>exact .done (h.keep q l λb z o i v g hs _=>f b z o i v g hs) hl
 |leaf k1 k2 h=>obtain⟨a,j⟩:=f _ _ _ _ _ _ _ h;exact .leaf k1 k2 j
 |node n m h _ _ hb e c=>obtain⟨a,j⟩:=f _ _ _ _ _ _ _ h;exact .node n m j e c hb
def cO.each (h:cO k w p us d lo hi rows):(∀x∈rows,lo<=x.1/\x.1<hi/\∃z o i v r,aX w x.1 z o i v [] r)/\(rows.map (·.1)).Nodup:=by
 induction h with
 |done=>exact⟨λx b=>by simp at b,by simp⟩
 |leaf h1 m h=>refine⟨λx b=> ?_,by simp⟩;rw[zAm]at b;subst b;exact⟨h1,m,_,_,_,_,_,h⟩
 |node m A h n s hb g f=>
  have u:=n.Fp;have t:=s.Fp;refine⟨λx b=> ?_,?_⟩
  .obtain b|b:=zAh.1 b
   .obtain b|b:=zAh.1 b
    .have:=g.1 x b;exact⟨this.1,by omega,this.2.2⟩
    .have:=f.1 x b;exact⟨by omega,by omega,this.2.2⟩
   .rw[zAm]at b;subst b;exact⟨by omega,hb,_,_,_,_,_,h⟩
  .rw[zDk,zDk,List.nodup_append,List.nodup_append];refine⟨⟨g.2,f.2,λa j c l e=> ?_⟩,by simp,λa j c l e=> ?_⟩
   .obtain⟨x,b,rfl⟩:=zBl.1 j;obtain⟨y,q,rfl⟩:=zBl.1 l;have:=g.1 x b;have:=f.1 y q;omega
   .simp only[zEf,List.map_nil,zAm]at l;subst l;obtain j|j:=zAh.1 j
    .obtain⟨x,b,rfl⟩:=zBl.1 j;have:=g.1 x b;omega
    .obtain⟨x,b,rfl⟩:=zBl.1 j;have:=f.1 x b;omega
def cO.part (P:1<=k)(M:k<=32){S:zP}{all:List (Nat×ByteArray)}(O:∀b,S b->∃z o i v hs,aX w b z o i v [] hs)(l:∀b z o i v hs,S b->aX w b z o i v [] hs->∀c,z=aA c\/o=aA c->(∃z o i v hs,aX w c z o i v [] hs)->S c)
  (t:∀b s,S b->(b,s)∈all->∀z o i v hs,aX w b z o i v [] hs->∃e,aX w' b z o i v s.data.toList e) (j:∀b,¬S b->∀z o i v g hs,aX w b z o i v g hs->∃e,aX w' b z o i v g e)
  (h:cO k w p us d lo hi rows) (A:∀x∈rows,x∈all):(∃cF,cO k w' p us d lo hi cF/\(∀x∈cF,x∈rows/\¬S x.1)/\cF.length<=rows.length)/\((∀b,p=aA b->(∃z o i v hs,aX w b z o i v [] hs)->S b)->eL k w' p us d):=by
 have hold:∀b z o i v g hs,g≠[]->aX w b z o i v g hs->∃e,aX w' b z o i v g e:=λb z o i v g hs N h=>j b (λr=>by obtain⟨R,V,i',T,e,n⟩:=O b r;exact N (eC h n).2.2.2.2.1) z o i v g hs h
 induction h with
 |done h hl=>have q:=h.keep P M hold;exact⟨⟨[],.done q hl,λx a=>by simp at a,zBu _⟩,λ_=>q⟩
 | @leaf b u d lo hi hs k1 k2 h=>by_cases r:S b;{obtain⟨e,n⟩:=t b ⟨(iM k [u] d).toArray⟩ r (A _ (by simp)) _ _ _ _ _ h;have q:eL k w' (aA b) [u] d:= .leaf (by simpa using n);exact⟨⟨[],.done q (by omega),λx a=>by simp at a,zBu _⟩,λ_=>q⟩};{obtain⟨e,n⟩:=j b r _ _ _ _ _ _ h;refine⟨⟨_,.leaf k1 k2 n,λx a=>⟨a,?_⟩,zAb _⟩,λa=>absurd (a b rfl ⟨_,_,_,_,_,h⟩) r⟩;rw[zAm]at a;subst a;exact r}
 | @node b us d lo m hi z o hs U ro H q h K L r C B=>
  have G:=C λx a=>A x (zAh.2 (aH (zAh.2 (aH a))));have F:=B λx a=>A x (zAh.2 (aH (zAh.2 (aI a))));by_cases f:S b;{obtain⟨e,n⟩:=t b ⟨(iM k us d).toArray⟩ f (A _ (by simp)) _ _ _ _ _ h;have d1:=G.2 λc E D=>l b _ _ _ _ _ f h c (aH E) D;have Q:=F.2 λc E D=>l b _ _ _ _ _ f h c (aI E) D;have y:eL k w' (aA b) us d:= .node H q (by simpa using n) d1 Q;have Z:=K.Fp;have Y:=L.Fp;exact⟨⟨[],.done y (by omega),λx a=>by simp at a,zBu _⟩,λ_=>y⟩}
  .obtain⟨e,n⟩:=j b f _ _ _ _ _ _ h;obtain⟨⟨r1,f1,J,X⟩,_⟩:=G;obtain⟨⟨r2,f2,I,W⟩,_⟩:=F;refine⟨⟨_,.node H q n f1 f2 r,λx a=> ?_,by simp only[zAc,zAf,zAl];omega⟩,λa=>absurd (a b rfl ⟨_,_,_,_,_,h⟩) f⟩;obtain a|a:=zAh.1 a
   .obtain a|a:=zAh.1 a
    .exact⟨zAh.2 (aH (zAh.2 (aH (J x a).1))),(J x a).2⟩
    .exact⟨zAh.2 (aH (zAh.2 (aI (I x a).1))),(I x a).2⟩
   .rw[zAm]at a;subst a;exact⟨by simp,f⟩
end
structure oU (w:zW)(t k:Nat):Prop where
 lt:t<w.heap.size
 wid:w.cell? ⟨t,0,aB⟩=aA (aC aD k)
 emp:w.cell? ⟨t,2,aB⟩=aA (aL ⟨(dg k [0]).toArray⟩)
def oU.below {w w':zW}{B t k:Nat}(h:oU w t k)(a:Below B w w')(b:w.heap.size<=B):oU w' t k:=
 ⟨zAd h.lt a.size,by rw[a.cell (p:=⟨t,0,aB⟩) (zAd h.lt b)];exact h.wid,by rw[a.cell (p:=⟨t,2,aB⟩) (zAd h.lt b)];exact h.emp⟩
def quiet_of {P:zZ}{f:zN}{args:zA}{v:zY}{w:zW}(h:∀W,zb w W->Calls P f args W λe w'=>e=aM v/\zb W w'):
  Hid (∀(b:Nat)(os:zJ),Calls P f args (Go.Sort.grow (redrawn w b) os) λe a=>e=aM v/\∃p:Regrown,a=Go.Sort.grow (redrawn w p.d) p.os):=λb os=>Calls.regrown_of (h _ (zGv w b os))
def eZ {w p v}(h:w.cell? p=aA v)(b:p.block<w.heap.size):∀(a)(os),(Go.Sort.grow (redrawn w a) os).cell? p=aA v:=λa os=>by rw[(zGv w a os).cell (p:=p) b];exact h
def EM (p:Nat×ByteArray):zV:=[aO (aA ⟨p.1,0,aB⟩),aL p.2]
def nI (l:List (Nat×ByteArray)):zV:=l.flatMap EM
def IX (l)(p:Nat×ByteArray):nI (l++[p])=nI l++EM p:=by simp[nI]
def Kn (p:Nat×ByteArray):∀x∈EM p,x.oneCell'=aF:=by intro x h;simp only[EM,zAg,zAr,zCd]at h;obtain rfl|rfl:=h<;>rfl
def NF (l):∀(i)(p:Nat×ByteArray),l[i]? =aA p->∀j,j<2->(nI l)[i*2+j]? =(EM p)[j]? :=by
 induction l with
 |nil=>intro i u h;cases h
 |cons a l b=>
  intro i u h j c;show(EM a++nI l)[i*2+j]? =_;cases i with
  |zero=>simp only[zCu,aEx]at h;subst h;rw[zCj (by show _<2;omega)];simp
  |succ i=>rw[zBn (by show 2<=_;omega),show(i+1)*2+j-(EM a).length=i*2+j by show(i+1)*2+j-2=_;omega];exact b i u (by simpa using h) j c
def rC (w:zW)(base:Nat)(v:zY)(l:List (Nat×ByteArray)):Prop:=w.ownsRow base 292 2 v l.length (nI l)
def rC.nil (w)(base):rC w base (aK aB 0 0) []:=World.ownsRow_nil _ _ _ _
def rC.lt {w base v l}(h:rC w base v l):∀k,v.ownBlock=aA k->base<=k/\k<w.heap.size:=World.ownsRow.lt h
def rC.kept {w w' base v l}(h:rC w base v l)(b:∀g,v.ownBlock=aA g->w'.heap[g]? =w.heap[g]?):rC w' base v l:=by
 obtain⟨e,a⟩:=h;refine⟨e,?_⟩;obtain a|⟨g,cap,cur,rfl,hb,c,r⟩:=a
 .exact aH a
 .exact aI ⟨g,cap,cur,rfl,hb,by rw[b g rfl];exact c,r⟩
def rC.below {w w':zW}{B base:Nat}{v:zY}{l:List (Nat×ByteArray)}(h:rC w base v l)(b:Below B w w')(c:w.heap.size<=B):rC w' base v l:=
 h.kept λg a=>b.block g (zAd (h.lt g a).2 c)
def Km:∃i,zq.info? 292=aA i/\i.zero=aA (.agg #[.pointer aB,aL ⟨#[]⟩])/\i.size=2/\i.bytes=24:=by
 have h:(zq.info? 292).map (λi=>(i.zero,i.size,i.bytes))=aA (aA (.agg #[.pointer aB,aL ⟨#[]⟩]),2,24):=by kernel_rfl
 cases a:zq.info? 292 with
 |none=>rw[a]at h;cases h
 |some i=>rw[a]at h;simp only[zBi,aEx,aFd]at h;exact⟨i,rfl,h.1,h.2.1,h.2.2⟩
def GW {W ops rest o a Q}(m:o.guard=aB)(s x)
  (B:o.op= .call {callee:= .builtin .append,args:= #[s,x],argTypes:= #[283,283]})
  (base) (v) (l) (hs:a.eval s=v) (b:rC W base v l) (u:Nat×ByteArray) (c) (A:a.eval x=aK (aA ⟨W.heap.size,0,aB⟩) 1 c)
  (E:l.length<=1000000) (q:base<=W.heap.size)
  (h:∀g cap w',rC w' base (aK (aA ⟨g,0,aB⟩) (l.length+1) cap) (l++[u])->W.grownBy w' v.ownBlock->wpList zq ops Q rest (a.put o.dst (aK (aA ⟨g,0,aB⟩) (l.length+1) cap)) w'):wpList zq ops Q (o::rest) a (W.alloc (aJ #[aO (aA ⟨u.1,0,aB⟩),aL u.2] 292)):=by
 obtain⟨i,hi,r,f,n⟩:=Km;refine wpList_append_lies _ m s x 283 B base 292 i _ 2 24 ((Qz.fH 283).trans underlying283) hi r f n rfl (by omega) v l.length (nI l) hs (World.ownsRow.alloc b _) ⟨W.heap.size,0,aB⟩ 1 c (EM u) A rfl (λj y z=> ?_) (Kn u) (by omega) (by simp only[maxLen];omega) (by omega) (by rw[size_alloc];omega) _ rfl (λg cap w' D C _ _=>h g cap w' ?_ (nT C))
 .have e:(⟨W.heap.size,0,aB⟩:Addr).add j=⟨W.heap.size,j,aB⟩:=by{unfold Addr.add;split<;>simp_all};rw[e];show(W.alloc (aJ (EM u).toArray 292)).cell? _=_;rw[(cL.new W 292 (EM u).toArray).cell j];simpa using z
 .unfold rC;rw[IX,zAc];exact D
def xX {w0 w w':zW}{B base:Nat}{v:zY}{l:List (Nat×ByteArray)}(e:Below B w0 w)(h:rC w base v l)(c:w.grownBy w' v.ownBlock)(f:B<=base)(a:B<=w.heap.size):Below B w0 w':=
 e.grown c a λk b=>zBb f (h.lt k b).1
def rC.rows {w base v l}(h:rC w base v l):∃q c,v=aK q l.length c/\l.length<=c/\fJ l q l.length w/\∀a,q=aA a->base<=a.block:=by
 obtain⟨y,f⟩:=h;obtain⟨rfl,f⟩|⟨g,cap,cur,rfl,hb,o,r,_,s,n⟩:=f
 .have:l=[]:=zDz.1 f;subst this;exact⟨aB,0,rfl,zAb _,⟨rfl,λx=>absurd rfl x⟩,λa e=>by cases e⟩
 .refine⟨aA ⟨g,0,aB⟩,cap,rfl,r,⟨rfl,λ_=>⟨g,0,rfl,λj p m=> ?_⟩⟩,λa e=>by cases e;exact hb⟩;have b:∀i,i<2->w.cell? ⟨g,0+(j*2+i),aB⟩=(EM p)[i]? :=λi hi=>by
   have u:=(zBa.1 m).1;rw[zBd,bC o,<-NF l j p m i hi,<-n,List.getElem?_take_of_lt (by omega),zBs]
  exact⟨b 0 (by omega),by have:=b 1 (by omega);rwa [<-zCh]at this⟩
section
variable {k t:Nat}{w w':zW}{p:Option Nat}{us:List bJ}{d lo hi:Nat}{rows:List (Nat×ByteArray)}
def YK (h:oU w t k):Calls zq 226 #[aO (aA ⟨t,0,aB⟩),ptr aB] w λe w'=>e=aM (aL ⟨(dg k [0]).toArray⟩)/\w'=w:=by have p2:=h.emp;go_enter (Qz.fn func226),ntmps226;go_wp2;go_ret;exact⟨rfl,rfl⟩
def FK {b z o i v g hs}(h:aX w b z o i v g hs):Calls zq 226 #[aO (aA ⟨t,0,aB⟩),ptr (aA b)] w λe w'=>e=aM (aL ⟨g.toArray⟩)/\w'=w:=by have c4:=h.c4;go_enter (Qz.fn func226),ntmps226;go_wp2;go_ret;exact⟨rfl,rfl⟩
def FL (a:oU w t k)(h:eL k w p us d):Calls zq 226 #[aO (aA ⟨t,0,aB⟩),ptr p] w λe w'=>e=aM (aL ⟨(iM k us d).toArray⟩)/\w'=w:=by
 cases h with
 |nil=>have:iM k [] d=dg k [0]:=Dd k d;rw[this];exact YK a
 |leaf h=>exact FK h
 |node _ _ h=>exact FK h
structure Wk (k t:Nat)(W0 W:zW):Prop where
 k1:1<=k
 k2:k<=32
 top:oU W0 t k
 iH:fD W0
 below:zb W0 W
def Wk.cell {c W}(h:Wk k t c W){b z o i v g hs}(a:aX c b z o i v g hs):aX W b z o i v g hs:=⟨by rw[h.below.block b a.lt];exact a.at'⟩
def Wk.AP {a W}(h:Wk k t a W):oU W t k:=h.top.below h.below (zAb _)
def Wk.uq {a W}(h:Wk k t a W):fD W:=h.iH.below h.below (zAb _)
def GX (k t:Nat)(a:zW)(p:Option Nat)(us:List bJ)(d:Nat)(rows:List (Nat×ByteArray)):Prop:=
 ∀W v L,Wk k t a W->rC W a.heap.size v L->L.length+rows.length<=1000000->Calls zq 243 #[aO (aA ⟨t,0,aB⟩),ptr p,v] W λe w'=>∃b,e=aM (.tuple #[aL ⟨(iM k us d).toArray⟩,b])/\rC w' a.heap.size b (L++rows)/\zb a w'
def WA {m}(h:eL k m p us d):GX k t m p us d []:=by
 intro W v L a s A;have x:=hid a;have l:=h.keep a.k1 a.k2 λb z o i v g n _ r=>⟨n,a.cell r⟩;have u:Hid (∀c,c=W->Calls zq 226 #[aO (aA ⟨t,0,aB⟩),ptr p] c λe w'=>e=aM (aL ⟨(iM k us d).toArray⟩)/\w'=c):=λc e=>by subst e;exact FL a.AP l
 have y:Hid (Calls zq 246 #[ptr p] W λe w'=>e=aM (.bool aG)/\w'=W):=by
  have f:=qU (us:=us) (d:=d) a.k1 a.k2;have j:(iM k us d).isEmpty=aG:=by{cases q:iM k us d with|nil=>exact absurd q f|cons _ _=>rfl};cases l with
  |nil=>exact xH W
  |leaf h=>exact(lT h).mono λe w' h=>⟨by rw[h.1,j],h.2⟩
  |node _ _ h=>exact(lT h).mono λe w' h=>⟨by rw[h.1,j],h.2⟩
 have H:=hid s;generalize iM k us d=Z at*;generalize ptr p=pp at*;go_enter (Qz.fn func243),ntmps243;go_wp2_with fail;refine y.out.mono ?_;rintro e w' ⟨rfl,rfl⟩;go_wp2_with fail;refine(u.out _ rfl).mono ?_;rintro e w' ⟨rfl,rfl⟩;go_wp2;go_ret2;exact⟨v,rfl,by rw[zAq];exact H.out,x.out.below⟩
end
section
variable {k t:Nat}{W0:zW}{us:List bJ}{d:Nat}
def VZ {b u hs}(hi:u.idx.length=32)(hv:u.val.length<=100)(I:aX W0 b aB aB u.idx u.val [] hs):GX k t W0 (aA b) [u] d [(b,⟨(iM k [u] d).toArray⟩)]:=by
 intro W v L i J K;have m:=i.k1;have f:=i.k2;have z:L.length<=1000000:=by simp at K;omega
 have j:=i.cell I;have U:=hid (lT j);have S:=hid (kW j);have Q:=hid J;have E:=hid i.below;have C:=hid i.uq;have x:=hid i.AP;have q0:=eZ x.out.wid x.out.lt;have q1:=eZ j.c2 j.lt;have X:=eZ j.c3 j.lt;rw[show iM k [u] d=dg k (1::(u.idx++dg k (4::u.val)))from yD k d _];have H:Hid (∀a,fD a->Calls zq 128 #[aC aD k,aL ⟨u.val.toArray⟩] a λe c=>e=aM (aL ⟨(dg k (4::u.val)).toArray⟩)/\zb a c):=λa p=>Ia k ⟨u.val.toArray⟩ a m f (by show u.val.length<=_;omega) p;have hdl:(dg k (4::u.val)).length=k:=tP k _ f;generalize dg k (4::u.val)=Y at*;have s:Hid (∀a,Calls zq 127 #[aL ⟨u.idx.toArray⟩,aL ⟨Y.toArray⟩] a λe c=>e=aM (aL ⟨(1::(u.idx++Y)).toArray⟩)/\zb a c):=λa=>
  (PC ⟨u.idx.toArray⟩ ⟨Y.toArray⟩ a (by show u.idx.length<=_;omega) (by show Y.length<=_;omega)).mono λe c h=>⟨h.1,by rw[h.2];exact zGo _ _⟩
 have wj:(1::(u.idx++Y)).length<=1000:=by simp;omega
 generalize 1::(u.idx++Y)=Z at*;have r:Hid (∀a,fD a->Calls zq 53 #[aC aD k,aL ⟨Z.toArray⟩] a λe c=>e=aM (aL ⟨(dg k Z).toArray⟩)/\zb a c):=λa p=>tC k ⟨Z.toArray⟩ a m f (by show Z.length<=_;omega) p;generalize dg k Z=R at*;have B:=quiet_of λa p=>H.out a (C.out.below p (zAb _));have D:=quiet_of (w:=W) λa _=>s.out a;clear j I i J K H s;go_enter (Qz.fn func243),ntmps243;go_wp2_with fail;refine U.out.mono ?_;rintro e c ⟨rfl,rfl⟩;go_wp2_with fail;refine S.out.mono ?_;rintro e c ⟨rfl,rfl⟩;go_wp2_with fail;refine wp_region_quiet_below (by kernel_rfl) (by kernel_rfl) ?_;repeat (any_goals(first|go_big_quiet_step ((first|exact B.out _ _|exact D.out _ _))|quiet_step ((first|exact B.out _ _|exact D.out _ _))))
 refine wpQuiet_nil ?_;intro N y;obtain⟨q,G⟩:=y;have o:zb c N:=by rw[G];exact zGv c q.d q.os
 have F:=hid (E.out.trans (o.mono E.out.size));have P:=hid (Q.out.below o (zAb _));have T:=hid (C.out.below o (zAb _));have P1:=(x.out.below o (zAb _)).wid;clear G o B D q0 q1 X Q C x E U S;go_wp2_with fail;refine(r.out N T.out).mono ?_;rintro e w2 ⟨rfl,g⟩;have V:=hid (F.out.trans (g.mono F.out.size));have O:=hid (P.out.below g (zAb _));have n:=V.out.size;clear g F P T P1 r;go_wp2_with (first|(at_builtin;refine GW rfl _ _ rfl W0.heap.size _ _ rfl O.out (b,⟨R.toArray⟩) 1 rfl z n ?_;intro g' M c l A));go_ret2;exact⟨_,rfl,l,xX V.out O.out A (zAb _) n⟩
def Hb (a:2<=us.length)(h:d<256):iM k us d=dg k (2::(iM k (bL d 0 us) (d+1)++iM k (bL d 1 us) (d+1))):=by unfold iM;rw[fL,fL];exact WE k d _ (by rw[eH];exact a) h
def VY {b z o hs r ro}(h2:2<=us.length)(hd:d<256)(A:aX W0 b z o [] [] [] hs)(I:z≠aB\/o≠aB)(p:GX k t W0 z (bL d 0 us) (d+1) r)(q:GX k t W0 o (bL d 1 us) (d+1) ro):
  GX k t W0 (aA b) us d (r++ro++[(b,⟨(iM k us d).toArray⟩)]):=by
 intro W v L g K M;have i:=g.k1;have a:=g.k2;have hL':L.length+(r.length+ro.length+1)<=1000000:=by simpa [zCh]using M
 have m:=g.cell A;have HF:=hid (lT m);have Y:Hid (Calls zq 227 #[ptr (aA b)] W λe w=>e=aM (.bool aG)/\w=W):=(kW m).mono λe w h=>⟨by
  rw[h.1];obtain h|h:=I
  .cases z with
   |none=>exact absurd rfl h
   |some _=>rfl
  .cases o with
   |none=>exact absurd rfl h
   |some _=>cases z<;>rfl,h.2⟩
 have V:=hid K;have l:Hid (∀D,zb W0 D->Wk k t W0 D):=λD h=>⟨i,a,g.top,g.iH,h⟩;have HB:=hid g.below;have HC:=hid A;have c0:=m.c0;have hx:(iM k (bL d 0 us) (d+1)).length=k:=GJ a;have hy:(iM k (bL d 1 us) (d+1)).length=k:=GJ a;rw[Hb h2 hd];unfold GX at p q;generalize iM k (bL d 0 us) (d+1)=x at*;generalize iM k (bL d 1 us) (d+1)=y at*;have S:=hid p;have U:=hid q;have X:Hid (∀w2,Calls zq 118 #[aL ⟨x.toArray⟩,aL ⟨y.toArray⟩] w2 λe w=>e=aM (aL ⟨(2::(x++y)).toArray⟩)/\w=w2):=λw2=>(OY ⟨x.toArray⟩ ⟨y.toArray⟩ w2 (by show x.length<=_;omega) (by show y.length<=_;omega)).mono λe w h=>⟨by simpa using h.1,h.2⟩;have wj:(2::(x++y)).length<=1000:=by simp;omega
 generalize 2::(x++y)=Z at*;have H:Hid (∀w2,fD w2->Calls zq 53 #[aC aD k,aL ⟨Z.toArray⟩] w2 λe w=>e=aM (aL ⟨(dg k Z).toArray⟩)/\zb w2 w):=λw2 B=>tC k ⟨Z.toArray⟩ w2 i a (by show Z.length<=_;omega) B;generalize dg k Z=R at*;have J:L++(r++ro++[(b,(⟨R.toArray⟩:ByteArray))])=(L++r++ro)++[(b,⟨R.toArray⟩)]:=by simp
 rw[J];clear J;clear m A g K M p q I;go_enter (Qz.fn func243),ntmps243;go_wp2_with fail;refine HF.out.mono ?_;rintro e w ⟨rfl,rfl⟩;go_wp2_with fail;refine Y.out.mono ?_;rintro e w ⟨rfl,rfl⟩;go_wp2_with fail;refine(S.out w v L (l.out _ HB.out) V.out (by omega)).mono ?_;rintro e w1 ⟨v1,rfl,G,C⟩;have Q:=hid G;have B1:=hid C;have c1:=((l.out _ C).cell HC.out).c1;clear G C S V HB HF Y c0;go_wp2_with fail;refine(U.out w1 v1 (L++r) (l.out _ B1.out) Q.out (by rw[zAc];omega)).mono ?_;rintro e w2 ⟨v2,rfl,F,n⟩;have P:=hid F;have E:=hid n;have T:=hid ((l.out _ n).uq);have p2:=(l.out _ n).AP.wid;clear F n U Q B1 c1;go_wp2_with fail;refine(X.out w2).mono ?_;rintro e w ⟨rfl,rfl⟩;go_wp2_with fail;refine(H.out w T.out).mono ?_;rintro e w3 ⟨rfl,f⟩;have B3:=hid (E.out.trans (f.mono E.out.size));have O:=hid (P.out.below f (zAb _));have j:=B3.out.size;have s:(L++r++ro).length<=1000000:=by rw[zAc,zAc];omega
 clear f E P T p2 H X;go_wp2_with (first|(at_builtin;refine GW rfl _ _ rfl W0.heap.size _ _ rfl O.out (b,⟨R.toArray⟩) 1 rfl s j ?_;intro g' N w c u));go_ret2;have e:(L++r++ro).length=L.length+(r.length+ro.length):=by rw[zAc,zAc];omega
 rw[e]at c;exact⟨_,rfl,c,xX B3.out O.out u (zAb _) j⟩
def Dc {p lo hi rows}(h:cO k W0 p us d lo hi rows)(e:∀u∈us,u.idx.length=32/\u.val.length<=100):GX k t W0 p us d rows:=by
 induction h with
 |done h=>exact WA h
 |leaf _ _ h=>exact VZ (e _ (by simp)).1 (e _ (by simp)).2 h
 | @node b us d lo m hi z o x w ro r q h j l hb f i=>
  have n:z≠aB\/o≠aB:=by have hl:=sX us d;by_cases c:z=aB;{right;intro g;have v:=j.iA.1 c;have s:=l.iA.1 g;rw[v,s]at hl;simp at hl;omega};{exact aH c}
  exact VY r q h n (f λu a=>e u (zAx.1 a).1) (i λu a=>e u (zAx.1 a).1)
def PU {p lo hi rows}(f:1<=k)(b:k<=32)(n:oU W0 t k)(m:fD W0)(h:cO k W0 p us d lo hi rows)(j:∀u∈us,u.idx.length=32/\u.val.length<=100)(hl:rows.length<=1000000):
  Calls zq 236 #[aO (aA ⟨t,0,aB⟩),ptr p] W0 λe w=>∃q l cp,e=aM (aK q l cp)/\l<=cp/\fJ rows q l w/\(∀a,q=aA a->W0.heap.size<=a.block)/\zb W0 w:=by
 have H:=hid (Dc h j W0 (aK aB 0 0) [] ⟨f,b,n,m,zGo _ _⟩ (rC.nil _ _) (by simpa using hl));generalize ptr p=pp at*;generalize iM k us d=Z at*;go_enter (Qz.fn func236),ntmps236;go_wp2_with fail;refine H.out.mono ?_;rintro e w1 ⟨v1,rfl,o,s⟩;have O:=hid o;have B:=hid s;go_wp2;go_ret;obtain⟨q,c,rfl,i,g,r⟩:=O.out.rows;rw[zCk]at i g;exact⟨q,_,c,rfl,i,g,r,B.out⟩
end
def NI (l:List (Option Nat)):zV:=l.map ptr
def Sc (p):(ptr p).oneCell'=aF:=by cases p<;>rfl
def iF (w:zW)(base:Nat)(v:zY)(l:List (Option Nat)):Prop:=w.ownsRow base 264 1 v l.length (NI l)
def iF.nil (w)(base):iF w base (aK aB 0 0) []:=World.ownsRow_nil _ _ _ _
def iF.lt {w base v l}(h:iF w base v l):∀k,v.ownBlock=aA k->base<=k/\k<w.heap.size:=World.ownsRow.lt h
def iF.kept {w w' base v l}(h:iF w base v l)(b:∀g,v.ownBlock=aA g->w'.heap[g]? =w.heap[g]?):iF w' base v l:=by
 obtain⟨d,a⟩:=h;refine⟨d,?_⟩;obtain a|⟨g,cap,cur,rfl,hb,c,r⟩:=a
 .exact aH a
 .exact aI ⟨g,cap,cur,rfl,hb,by rw[b g rfl];exact c,r⟩
def iF.below {w w':zW}{B base:Nat}{v:zY}{l:List (Option Nat)}(h:iF w base v l)(b:Below B w w')(c:w.heap.size<=B):iF w' base v l:=
 h.kept λg a=>b.block g (zAd (h.lt g a).2 c)
def RY:∃i,zq.info? 264=aA i/\i.zero=aA (.pointer aB)/\i.size=1/\i.bytes=8:=by
 have h:(zq.info? 264).map (λi=>(i.zero,i.size,i.bytes))=aA (aA (.pointer aB),1,8):=by kernel_rfl
 cases a:zq.info? 264 with
 |none=>rw[a]at h;cases h
 |some i=>rw[a]at h;simp only[zBi,aEx,aFd]at h;exact⟨i,rfl,h.1,h.2.1,h.2.2⟩
def ZX {W ops rest o a Q}(m:o.guard=aB)(s x)
  (t:o.op= .call {callee:= .builtin .append,args:= #[s,x],argTypes:= #[166,166]})
  (base) (v) (l) (hs:a.eval s=v) (b:iF W base v l) (u) (c) (f:a.eval x=aK (aA ⟨W.heap.size,0,aB⟩) 1 c)
  (B:l.length<=1000000) (p:base<=W.heap.size)
  (h:∀g cap w',iF w' base (aK (aA ⟨g,0,aB⟩) (l.length+1) cap) (l++[u])->W.grownBy w' v.ownBlock->(v.ownBlock=aA g\/W.heap.size<=g)->wpList zq ops Q rest (a.put o.dst (aK (aA ⟨g,0,aB⟩) (l.length+1) cap)) w'):wpList zq ops Q (o::rest) a (W.alloc (aJ #[ptr u] 264)):=by
 obtain⟨i,hi,q,k,n⟩:=RY;refine wpList_append_lies _ m s x 166 t base 264 i _ 1 8 ((Qz.fH 166).trans underlying166) hi q k n rfl (by omega) v l.length (NI l) hs (World.ownsRow.alloc b _) ⟨W.heap.size,0,aB⟩ 1 c [ptr u] f rfl (λj y r=> ?_) (λx f=>by rw[zAm]at f;subst f;exact Sc u) (by omega) (by simp only[maxLen];omega) (by omega) (by rw[size_alloc];omega) _ rfl (λg cap w' A z w _=>h g cap w' ?_ (nT z) (w.imp id λe=>by rw[e,size_alloc];omega))
 .have d:(⟨W.heap.size,0,aB⟩:Addr).add j=⟨W.heap.size,j,aB⟩:=by{unfold Addr.add;split<;>simp_all};rw[d];rw[(cL.new W 264 #[ptr u]).cell j];simpa using r
 .unfold iF NI;rw[zDk,zAc];exact A
def pM (w:zW)(q:zO)(l:List (Option Nat)):Prop:=0<l.length->∃g o,q=aA ⟨g,o,aB⟩/\g<w.heap.size/\∀j p,l[j]? =aA p->w.cell? ⟨g,o+j,aB⟩=aA (ptr p)
def pM.kept {w w' q l}(h:pM w q l)(hs:w.heap.size<=w'.heap.size)(c:∀a,q=aA a->w'.heap[a.block]? =w.heap[a.block]?):pM w' q l:=λi=>by obtain⟨g,o,e,d,f⟩:=h i;refine⟨g,o,e,zAd d hs,λj p b=> ?_⟩;rw[<-f j p b];simp only[World.cell?];rw[c _ e]
def iF.NI {w base v l}(h:iF w base v l):∃q c,v=aK q l.length c/\l.length<=c/\pM w q l/\∀a,q=aA a->base<=a.block/\a.block<w.heap.size/\∃b,w.heap[a.block]? =aA (aJ b 264 (0,0)):=by
 obtain⟨s,f⟩:=h;obtain⟨rfl,f⟩|⟨g,cap,b,rfl,hb,d,n,_,o,m⟩:=f
 .have:l=[]:=zDz.1 f;subst this;exact⟨aB,0,rfl,zAb _,λx=>by simp at x,λa e=>by cases e⟩
 .have k:=(zAa.1 d).1;refine⟨aA ⟨g,0,aB⟩,cap,rfl,n,λ_=>⟨g,0,rfl,k,λj p i=> ?_⟩,λa e=>by cases e;exact⟨hb,k,b,d⟩⟩;have r:=(zBa.1 i).1;rw[zBd,bC d,<-zBs];have:(b.toList.take (l.length*1))[j]? =aA (ptr p):=by
   rw[m];unfold Go.Proofs.Zq.NI;rw[zDi,i];rfl
  rwa [List.getElem?_take_of_lt (by omega)]at this
def uB (w:zW)(fr:Option Nat->Bool)(p:Option Nat):Prop:=(p=aB/\fr p=aG)\/∃b z o i v g h,p=aA b/\aX w b z o i v g h/\fr p=g.isEmpty
def YO {w fr p}(h:uB w fr p):Calls zq 246 #[ptr p] w λe a=>e=aM (.bool (fr p))/\a=w:=by
 obtain⟨rfl,h⟩|⟨b,z,o,i,v,g,d,rfl,c,h⟩:=h
 .rw[h];exact xH w
 .rw[h];exact lT c
structure PH (w w':zW)(v v':zY):Prop where
 UW:w.grownBy w' v.ownBlock
 own:∀g,v'.ownBlock=aA g->v.ownBlock=aA g\/w.heap.size<=g
def PH.refl (w)(v):PH w w v v:=⟨⟨rfl,rfl,rfl,zAb _,λ_ _ _=>rfl⟩,λ_ h=>aH h⟩
def PH.trans {w w1 w2 v v1 v2}(h:PH w w1 v v1)(k:PH w1 w2 v1 v2):PH w w2 v v2:=by
 refine⟨⟨k.UW.os.trans h.UW.os,k.UW.tape.trans h.UW.tape,k.UW.output.trans h.UW.output,zBb h.UW.size k.UW.size,λb c a=> ?_⟩,λg d=> ?_⟩
 .refine(k.UW.block b (zAd c h.UW.size) λe=> ?_).trans (h.UW.block b c a);obtain x|x:=h.own b e.symm
  .exact a x.symm
  .omega
 .obtain x|x:=k.own g d
  .exact h.own g x
  .right;have:=h.UW.size;omega
def LO {w base v l ts q c fr}(Y:iF w base v l)(X:pM w q ts)(hF:∀p∈ts,uB w fr p)(T:∀a g,q=aA a->v.ownBlock=aA g->a.block≠g)(W:base<=w.heap.size)(r:∀p∈ts,∀b,p=aA b->∀g,v.ownBlock=aA g->b≠g)(hl:l.length+ts.length<=1000):
  Calls zq 241 #[v,aK q ts.length c] w λe D=>∃y,e=aM y/\iF D base y (l++ts.filter fr)/\PH w D v y:=by
 have HO:=hid Y;have HT:=hid X;have HF:=hid hF;have HQ:=hid T;have HC:=hid r;go_enter (Qz.fn func241),ntmps241;go_wp2_with fail;go_loopg [0,9] ts.length (λn x i wr=>∃t:Nat,t+n=ts.length/\i=aC aD (t:Int)/\PH w wr v x/\iF wr base x (l++(ts.take t).filter fr));case atStart=>exact⟨0,by omega,rfl,PH.refl _ _,by simpa using HO.out⟩
 case round=>
  obtain⟨t,ht,rfl,c1,c2⟩:=hrel
  have C:=hid c1
  have K:=hid c2
  by_cases f:t<ts.length
  .obtain⟨g,R,rfl,I,O⟩:=HT.out (by omega);have L:=O t ts[t] (zAi f);have d:=zDo f;have K0:wr.cell? ⟨g,R+t,aB⟩=aA (ptr ts[t]):=by
    rw[<-L];simp only[World.cell?];rw[C.out.UW.block g I λe=>HQ.out _ _ rfl e.symm rfl]
   have m:uB wr fr ts[t]:=by obtain h|⟨b,z,o,i,y,P,S,e,B,h⟩:=HF.out _ d;{exact aH h};{exact aI ⟨b,z,o,i,y,P,S,e,⟨by rw[C.out.UW.block b B.lt λe'=>HC.out _ d b e b e'.symm rfl];exact B.at'⟩,h⟩}
   have j:fr ts[t]=aF->∃b,ts[t]=aA b:=λh=>by obtain⟨_,Z⟩|⟨b,_,_,_,_,_,_,e,_⟩:=m;{rw[Z]at h;cases h};{exact⟨b,e⟩}
   have s:=hid (YO m);have u:Hid (l++(ts.take (t+1)).filter fr=(l++(ts.take t).filter fr)++(if fr ts[t]then [ts[t]]else [])):=by show _=_;rw[List.take_succ,zAi f,zDl,zBo];by_cases N:fr ts[t]=aF;{simp[N]};{simp[N]}
   have F:(l++(ts.take t).filter fr).length<=1000000:=by have h1:=zFo fr (ts.take t);rw[zAc];rw[zBf]at h1;omega
   have J:=zBb W C.out.UW.size;have V:¬((t:Int)<0):=by{omega};have U:(t:Int)<(ts.length:Int):=by{omega};generalize ts[t]=pt at*;generalize l++(ts.take t).filter fr=M at*;clear m O L d;go_wp2_with fail;refine s.out.mono ?_;rintro e D ⟨rfl,rfl⟩;cases k:fr pt with
   |true=>
    obtain⟨b,rfl⟩:=j k;have H:Hid (l++(ts.take (t+1)).filter fr=M++[aA b]):=by have:=u.out;rw[k]at this;exact this
    clear u s;go_wp2_with (first|(at_builtin;refine ZX rfl _ _ rfl base _ _ rfl K.out (aA b) 1 rfl F J ?_;intro P Q w2 A G E));go_roundg (ts.length-(t+1));case measure=>omega
    case rel=>
     go_light
     refine⟨t+1,by omega,by go_num,C.out.trans ⟨G,λg I=> ?_⟩,by rw[H.out];exact A⟩
     cases I
     exact E
   |false=>
    have H:Hid (l++(ts.take (t+1)).filter fr=M):=by show _=_;have:=u.out;rw[k]at this;simpa using this
    clear u s;go_wp2;go_roundg (ts.length-(t+1));case measure=>omega
    case rel=>
     go_light
     exact⟨t+1,by omega,by go_num,C.out,by rw[H.out];exact K.out⟩
  .have:t=ts.length:=by{omega};subst this;have u:Hid (l++(ts.take ts.length).filter fr=l++ts.filter fr):=by{show _=_;rw[List.take_length]};go_wp2;go_ret;exact⟨u0,rfl,by rw[<-u.out];exact K.out,C.out⟩
def kids (zf of:Nat->Option Nat)(fr:Option Nat->Bool)(b:Nat):List (Option Nat):=[zf b,of b].filter fr
def Mg (zf of)(fr:Option Nat->Bool)(b):(kids zf of fr b).length<=2:=zFo _ _
def FX (zf of:Nat->Option Nat)(fr:Option Nat->Bool):∀a:List Nat,(a.flatMap (kids zf of fr)).length<=2*a.length
 |[]=>by simp
 |b::a=>by have c:=FX zf of fr a;have h:=Mg zf of fr b;simp only[List.flatMap_cons,zAc,zAf];omega
def Fs {w}{bs:List Nat}{zf of fr q c}(hT:pM w q (bs.map aA))(hC:∀b∈bs,(∃i v g hs,aX w b (zf b) (of b) i v g hs)/\uB w fr (zf b)/\uB w fr (of b))(hl:bs.length<=100):
  Calls zq 242 #[aK q bs.length c] w λe F=>∃s,e=aM s/\iF F w.heap.size s (bs.flatMap (kids zf of fr))/\zb w F:=by
 have HT:=hid hT;have HC:=hid hC;go_enter (Qz.fn func242),ntmps242;go_wp2_with fail;go_loopg [3,8] bs.length (λn x i wr=>∃t:Nat,t+n=bs.length/\i=aC aD (t:Int)/\zb w wr/\iF wr w.heap.size x ((bs.take t).flatMap (kids zf of fr)));case atStart=>exact⟨0,by omega,rfl,zGo _ _,iF.nil _ _⟩
 case round=>
  obtain⟨t,ht,rfl,c1,c2⟩:=hrel
  have K:=hid c1
  have Z:=hid c2
  by_cases B:t<bs.length
  .obtain⟨g,T,rfl,hg,V⟩:=HT.out (by rw[zCl];omega);have y:=zDo B;have U:=V t (aA bs[t]) (by rw[zDi,zAi B];rfl);have K0:wr.cell? ⟨g,T+t,aB⟩=aA (ptr (aA bs[t])):=by
    rw[K.out.cell (p:=⟨g,T+t,aB⟩) hg];exact U
   obtain⟨⟨i,v,gg,hs,f⟩,E,D⟩:=HC.out _ y;have d:aX wr bs[t] (zf bs[t]) (of bs[t]) i v gg hs:=⟨by rw[K.out.block _ f.lt];exact f.at'⟩;have c0:=d.c0;have c1:=d.c1;have N:Hid ((bs.take (t+1)).flatMap (kids zf of fr)=(bs.take t).flatMap (kids zf of fr)++[zf bs[t],of bs[t]].filter fr):=by show _=_;rw[List.take_succ,zAi B,List.flatMap_append];simp[kids]
   have O:((bs.take t).flatMap (kids zf of fr)).length<=200:=by have:=FX zf of fr (bs.take t);rw[zBf]at this;omega
   have A:∀p,uB w fr p->∀W,zb w W->uB W fr p:=λp h W L=>by obtain h|⟨b,z,o,i,s,Y,hs,e,u,h⟩:=h;{exact aH h};{exact aI ⟨b,z,o,i,s,Y,hs,e,⟨by rw[L.block b u.lt];exact u.at'⟩,h⟩}
   have m:∀p,uB w fr p->∀b,p=aA b->b<w.heap.size:=λp h b e=>by obtain⟨rfl,_⟩|⟨b',z,o,i,s,Y,hs,e',u,h⟩:=h;{cases e};{rw[e']at e;cases e;exact u.lt}
   have R:Hid (∀W,zb wr W->Calls zq 241 #[u3,aK (aA ⟨W.heap.size,0,aB⟩) 2 2] (W.alloc (aJ #[ptr (zf bs[t]),ptr (of bs[t])] 264)) λe F=>∃s,e=aM s/\iF F w.heap.size s ((bs.take (t+1)).flatMap (kids zf of fr))/\zb w F):=λW L=>by
    have M:=Z.out.below L (zAb _);have J:zb w W:=K.out.trans (L.mono K.out.size);have r:zb w (W.alloc (aJ #[ptr (zf bs[t]),ptr (of bs[t])] 264)):=J.alloc J.size _;have Q:iF (W.alloc (aJ #[ptr (zf bs[t]),ptr (of bs[t])] 264)) w.heap.size u3 ((bs.take t).flatMap (kids zf of fr)):=World.ownsRow.alloc M _;have H:=cL.new W 264 #[ptr (zf bs[t]),ptr (of bs[t])];rw[N.out];refine(LO (ts:=[zf bs[t],of bs[t]]) (q:=aA ⟨W.heap.size,0,aB⟩) (c:=2) (fr:=fr) Q ?_ ?_ ?_ ?_ ?_ ?_).mono ?_
    .refineλ_=>⟨W.heap.size,0,rfl,by rw[size_alloc];omega,λj p l=> ?_⟩;rw[zBd,H.cell j];match j,l with
     |0,l=>cases l;rfl
     |1,l=>cases l;rfl
    .intro p l;simp only[zAg,zAr,zCd]at l;obtain rfl|rfl:=l
     .exact A _ E _ r
     .exact A _ D _ r
    .intro a g P C e;cases P;have:=(M.lt g C).2;dsimp only at e;omega
    .have:=r.size;omega
    .intro p l b X g C;have:=(M.lt g C).1;have:b<w.heap.size:=by
      simp only[zAg,zAr,zCd]at l;obtain rfl|rfl:=l;{exact m _ E b X};{exact m _ D b X}
     omega
    .simp only[zAf,zAl];omega
    .rintro e F ⟨s,rfl,h1,h2⟩;exact⟨s,rfl,h1,r.grown h2.UW r.size λk hk=>(M.lt k hk).1⟩
   have Vd:¬((t:Int)<0):=by{omega};have km:(t:Int)<(bs.length:Int):=by omega
   generalize bs[t]=S at*;generalize zf S=pz at*;generalize of S=po at*;clear V U y f d E D A m N O;cases pz<;>cases po;all_goals
    go_upto_region 5 with(fail)
    go_region_with (first
     |(go_at_call 241;refine(R.out wr.drew ⟨rfl,rfl,rfl,zAb _,λ_ _=>rfl⟩).mono ?_;rintro e w9 ⟨v9,rfl,G,I⟩;dsimp only))
    all_goals
     have O9:=hid G
     have B9:=hid I
     clear G I
     go_wp2_with fail
     go_roundg (bs.length-(t+1))
     case measure=>omega
     case rel=>
      go_light
      exact⟨t+1,by omega,by go_num,B9.out,O9.out⟩
  .have:t=bs.length:=by{omega};subst this;have N:Hid ((bs.take bs.length).flatMap (kids zf of fr)=bs.flatMap (kids zf of fr)):=by{show _=_;rw[List.take_length]};go_wp2;go_ret;exact⟨u3,rfl,by rw[<-N.out];exact Z.out,K.out⟩
def iF.lr {w base b v l}(h:iF w b v l)(d:base<=b):iF w base v l:=by obtain⟨i,f⟩:=h;refine⟨i,f.imp id ?_⟩;rintro⟨g,cap,c,e,a,r⟩;exact⟨g,cap,c,e,zBb d a,r⟩
structure ak (w:zW)(zf of:Nat->Option Nat)(fr:Option Nat->Bool)(PD:Nat->zP):Prop where
 cell:∀n b,PD n b->(∃i v hs,aX w b (zf b) (of b) i v [] hs)/\uB w fr (zf b)/\uB w fr (of b)
 NR:∀n b,PD n b->∀c∈kids zf of fr b,∃c',c=aA c'/\PD (n+1) c'
 deep:∀n b,PD n b->n<=256
def uB.below {w W fr p}(h:uB w fr p)(d:zb w W):uB W fr p:=by
 obtain h|⟨b,z,o,i,v,g,c,e,a,h⟩:=h
 .exact aH h
 .exact aI ⟨b,z,o,i,v,g,c,e,⟨by rw[d.block b a.lt];exact a.at'⟩,h⟩
def ak.below {w W:zW}{zf of:Nat->Option Nat}{fr:Option Nat->Bool}{P:Nat->zP}(h:ak w zf of fr P)(a:zb w W):ak W zf of fr P:=
 ⟨λn b e=>by obtain⟨⟨i,v,d,c⟩,g,f⟩:=h.cell n b e;exact⟨⟨i,v,d,⟨by rw[a.block b c.lt];exact c.at'⟩⟩,g.below a,f.below a⟩,h.NR,h.deep⟩
def Mh {zf of fr}{P:Nat->zP}{n}:∀(g:List Nat),(∀b∈g,∀c∈kids zf of fr b,∃c',c=aA c'/\P (n+1) c')->∃cs:List Nat,g.flatMap (kids zf of fr)=cs.map aA/\∀c∈cs,P (n+1) c:=by
 intro g h;have k:∀l:List (Option Nat),(∀c∈l,∃c',c=aA c'/\P (n+1) c')->∃cs:List Nat,l=cs.map aA/\∀c∈cs,P (n+1) c:=λl=>by
  induction l with
  |nil=>exactλ_=>⟨[],rfl,λc d=>by simp at d⟩
  |cons a l i=>intro h;obtain⟨p,e,m⟩:=h a (by simp);obtain⟨cs,o,f⟩:=i λc d=>h c (zBc _ d);refine⟨p::cs,by rw[e,o];rfl,λc d=> ?_⟩;obtain rfl|d:=zAg.1 d;{exact m};{exact f c d}
 refine k _ λc d=> ?_;obtain⟨b,j,d⟩:=List.mem_flatMap.1 d;exact h b j c d
def XO {w zf of fr P top}(hL:ak w zf of fr P)(hF:uB w fr top)(hP:fr top=aF->∃b,top=aA b/\P 0 b):
  Calls zq 234 #[ptr top] w λe f=>∃(d:zY)(h:List Nat),e=aM d/\iF f w.heap.size d (h.map aA)/\(∀b∈h,∃n,P n b)/\h.length<=32/\zb w f:=by
 have HL:=hid hL;have Q:Hid (∀W,zb w W->Calls zq 241 #[aK aB 0 0,aK (aA ⟨W.heap.size,0,aB⟩) 1 1] (W.alloc (aJ #[ptr top] 264)) λe f=>∃(d:zY)(h:List Nat),e=aM d/\iF f w.heap.size d (h.map aA)/\(∀b∈h,P 0 b)/\h.length<=1/\zb w f):=λW hW=>by
  have o:zb w (W.alloc (aJ #[ptr top] 264)):=hW.alloc hW.size _;have F:=cL.new W 264 #[ptr top];refine(LO (base:=w.heap.size) (ts:=[top]) (c:=1) (fr:=fr) (iF.nil _ _) ?_ ?_ ?_ ?_ ?_ ?_).mono ?_
  .refineλ_=>⟨W.heap.size,0,rfl,by rw[size_alloc];omega,λj p t=> ?_⟩;rw[zBd,F.cell j];match j,t with
   |0,t=>cases t;rfl
  .intro p t;rw[zAm]at t;subst t;exact hF.below o
  .intro a g _ V;cases V
  .exact o.size
  .intro p _ b _ g V;cases V
  .simp
  .rintro e f ⟨d,rfl,N,h2⟩;have G:zb w f:=o.grown h2.UW o.size λk hk=>by{cases hk};cases s:fr top with
   |true=>obtain⟨b,rfl,l⟩:=hP s;refine⟨d,[b],rfl,?_,λc u=> ?_,by simp,G⟩;{simpa [s]using N};{rw[zAm]at u;subst u;exact l}
   |false=>refine⟨d,[],rfl,?_,λc u=>by simp at u,by simp,G⟩;simpa [s]using N
 clear hL hF hP;have R:∀z:zY,(z= .pointer aB\/∃b,z=aO (aA ⟨b,0,aB⟩))->(∀W,zb w W->Calls zq 241 #[aK aB 0 0,aK (aA ⟨W.heap.size,0,aB⟩) 1 1] (W.alloc (aJ #[z] 264)) λe f=>∃(d:zY)(h:List Nat),e=aM d/\iF f w.heap.size d (h.map aA)/\(∀b∈h,P 0 b)/\h.length<=1/\zb w f)->
   Calls zq 234 #[z] w λe f=>∃(d:zY)(h:List Nat),e=aM d/\iF f w.heap.size d (h.map aA)/\(∀b∈h,∃n,P n b)/\h.length<=32/\zb w f:=by
  intro z r hF
  have Q:=hid hF
  clear hF
  obtain rfl|⟨b,rfl⟩:=r
  all_goals
   go_enter (Qz.fn func234),ntmps234
   go_wp2_with fail
   refine(Q.out w (zGo _ _)).mono ?_
   rintro e w1 ⟨v1,b1,rfl,o1,p1,l1,I⟩
   have O1:=hid o1
   have P1:=hid p1
   have B1:=hid I
   clear o1 p1 I Q
   go_wp2_with fail
   go_loopg [3,4] 300 (λq x y wr=>∃(n:Nat)(lv ms:List Nat),n+q=300/\zb w wr/\iF wr w.heap.size x (lv.map aA)/\iF wr w.heap.size y (ms.map aA)/\(∀b∈lv,P n b)/\(∀b∈ms,∃m,P m b)/\lv.length<=ms.length/\ms.length<=32)
   case atStart=>exact⟨0,b1,b1,by omega,B1.out,O1.out,O1.out,P1.out,λb l=>⟨0,P1.out b l⟩,zAb _,by omega⟩
   case round=>
    clear O1 P1 B1 l1
    obtain⟨n,lv,ms,hn,c1,c2,c3,c4,c5,c6,c7⟩:=hrel
    have C:=hid c1
    have C2:=hid c2
    have M:=hid c3
    have C4:=hid c4
    have C5:=hid c5
    obtain⟨q3,k3,e3,h31,Vf,h33⟩:=C2.out.NI
    obtain⟨q4,k4,e4,h41,h42,h43⟩:=M.out.NI
    rw[zCl]at e3 h31 e4 h41
    subst e3
    subst e4
    have L:=hid Vf
    clear c1 c2 c3 c4 c5 Vf h33 h42 h43
    by_cases U:0<lv.length/\ms.length<16
    .have B:(0:Int)<(lv.length:Int):=by{omega};have T:(ms.length:Int)<16:=by omega
     have H:Hid (ak wr zf of fr P):=HL.out.below C.out;have K:Hid (Calls zq 242 #[aK q3 lv.length k3] wr λe f=>∃d cs,e=aM d/\iF f w.heap.size d (List.map aA cs)/\(∀b∈cs,P (n+1) b)/\cs.length<=30/\zb wr f):=by refine(Fs (bs:=lv) (zf:=zf) (of:=of) (fr:=fr) L.out (λb l=> ?_) (by omega)).mono ?_;{obtain⟨⟨i,v,hs,u⟩,N,h2⟩:=H.out.cell n b (C4.out b l);exact⟨⟨i,v,[],hs,u⟩,N,h2⟩};{rintro e w2 ⟨v2,rfl,A,J⟩;obtain⟨cs,ecs,X⟩:=Mh lv λb l=>H.out.NR n b (C4.out b l);have E:=FX zf of fr lv;rw[ecs]at A E;rw[zCl]at E;exact⟨v2,cs,rfl,A.lr C.out.size,X,by omega,J⟩}
     go_wp2_with fail;refine K.out.mono ?_;rintro e w2 ⟨v2,cs,rfl,A,p2,l2,J⟩;have O:=hid A;have O3:Hid (iF w2 w.heap.size (aK q4 ms.length k4) (ms.map aA)):=M.out.below J (zAb _);have P2:=hid p2;have B2:Hid (zb w w2):=C.out.trans (J.mono C.out.size);have S:n<=256:=by obtain⟨b,l⟩:∃b,b∈lv:=List.exists_mem_of_length_pos U.1;exact HL.out.deep n b (C4.out b l)
     obtain⟨q5,k5,e5,h51,Z,Y⟩:=O.out.NI;rw[zCl]at e5;subst e5;clear A p2 J K H C C2 M C4 L h51 Z Y;by_cases xc:ms.length<cs.length
     .have D:(ms.length:Int)<(cs.length:Int):=by{omega};go_wp2_with fail;go_roundg (300-(n+1));case measure=>omega
      case rel=>
       go_light
       exact⟨n+1,cs,cs,by omega,B2.out,O.out,O.out,P2.out,λb l=>⟨n+1,P2.out b l⟩,zAb _,by omega⟩
     .have D:¬(ms.length:Int)<(cs.length:Int):=by{omega};go_wp2_with fail;go_roundg (300-(n+1));case measure=>omega
      case rel=>
       go_light
       exact⟨n+1,cs,ms,by omega,B2.out,O.out,O3.out,P2.out,C5.out,by omega,by omega⟩
    .by_cases h0:0<lv.length
     .have B:(0:Int)<(lv.length:Int):=by{omega};have T:¬(ms.length:Int)<16:=by{omega};go_wp2;go_ret;exact⟨_,rfl,ms,M.out,C5.out,by omega,C.out⟩
     .have B:¬(0:Int)<(lv.length:Int):=by{omega};go_wp2;go_ret;exact⟨_,rfl,ms,M.out,C5.out,by omega,C.out⟩
 have r:ptr top= .pointer aB\/∃b,ptr top=aO (aA ⟨b,0,aB⟩):=by
  cases top with
  |none=>exact aH rfl
  |some b=>exact aI ⟨b,rfl⟩
 exact R _ r Q.out
inductive Good (w:zW):zP
 |mk {b:Nat} {z o:Option Nat} {i v g:zB} {hs:Int} (h:aX w b z o i v g hs) (hz:∀c,z=aA c->Good w c) (ho:∀c,o=aA c->Good w c):Good w b
def Good.cell {w b}(h:Good w b):∃z o i v g hs,aX w b z o i v g hs:=by cases h with|mk h _ _=>exact⟨_,_,_,_,_,_,h⟩
def Good.down {w b z o i v g hs}(h:Good w b)(j:aX w b z o i v g hs)(c)(e:z=aA c\/o=aA c):Good w c:=by
 cases h with
 |mk h a f=>obtain⟨rfl,rfl,_⟩:=eC h j;exact e.elim (a c) (f c)
section
variable {k:Nat}{w w':zW}{p:Option Nat}{us:List bJ}{d lo hi:Nat}{rows:List (Nat×ByteArray)}
def eL.NW (h:eL k w p us d):∀b,p=aA b->Good w b:=by
 induction h with
 |nil=>intro b e;cases e
 |leaf h=>intro b e;cases e;exact .mk h (λc e=>by cases e) (λc e=>by cases e)
 |node _ _ h _ _ f a=>intro b e;cases e;exact .mk h f a
def cO.NW (h:cO k w p us d lo hi rows):(∀b,p=aA b->Good w b)/\∀x∈rows,Good w x.1:=by
 induction h with
 |done h=>exact⟨h.NW,λx a=>by simp at a⟩
 |leaf _ _ h=>have l:=Good.mk h (λc e=>by cases e) (λc e=>by cases e);refine⟨λb e=>by cases e;exact l,λx a=> ?_⟩;rw[zAm]at a;subst a;exact l
 |node _ _ h _ _ _ j f=>
  have l:=Good.mk h j.1 f.1;refine⟨λb e=>by cases e;exact l,λx a=> ?_⟩;obtain a|a:=zAh.1 a
  .obtain a|a:=zAh.1 a
   .exact j.2 x a
   .exact f.2 x a
  .rw[zAm]at a;subst a;exact l
def eL.stay {G:zP}(a:∀b z o i v g hs,G b->aX w b z o i v g hs->∀c,z=aA c\/o=aA c->G c)(r:∀b z o i v g hs,G b->aX w b z o i v g hs->∃f,aX w' b z o i v g f)(h:eL k w p us d)(q:∀b,p=aA b->G b):eL k w' p us d:=by
 induction h with
 |nil d=>exact .nil d
 |leaf h=>obtain⟨f,n⟩:=r _ _ _ _ _ _ _ (q _ rfl) h;exact .leaf n
 |node t s h u x l j=>have m:=q _ rfl;obtain⟨f,n⟩:=r _ _ _ _ _ _ _ m h;exact .node t s n (l λc e=>a _ _ _ _ _ _ _ m h c (aH e)) (j λc e=>a _ _ _ _ _ _ _ m h c (aI e))
def cO.stay {G:zP}(a:∀b z o i v g hs,G b->aX w b z o i v g hs->∀c,z=aA c\/o=aA c->G c)(q:∀b z o i v g hs,G b->aX w b z o i v g hs->∃f,aX w' b z o i v g f)(h:cO k w p us d lo hi rows)(m:∀b,p=aA b->G b):cO k w' p us d lo hi rows:=by
 induction h with
 |done h hl=>exact .done (h.stay a q m) hl
 |leaf k1 k2 h=>obtain⟨f,r⟩:=q _ _ _ _ _ _ _ (m _ rfl) h;exact .leaf k1 k2 r
 |node t s h u x hb l j=>have n:=m _ rfl;obtain⟨f,r⟩:=q _ _ _ _ _ _ _ n h;exact .node t s r (l λc e=>a _ _ _ _ _ _ _ n h c (aH e)) (j λc e=>a _ _ _ _ _ _ _ n h c (aI e)) hb
def cO.Qj {G:zP}(f:∀b z o i v g hs,G b->aX w b z o i v g hs->∀c,z=aA c\/o=aA c->G c)(h:cO k w p us d lo hi rows)(n:∀b,p=aA b->G b):∀x∈rows,G x.1:=by
 induction h with
 |done=>intro x a;simp at a
 |leaf=>intro x a;rw[zAm]at a;subst a;exact n _ rfl
 |node t s h q r hb l j=>
  have m:=n _ rfl;intro x a;obtain a|a:=zAh.1 a
  .obtain a|a:=zAh.1 a
   .exact l (λc e=>f _ _ _ _ _ _ _ m h c (aH e)) x a
   .exact j (λc e=>f _ _ _ _ _ _ _ m h c (aI e)) x a
  .rw[zAm]at a;subst a;exact m
end
def ln (w:zW)(b:Nat):Option Nat:=match w.cell? ⟨b,0,aB⟩with|some (aO (aA a))=>aA a.block|_=>aB
def na (w:zW)(b:Nat):Option Nat:=match w.cell? ⟨b,1,aB⟩with|some (aO (aA a))=>aA a.block|_=>aB
def BT (w:zW):Option Nat->Bool
 |none=>aG
 |some b=>match w.cell? ⟨b,4,aB⟩with|some (aL s)=>s.data.toList.isEmpty|_=>aG
section
variable {k:Nat}{w w':zW}{b:Nat}{z o:Option Nat}{i v g:zB}{hs:Int}
def aX.zf (h:aX w b z o i v g hs):ln w b=z:=by unfold ln;rw[h.c0];cases z<;>rfl
def aX.of (h:aX w b z o i v g hs):na w b=o:=by unfold na;rw[h.c1];cases o<;>rfl
def aX.fr (h:aX w b z o i v g hs):BT w (aA b)=g.isEmpty:=by show(match w.cell? ⟨b,4,aB⟩with|some (aL s)=>s.data.toList.isEmpty|_=>aG)=_;rw[h.c4]
def Good.Yk (h:∀c,z=aA c->Good w c):uB w (BT w) z:=by
 cases z with
 |none=>exact aH ⟨rfl,rfl⟩
 |some c=>obtain⟨z,o,i,v,g,hs,a⟩:=(h c rfl).cell;exact aI ⟨c,z,o,i,v,g,hs,rfl,a,a.fr⟩
structure pN (k:Nat)(w:zW)(G:zP)(us:List bJ)(all:List (Nat×ByteArray))(n b:Nat):Prop where
 deep:n<=256
 Qj:G b
 new:∃z o i v hs,aX w b z o i v [] hs
 tree:∃um lo hi rows,cO k w (aA b) um n lo hi rows/\(∀x∈rows,x∈all)/\rows.length<=all.length/\∀u∈um,u∈us
def Xp {G}(f:∀b z o i v g hs,G b->aX w b z o i v g hs->∀c,z=aA c\/o=aA c->G c)(k1:1<=k)(k2:k<=32)(us)(all):ak w (ln w) (na w) (BT w) (pN k w G us all):=by
 refine⟨λn b h=> ?_,λn b h c l=> ?_,λn b h=>h.deep⟩
 .obtain⟨z,o,i,v,hs,l⟩:=h.new;obtain⟨s,lo,hi,rows,F,_⟩:=h.tree;have I:=F.NW.1 b rfl;rw[l.zf,l.of];exact⟨⟨i,v,hs,l⟩,Good.Yk λc e=>I.down l c (aH e),Good.Yk λc e=>I.down l c (aI e)⟩
 .have K:=h;obtain⟨z,o,i,v,hs,a⟩:=h.new;obtain⟨s,lo,hi,rows,F,H,hlen,E⟩:=h.tree;unfold kids at l;rw[a.zf,a.of]at l;obtain⟨D,r⟩:=zAx.1 l;have t:∀(c:Option Nat)(j:List bJ)(m q:Nat)(r2:List (Nat×ByteArray)),(∀c',c=aA c'->G c')->BT w c=aF->n<256->cO k w c j (n+1) m q r2->(∀x∈r2,x∈rows)->r2.length<=rows.length->(∀u∈j,u∈s)->∃c',c=aA c'/\pN k w G us all (n+1) c':=λc j m q r2 O r T B R Q P=>by
   cases c with
   |none=>cases r
   |some c=>obtain⟨z2,S,i2,v2,U,M,C⟩:=(B.NW.1 c rfl).cell;rw[C.fr]at r;have e:=List.isEmpty_iff.1 r;subst e;exact⟨c,rfl,by omega,O c rfl,⟨_,_,_,_,_,C⟩,j,m,q,r2,B,λx y=>H x (R x y),by omega,λu A=>E u (P u A)⟩
  cases F with
  |done h hl=>
   exfalso;cases h with
   |leaf h=>exact qU k1 k2 (eC h a).2.2.2.2.1
   |node _ _ h=>exact qU k1 k2 (eC h a).2.2.2.2.1
  |leaf _ _ h=>obtain⟨rfl,rfl,_⟩:=eC h a;simp only[zAg,zAr,zCd,or_self]at D;subst D;cases r
  |node Q J h L N hb=>obtain⟨rfl,rfl,_⟩:=eC h a;simp only[zAg,zAr,zCd]at D;obtain rfl|rfl:=D;{exact t _ _ _ _ _ (λc' e=>f _ _ _ _ _ _ _ K.Qj a c' (aH e)) r J L (λx y=>zAh.2 (aH (zAh.2 (aH y)))) (by rw[zAc,zAc];omega) (λu A=>(zAx.1 A).1)};{exact t _ _ _ _ _ (λc' e=>f _ _ _ _ _ _ _ K.Qj a c' (aI e)) r J N (λx y=>zAh.2 (aH (zAh.2 (aI y)))) (by rw[zAc,zAc];omega) (λu A=>(zAx.1 A).1)}
def Lg {G p us lo hi all}(h:cO k w p us 0 lo hi all)(j:∀b,p=aA b->G b):uB w (BT w) p/\(BT w p=aF->∃b,p=aA b/\pN k w G us all 0 b):=by
 refine⟨Good.Yk h.NW.1,λc=> ?_⟩;cases p with
 |none=>cases c
 |some b=>obtain⟨z2,l,i2,v2,m,f,a⟩:=(h.NW.1 b rfl).cell;rw[a.fr]at c;have e:=List.isEmpty_iff.1 c;subst e;exact⟨b,rfl,by omega,j b rfl,⟨_,_,_,_,_,a⟩,us,lo,hi,all,h,λ_ h=>h,zAb _,λ_ h=>h⟩
end
structure rF (k t:Nat)(D:zP)(w:zW):Prop where
 k1:1<=k
 k2:k<=32
 plain:Plain zq Qw.Al D w
 box:∀b,D b->¬VN w.heap[b]?
 top:D t
 AP:oU w t k
 iH:fD w
 thaw:∀b z o i v g hs,D b->aX w b z o i v g hs->dC w b
def FV:(0:Nat)<=zq.globals.size/\(2:Nat)<=zq.globals.size:=by have:zq.globals.size=Tryz.prog.globals.size:=rfl;rw[this];exact⟨by decide+kernel,by decide+kernel⟩
section
variable {k t:Nat}{D:zP}{w W:zW}
def rF.gK (h:rF k t D w):D 0/\D 2:=⟨(h.plain.ok.gK 0 FV.1).2,(h.plain.ok.gK 2 FV.2).2⟩
def rU (g:Plain zq Qw.Al D w)(f:sZ D w W){b}(a:D b):b<W.heap.size/\∀i,W.cell? ⟨b,i,aB⟩=w.cell? ⟨b,i,aB⟩:=by
 have bT:=nM g a;have e:=zAj bT;obtain h|⟨c,ty,fr,j,h1,d⟩:=f b a _ e
 .refine⟨(zAa.1 h).1,λi=> ?_⟩;simp only[World.cell?];rw[h,e]
 .refine⟨(zAa.1 d).1,λi=> ?_⟩;rw[h1]at e;rw[bC d,bC e]
def Db (j:Plain zq Qw.Al D w)(a:sZ D w W){b}(d:D b){z o i v g hs}(h:aX w b z o i v g hs):aX W b z o i v g hs:=by
 obtain⟨fr,h⟩:=h.at';obtain h|⟨c,ty,fr,f,h1,e⟩:=a b d _ h
 .exact⟨_,h⟩
 .cases h1;exact⟨_,e⟩
def rF.me (h:rF k t D w)(b:sZ D w W):oU W t k:=by obtain⟨c,a⟩:=rU h.plain b h.top;exact⟨c,(a 0).trans h.AP.wid,(a 2).trans h.AP.emp⟩
def rF.mf (h:rF k t D w)(a:sZ D w W):fD W:=by
 obtain⟨f,a2⟩:=rU h.plain a h.gK.1;obtain⟨e,d⟩:=rU h.plain a h.gK.2;refine⟨⟨e,λj c=> ?_⟩,f,λj v b=> ?_⟩
 .rw[d j];exact h.iH.mF.2 j c
 .rw[a2];exact h.iH.iI j v b
def rF.down (h:rF k t D w)(b)(z o)(i v g)(hs)(n:D b)(f:aX w b z o i v g hs)(c)(e:z=aA c\/o=aA c):D c:=by
 obtain⟨fr,f⟩:=f.at';have a:∀{x:Option Nat},bG Qw.Al (cC D) (ptr x) (ptr x)->x=aA c->D c:=λ{x} l e=>by
  subst e;cases l with
  |pointer m=>cases m with|some p=>exact p.1.2
 obtain⟨cs,ty,q,d,j,_⟩|⟨_,r,d,j⟩:=h.plain.blk b n
 .rw[f]at d;cases d;obtain e|e:=e
  .exact a (j.at' 0 _ _ rfl rfl) e
  .exact a (j.at' 1 _ _ rfl rfl) e
 .rw[f]at d;cases d;exact absurd rfl (j.1 _ _ _)
def rF.mr (h:rF k t D w)(l:sZ D w W){p:Option Nat}{us:List bJ}{d lo hi:Nat}{rows:List (Nat×ByteArray)}(c:cO k w p us d lo hi rows)(e:∀b,p=aA b->D b):cO k W p us d lo hi rows:=
 c.stay h.down (λb z o i v g a f j=>⟨a,Db h.plain l f j⟩) e
def rF.below (h:rF k t D w){B}(e:Below B w W)(l:w.heap.size<=B):rF k t D W:=by have d:∀b,D b->W.heap[b]? =w.heap[b]? :=λb j=>e.block b (zAd (nM h.plain j) l);refine⟨h.k1,h.k2,⟨h.plain.ok,zAd h.plain.low e.size,λb a=>by rw[d b a];exact h.plain.blk b a⟩,λb a=>by rw[d b a];exact h.box b a,h.top,h.AP.below e l,h.iH.below e l,λb z o i v g f a m=> ?_⟩;obtain⟨c,n⟩:=h.thaw b z o i v g f a ⟨by rw[<-d b a];exact m.at'⟩;exact⟨c,by rw[d b a];exact n⟩
def rF.fork (h:rF k t D w){us all}(U:∀u∈us,u.idx.length=32/\u.val.length<=100)(S:all.length<=1000000){bs:List Nat}(N:∀b∈bs,∃n,pN k w D us all n b)(hlen:bs.length<=32){q}(V:pM w q (bs.map aA))(J:∀a,q=aA a->¬VN w.heap[a.block]?):
  ∃bp o rows,Fork bs.length q bp o t D (λi=>(bs[i]?).map λb=>⟨b,0,aB⟩) rows w/\∀i,i<bs.length->∃b d n lo hi,bs[i]? =aA b/\cO k w (aA b) d n lo hi (rows i)/\(∀x∈rows i,x∈all)/\∃z o i v G,aX w b z o i v [] G:=by
 have M:∀i,∃r:List (Nat×ByteArray),i<bs.length->∃b d n lo hi,bs[i]? =aA b/\cO k w (aA b) d n lo hi r/\(∀x∈r,x∈all)/\r.length<=all.length/\(∀u∈d,u∈us)/\D b/\∃z o i v G,aX w b z o i v [] G:=λi=>by by_cases hi:i<bs.length;{obtain⟨n,K⟩:=N _ (zDo hi);obtain⟨d,lo,l,r,B,A,Y,X⟩:=K.tree;exact⟨r,λ_=>⟨_,d,n,lo,l,zAi hi,B,A,Y,X,K.Qj,K.new⟩⟩};{exact⟨[],λx=>absurd x hi⟩}
 obtain⟨rows,f⟩:=Classical.skolem.1 M;obtain⟨bp,o,m⟩:∃bp o,0<bs.length->q=aA ⟨bp,o,aB⟩/\bp<w.heap.size/\∀j p,(bs.map aA)[j]? =aA p->w.cell? ⟨bp,o+j,aB⟩=aA (ptr p):=by by_cases y:0<bs.length;{obtain⟨g,o,e,B,A⟩:=V (by rw[zCl];exact y);exact⟨g,o,λ_=>⟨e,B,A⟩⟩};{exact⟨0,0,λx=>absurd x y⟩}
 refine⟨bp,o,rows,⟨by omega,λy=>(m y).1,λy=>⟨(m y).2.1,J _ (m y).1⟩,λi hi=> ?_,h.plain,h.box,h.top,λi hi a T=> ?_,λi hi=> ?_,λi hi x Q=> ?_,λi hi W O=> ?_⟩,λi hi=> ?_⟩
 .obtain⟨b,d,n,lo,l,e,_⟩:=f i hi;rw[(m (by omega)).2.2 i (aA b) (by rw[zDi,e];rfl),e];rfl
 .obtain⟨b,d,n,lo,l,e,s,_,_,_,F,_⟩:=f i hi;rw[e]at T;cases T;exact F
 .obtain⟨b,d,n,lo,l,e,s,_,hl,_⟩:=f i hi;omega
 .obtain⟨b,d,n,lo,l,e,s,_,_,_,F,_⟩:=f i hi;have B:=s.Qj h.down (λZ P=>by cases P;exact F) x Q;obtain⟨z,o,i,v,g,G,E⟩:=(s.NW.2 x Q).cell;obtain⟨c,A⟩:=h.thaw _ _ _ _ _ _ _ B E;refine⟨B,c,A,?_⟩;obtain⟨fr,R⟩:=E.at';rw[A]at R;cases R;rfl
 .obtain⟨b,d,n,lo,l,e,s,_,hl,H,F,_⟩:=f i hi;have:=PU h.k1 h.k2 (h.me O) (h.mf O) (h.mr O s λZ P=>by cases P;exact F) (λu I=>U u (H u I)) (by omega);rw[e];exact this
 .obtain⟨b,d,n,lo,l,e,s,L,_,_,_,C⟩:=f i hi;exact⟨b,d,n,lo,l,e,s,L,C⟩
end
section
variable {k:Nat}{w w':zW}{p:Option Nat}{us:List bJ}{d lo hi:Nat}{rows L:List (Nat×ByteArray)}
def KM {b z o i v g hs}(h:aX w b z o i v g hs)(s):aX (oB w (b,s)) b z o i v s.data.toList hs:=by obtain⟨fr,h⟩:=h.at';refine⟨fr,?_⟩;have:=cY h 4 (aL s);show(w.setCell ⟨b,4,aB⟩ (aL s)).heap[b]? =_;rw[this];rfl
def wQ {b z o i v g hs}(h:aX w b z o i v g hs){x}(a:b≠x.1):aX (oB w x) b z o i v g hs:=⟨by rw[qK a];exact h.at'⟩
def pE {b:Nat}{z o:Option Nat}{i v:zB}{hs:Int}{s:ByteArray}:∀(L:List (Nat×ByteArray)){w:zW}{g:zB},(∀c,(b,c)∈L->c=s)->(∃c,(b,c)∈L)\/g=s.data.toList->aX w b z o i v g hs->aX (Go.Ga.cT L w) b z o i v s.data.toList hs
 |[],w,g,_,h,j=>by obtain⟨_,h⟩|h:=h;{simp at h};{rw[<-h];exact j}
 |x::L,w,g,a,h,j=>by
  rw[RX];by_cases e:b=x.1
  .have l:x.2=s:=a x.2 (by rw[e];simp);have m:aX (oB w x) b z o i v s.data.toList hs:=by
    have:=KM j x.2;rw[l]at this;have ex:(b,s)=x:=by{rw[e,<-l]};rw[ex]at this;exact this
   exact pE L (λc f=>a c (zBc _ f)) (aI rfl) m
  .refine pE L (λc f=>a c (zBc _ f)) ?_ (wQ j e);obtain⟨c,h⟩|h:=h
   .obtain h|h:=zAg.1 h
    .exact absurd (by rw[<-h]) e
    .exact aH ⟨c,h⟩
   .exact aI h
def cO.root (f:1<=k)(c:k<=32)(h:cO k w p us d lo hi rows){b}(a:p=aA b){z o i v hs}(e:aX w b z o i v [] hs):∃s,(b,s)∈rows:=by
 cases h with
 |done h=>
  exfalso;cases h with
  |nil=>cases a
  |leaf h=>cases a;exact qU f c (eC h e).2.2.2.2.1
  |node _ _ h=>cases a;exact qU f c (eC h e).2.2.2.2.1
 |leaf=>cases a;exact⟨_,by simp;rfl⟩
 |node=>cases a;exact⟨_,zAh.2 (aI (by simp;rfl))⟩
def cO.closed (B:1<=k)(A:k<=32)(h:cO k w p us d lo hi rows):∀b s z o i v m,(b,s)∈rows->aX w b z o i v [] m->∀c,z=aA c\/o=aA c->(∃z o i v m,aX w c z o i v [] m)->∃f,(c,f)∈rows:=by
 induction h with
 |done=>intro b s z o i v m r;simp at r
 |leaf _ _ h=>intro b s z o i v m r q c e _;rw[zAm]at r;cases r;obtain⟨rfl,rfl,_⟩:=eC h q;obtain e|e:=e<;>cases e
 |node I H h D F r u t=>
  intro C s x y i v l a q c e g;obtain a|a:=zAh.1 a
  .obtain a|a:=zAh.1 a
   .obtain⟨f,j⟩:=u C s x y i v l a q c e g;exact⟨f,zAh.2 (aH (zAh.2 (aH j)))⟩
   .obtain⟨f,j⟩:=t C s x y i v l a q c e g;exact⟨f,zAh.2 (aH (zAh.2 (aI j)))⟩
  .rw[zAm]at a;cases a;obtain⟨rfl,rfl,_⟩:=eC h q;obtain⟨z2,G,i2,v2,E,n⟩:=g;obtain e|e:=e
   .obtain⟨f,j⟩:=D.root B A e n;exact⟨f,zAh.2 (aH (zAh.2 (aH j)))⟩
   .obtain⟨f,j⟩:=F.root B A e n;exact⟨f,zAh.2 (aH (zAh.2 (aI j)))⟩
def Fe {all:List (Nat×ByteArray)}(h:(all.map (·.1)).Nodup){b s s'}(e:(b,s)∈all)(c:(b,s')∈all):s=s':=by
 induction all with
 |nil=>simp at e
 |cons a l i=>
  rw[zEf,zFy]at h;obtain g|e:=zAg.1 e
  .obtain f|c:=zAg.1 c
   .rw[<-g]at f;cases f;rfl
   .exact absurd (zBl.2 ⟨_,c,by rw[<-g]⟩) h.1
  .obtain f|c:=zAg.1 c
   .exact absurd (zBl.2 ⟨_,e,by rw[<-f]⟩) h.1
   .exact i h.2 e c
structure lf (w:zW)(all L:List (Nat×ByteArray)):Prop where
 sub:∀x∈L,x∈all
 down:∀b s z o i v hs,(b,s)∈L->aX w b z o i v [] hs->∀c,z=aA c\/o=aA c->(∃z o i v hs,aX w c z o i v [] hs)->∃s',(c,s')∈L
def cO.wrote (D:1<=k)(C:k<=32)(h:cO k w p us d lo hi rows)(t:lf w rows L)(y:dW L w w'):
  (∃cF,cO k w' p us d lo hi cF/\(∀x∈cF,x∈rows)/\cF.length<=rows.length)/\((∀b,p=aA b->(∃z o i v a,aX w b z o i v [] a)->∃s,(b,s)∈L)->eL k w' p us d):=by
 have u:=h.each;obtain⟨B,A⟩:=h.part (S:=λb=>∃s,(b,s)∈L) D C (λb ⟨s,a⟩=>(u.1 _ (t.sub _ a)).2.2) (λb z o i v a ⟨s,l⟩ j c e r=>t.down b s z o i v a l j c e r) (λb s ⟨s0,l⟩ q z o i v a j=>by
   have f:=pE L (λE n=>(Fe u.2 (t.sub _ n) q)) (aH ⟨s0,l⟩) j;obtain⟨fr,f⟩:=f.at';exact⟨a,fr,by rw[y.heap b j.lt];exact f⟩) (λb l z o i v g a j=>⟨a,⟨by
   rw[show w'.heap[b]? =w.heap[b]? from(y.heap b j.lt).trans (gO _ λx m e=>l ⟨x.2,by rw[<-e];exact m⟩)];exact j.at'⟩⟩) (λ_ h=>h)
 refine⟨?_,A⟩;obtain⟨cF,f1,f2,f3⟩:=B;exact⟨cF,f1,λx m=>(f2 x m).1,f3⟩
def Xs (D:1<=k)(y:k<=32){all rs N}(h:∀i,i<N->∃b u n lo hi,cO k w (aA b) u n lo hi (rs i)/\∀x∈rs i,x∈all):lf w all (allRows rs N):=by
 have f:∀{n:Nat}{i:Nat}{x:Nat×ByteArray},i<n->x∈rs i->x∈allRows rs n:=λ{n}=>by
  induction n with
  |zero=>intro i x hi;omega
  |succ n q=>intro i x hi a;by_cases e:i=n;{subst e;exact zAh.2 (aI a)};{exact zAh.2 (aH (q (by omega) a))}
 refine⟨λx a=> ?_,λb s z o i v r B A c e g=> ?_⟩
 .obtain⟨i,hi,a⟩:=gE a;obtain⟨_,_,_,_,_,_,C⟩:=h i hi;exact C x a
 .obtain⟨j,l,a⟩:=gE B;obtain⟨_,_,_,_,_,t,_⟩:=h j l;obtain⟨m,E⟩:=t.closed D y b s z o i v r a A c e g;exact⟨m,f l E⟩
def Lz (m:1<=k)(g:k<=32)(h:cO k w p us d lo hi rows):lf w rows rows:=⟨λ_ h=>h,λb s z o i v f l j c e a=>h.closed m g b s z o i v f l j c e a⟩
end
def qA (k t:Nat)(D:zP)(us:List bJ)(c:List PanicEntry)(w:zW):Prop:=
 ∃(q:zO)(d:List Nat)(cp:Nat)(all:List (Nat×ByteArray)),c=told (full #[iE t,iV q d.length cp])/\d.length<=32/\d.length<=cp/\all.length<=1000000/\pM w q (d.map aA)/\(∀a,q=aA a->∃e,w.heap[a.block]? =aA (aJ e 264 (0,0)))/\∀b∈d,∃n,pN k w D us all n b
def qA.gq {k t:Nat}{D:zP}{us:List bJ}{c:List PanicEntry}{w:zW}(h:qA k t D us c (cS w))(i:rF k t D (cS w))(d:∀u∈us,u.idx.length=32/\u.val.length<=100):kS c w:=by
 obtain⟨q,v,cp,all,e,r,p,n,m,l,j⟩:=h;obtain⟨bp,o,rows,hF,_⟩:=i.fork d n j r m λa g ⟨x,b⟩=>by obtain⟨s,f⟩:=l a g;rw[f]at b;cases b
 exact⟨v.length,q,bp,o,cp,t,D,_,rows,e,p,hF⟩
structure AG (all:List (Nat×ByteArray))(w w':zW):Prop where
 os:w'.os=w.os
 tape:w'.tape=w.tape
 output:w'.output=w.output
 size:w.heap.size<=w'.heap.size
 block:∀b,b<w.heap.size->(∀x∈all,x.1≠b)->w'.heap[b]? =w.heap[b]?
 cell:∀b z o i v g hs,aX w b z o i v g hs->∃g',aX w' b z o i v g' hs
 thaw:∀b,dC w b->dC w' b
section
variable {k t:Nat}{D:zP}{w w1 w':zW}{all L:List (Nat×ByteArray)}
def La {b z o i v g hs}(h:aX w b z o i v g hs)(x:Nat×ByteArray):∃a,aX (oB w x) b z o i v a hs:=by
 by_cases e:b=x.1
 .refine⟨x.2.data.toList,?_⟩;have:=KM h x.2;rw[show(b,x.2)=x by rw[e]]at this;exact this
 .exact⟨g,wQ h e⟩
def ET {b:Nat}{z o:Option Nat}{i v:zB}{hs:Int}:∀(L:List (Nat×ByteArray)){w:zW}{g:zB},aX w b z o i v g hs->∃a,aX (Go.Ga.cT L w) b z o i v a hs
 |[],_,g,h=>⟨g,h⟩
 |x::L,_,_,h=>by obtain⟨a,c⟩:=La h x;exact ET L c
def Ep {b}(h:dC w b)(x:Nat×ByteArray):dC (oB w x) b:=by
 obtain⟨c,h⟩:=h;by_cases e:b=x.1
 .subst e;exact⟨_,cY h 4 _⟩
 .exact⟨c,by rw[qK e];exact h⟩
def BC {b:Nat}:∀(L:List (Nat×ByteArray)){w:zW},dC w b->dC (Go.Ga.cT L w) b
 |[],_,h=>h
 |x::L,_,h=>BC L (Ep h x)
def dC.lt {b}(h:dC w b):b<w.heap.size:=by obtain⟨c,h⟩:=h;exact(zAa.1 h).1
def AG.of (h:dW L w w')(l:∀x∈L,x∈all):AG all w w':=
 ⟨h.os,h.tape,h.output,h.size,λb a j=>(h.heap b a).trans (gO _ λx f=>j x (l x f)),λb z o i v g n e=>by
  obtain⟨m,fr,d⟩:=ET L e;exact⟨m,fr,by rw[h.heap b e.lt];exact d⟩,λb a=>by
  obtain⟨c,d⟩:=BC L a;exact⟨c,by rw[h.heap b a.lt];exact d⟩⟩
def AG.below {B:Nat}(a:Below B w w')(d:w.heap.size<=B):AG all w w':=
 ⟨a.os,a.tape,a.output,a.size,λb h _=>a.block b (zAd h d),λb z o i v g f e=>⟨g,⟨by rw[a.block b (zAd e.lt d)];exact e.at'⟩⟩,λb h=>by have hl:=h.lt;obtain⟨c,h⟩:=h;exact⟨c,by rw[a.block b (zAd hl d)];exact h⟩⟩
def AG.trans (h:AG all w w1)(a:AG all w1 w'):AG all w w':=
 ⟨a.os.trans h.os,a.tape.trans h.tape,a.output.trans h.output,zBb h.size a.size,λb c d=>(a.block b (zAd c h.size) d).trans (h.block b c d),λb z o i v g j e=>by obtain⟨l,f⟩:=h.cell _ _ _ _ _ _ _ e;exact a.cell _ _ _ _ _ _ _ f,λb c=>a.thaw b (h.thaw b c)⟩
def Ws (c:oU w t k){b z o i v g hs}(a:aX w b z o i v g hs):b≠t:=λe=>by subst e;have h:=c.wid;rw[a.c0]at h;cases z<;>cases h
def Jo (c:fD w){b z o i v g hs}(a:aX w b z o i v g hs):b≠0/\b≠2:=by
 constructor
 .rintro rfl;have h:=c.iI 0 _ (rfl:H0.cells.toList[0]? =aA _);rw[a.c0]at h;cases z<;>cases h
 .rintro rfl;have h:=c.mF.2 0 (by omega);rw[a.c0]at h;cases z<;>cases h
def oU.Hc (h:oU w t k)(c:AG all w w')(a:∀x∈all,∃z o i v g hs,aX w x.1 z o i v g hs):oU w' t k:=by
 have f:w'.heap[t]? =w.heap[t]? :=c.block t h.lt λx d e=>by obtain⟨z,o,i,v,g,hs,b⟩:=a x d;exact Ws h b e
 have b:∀i,w'.cell? ⟨t,i,aB⟩=w.cell? ⟨t,i,aB⟩:=λi=>by simp only[World.cell?];rw[f]
 exact⟨zAd h.lt c.size,(b 0).trans h.wid,(b 2).trans h.emp⟩
def fD.Hc (h:fD w)(b:AG all w w')(a:∀x∈all,∃z o i v g hs,aX w x.1 z o i v g hs):fD w':=by
 have n:w'.heap[0]? =w.heap[0]? :=b.block 0 h.lt λx c e=>by obtain⟨z,o,i,v,g,hs,d⟩:=a x c;exact(Jo h d).1 e
 have m:w'.heap[2]? =w.heap[2]? :=b.block 2 h.mF.1 λx c e=>by obtain⟨z,o,i,v,g,hs,d⟩:=a x c;exact(Jo h d).2 e
 refine⟨⟨zAd h.mF.1 b.size,λj l=> ?_⟩,zAd h.lt b.size,λj v f=> ?_⟩
 .rw[show w'.cell? ⟨2,j,aB⟩=w.cell? ⟨2,j,aB⟩ by simp only[World.cell?];rw[m]];exact h.mF.2 j l
 .rw[show w'.cell? ⟨0,0+j,aB⟩=w.cell? ⟨0,0+j,aB⟩ by simp only[World.cell?];rw[n]];exact h.iI j v f
def PV {top:Option Nat}{us:List bJ}{lo hi:Nat}(K:rF k t D w)(h0:vE w)(X:cO k w top us 0 lo hi all)(hp:∀b,top=aA b->D b)(hu:∀u∈us,u.idx.length=32/\u.val.length<=100)(O:all.length<=1000000):
  Calls zq 224 #[aO (aA ⟨t,0,aB⟩),ptr top] w λe w'=>(e=aM (.tuple #[])/\eL k w' top us 0/\AG all w w')\/∃c,e= .panicked c/\Fl w'/\qA k t D us c (cS w')/\zb w (cS w'):=by
 have j:=K.k1;have f:=K.k2;have HP:Hid (Calls zq 234 #[ptr top] w λe w1=>∃(q:zO)(cp:Nat)(y:List Nat),e=aM (aK q y.length cp)/\y.length<=cp/\pM w1 q (y.map aA)/\(∀a,q=aA a->∃A,w1.heap[a.block]? =aA (aJ A 264 (0,0)))/\(∀b∈y,∃n,pN k w1 D us all n b)/\y.length<=32/\zb w w1):=by obtain⟨f1,f2⟩:=Lg X hp;refine(XO (Xp K.down j f us all) f1 f2).mono ?_;rintro e w1 ⟨v',y,rfl,o1,p1,l1,M⟩;obtain⟨q,cp,rfl,T,g2,g3⟩:=o1.NI;rw[zCl]at T⊢;refine⟨q,cp,y,rfl,T,g2,λa J=>(g3 a J).2.2,λb Z=> ?_,l1,M⟩;obtain⟨n,p⟩:=p1 b Z;have m:∀b z o i v g d,aX w b z o i v g d->aX w1 b z o i v g d:=λb z o i v g d h=>⟨by rw[M.block b h.lt];exact h.at'⟩;obtain⟨C,E,F,r,t1,t2,t3,t4⟩:=p.tree;obtain⟨z,o,i,v,d,hn⟩:=p.new;exact⟨n,p.deep,p.Qj,⟨z,o,i,v,d,m _ _ _ _ _ _ _ hn⟩,C,E,F,r,t1.keep j f (λb z o i v g d h=>⟨d,m _ _ _ _ _ _ _ h⟩),t2,t3,t4⟩
 have HW:Hid (∀(w1:zW)(q:zO)(cp:Nat)(y:List Nat),y.length<=cp->pM w1 q (y.map aA)->(∀a,q=aA a->∃A,w1.heap[a.block]? =aA (aJ A 264 (0,0)))->(∀b∈y,∃n,pN k w1 D us all n b)->y.length<=32->zb w w1->
   Calls zq 233 #[aO (aA ⟨t,0,aB⟩),aK q y.length cp] w1 λe w2=>(e=aM (.tuple #[])/\AG all w w2/\∃cF,cO k w2 top us 0 lo hi cF/\(∀x∈cF,x∈all)/\cF.length<=all.length)\/∃c,e= .panicked c/\Fl w2/\qA k t D us c (cS w2)/\zb w (cS w2)):=λw1 q cp y h1 h2 S h4 h5 M=>by
  have hD1:=K.below M (zAb _)
  have jx:cO k w1 top us 0 lo hi all:=X.keep j f λb z o i v g d h=>⟨d,⟨by rw[M.block b h.lt];exact h.at'⟩⟩
  obtain⟨bp,o,rows,hF,P⟩:=hD1.fork hu O h4 h5 h2 λa J ⟨x,G⟩=>by obtain⟨A,h⟩:=S a J;rw[h]at G;cases G
  have Y:=iN (M.block 0 (kL h0.cell))
  refine(Et hF ⟨Y.1.trans h0.cell,Y.2.trans h0.thaw⟩ h1).mono ?_
  rintro e w2 (⟨rfl,V⟩|⟨rfl,hfl,hm,Qk⟩)
  .left;have N:lf w1 all (allRows rows y.length):=Xs j f λi hi=>by
    obtain⟨b,C,n,E,F,_,T,g2,_⟩:=P i hi;exact⟨b,C,n,E,F,T,g2⟩
   exact⟨rfl,(AG.below M (zAb _)).trans (.of V N.sub),(jx.wrote j f N V).1⟩
  .right;refine⟨_,rfl,hfl,⟨q,y,cp,all,rfl,h5,h1,O,?_,λa J=> ?_,λb Z=> ?_⟩,M.trans (Qk.mono M.size)⟩
   .exact h2.kept hm.size λa J=>hm.old _ (by obtain⟨A,h⟩:=S a J;exact(zAa.1 h).1)
   .obtain⟨A,h⟩:=S a J;exact⟨A,by rw[hm.old _ (zAa.1 h).1];exact h⟩
   .obtain⟨n,p⟩:=h4 b Z;have m:∀b z o i v g d,aX w1 b z o i v g d->aX (cS w2) b z o i v g d:=λb z o i v g d h=>⟨by rw[hm.old b h.lt];exact h.at'⟩;obtain⟨C,E,F,r,t1,t2,t3,t4⟩:=p.tree;obtain⟨z,o,i,v,d,hn⟩:=p.new;exact⟨n,p.deep,p.Qj,⟨z,o,i,v,d,m _ _ _ _ _ _ _ hn⟩,C,E,F,r,t1.keep j f (λb z o i v g d h=>⟨d,m _ _ _ _ _ _ _ h⟩),t2,t3,t4⟩
 have B:=X.each.1;have s:∀x∈all,∃z o i v g d,aX w x.1 z o i v g d:=λx G=>by obtain⟨_,_,z,o,i,v,d,h⟩:=B x G;exact⟨z,o,i,v,[],d,h⟩
 have HK:Hid (∀(w2:zW)(cF:List (Nat×ByteArray)),AG all w w2->cO k w2 top us 0 lo hi cF->(∀x∈cF,x∈all)->cF.length<=all.length->
   Calls zq 236 #[aO (aA ⟨t,0,aB⟩),ptr top] w2 λe w3=>∃q l cp,e=aM (aK q l cp)/\Calls zq 235 #[aK q l cp] w3 λe' w4=>e'=aM (.tuple #[])/\eL k w4 top us 0/\AG all w w4):=λw2 cF I W H hlen=>by
  refine(PU j f (K.AP.Hc I s) (K.iH.Hc I s) W hu (by omega)).mono ?_
  rintro e w3 ⟨q,l,cp,rfl,T,g2,g3,b3⟩
  refine⟨q,l,cp,rfl,?_⟩
  have Q:cO k w3 top us 0 lo hi cF:=W.keep j f λb z o i v g d h=>⟨d,⟨by rw[b3.block b h.lt];exact h.at'⟩⟩
  refine(GF cF q l cp w3 g2 T (by omega) (λx G=> ?_) (λa J x G e=> ?_)).mono ?_
  .obtain⟨_,_,z,o,i,v,d,h⟩:=B x (H x G);have hDx:=X.Qj K.down hp x (H x G);have ht:=K.thaw _ _ _ _ _ _ _ hDx h;have vl:=(I.trans (AG.below b3 (zAb _))).thaw _ ht;obtain⟨c,h4⟩:=vl;refine⟨c,h4,?_⟩;obtain⟨g',fr,h5⟩:=(I.trans (AG.below b3 (zAb _))).cell _ _ _ _ _ _ _ h;rw[h4]at h5;cases h5;rfl
  .obtain⟨_,_,z,o,i,v,d,h⟩:=B x (H x G);have h6:=g3 a J;have h7:=h.lt;have h8:=I.size;omega
  .rintro e w4 ⟨rfl,U⟩;refine⟨rfl,(Q.wrote j f (Lz j f Q) U).2 λb Z ⟨z,o,i,v,d,h⟩=>Q.root j f Z h,(I.trans (AG.below b3 (zAb _))).trans (.of U H)⟩
 clear K X hp hu B s h0;have Zz:∃pp,pp=ptr top:=⟨_,rfl⟩;obtain⟨pp,R⟩:=Zz;rw[<-R]at HP⊢;simp only[<-R]at HK;clear R;go_enter (Qz.fn func224),ntmps224;go_wp2_with fail;refine HP.out.mono ?_;rintro e w1 ⟨q,cp,y,rfl,a1,a2,a3,a4,a5,a6⟩;have yk:=HW.out w1 q cp y a1 a2 a3 a4 a5 a6;have yj:Hid (Calls zq 233 #[aO (aA ⟨t,0,aB⟩),aK q y.length cp] w1 λe w2=>(e=aM (.tuple #[])/\AG all w w2/\∃cF,cO k w2 top us 0 lo hi cF/\(∀x∈cF,x∈all)/\cF.length<=all.length)\/∃c,e= .panicked c/\Fl w2/\qA k t D us c (cS w2)/\zb w (cS w2)):=yk;clear a1 a2 a3 a4 a5 a6 yk HW HP;go_wp2_with fail;refine yj.out.mono ?_;rintro e w2 (⟨rfl,I,cF,c1,c2,c3⟩|⟨c,rfl,c0,c1,c2⟩)
 .have yv:=HK.out w2 cF I c1 c2 c3;have yu:Hid (Calls zq 236 #[aO (aA ⟨t,0,aB⟩),pp] w2 λe w3=>∃q l cp,e=aM (aK q l cp)/\Calls zq 235 #[aK q l cp] w3 λe' w4=>e'=aM (.tuple #[])/\eL k w4 top us 0/\AG all w w4):=yv;clear yv HK yj I c1 c2 c3;go_wp2_with fail;refine yu.out.mono ?_;rintro e w3 ⟨q3,l3,cp3,rfl,S⟩;have H3:Hid (Calls zq 235 #[aK q3 l3 cp3] w3 λe' w4=>e'=aM (.tuple #[])/\eL k w4 top us 0/\AG all w w4):=S;clear S yu;go_wp2_with fail;refine H3.out.mono ?_;rintro e w4 ⟨rfl,d1,d2⟩;have D1:Hid (eL k w4 top us 0):=d1;have D2:Hid (AG all w w4):=d2;clear d1 d2 H3;go_wp2;go_end0;exact aH ⟨rfl,D1.out,D2.out⟩
 .exact⟨rfl,aI ⟨c,rfl,c0,c1,c2⟩⟩
end
def Qz.ntmps219:Qz.f219.ntmps=37:=rfl
def cG (w:zW)(t:Nat)(x0 x1 x2 x3 x4:zY)(c:Int):Prop:=w.heap[t]? =aA (aJ #[x0,x1,x2,x3,x4,aC aD c] 168 (0,0))
structure Hl (t:Nat)(w w':zW):Prop where
 os:w'.os=w.os
 tape:w'.tape=w.tape
 output:w'.output=w.output
 size:w.heap.size<=w'.heap.size
 block:∀b,b<w.heap.size->b≠t->(∀z o i v g hs,¬aX w b z o i v g hs)->w'.heap[b]? =w.heap[b]?
 cell:∀b z o i v g hs,aX w b z o i v g hs->∃hs',aX w' b z o i v g hs'
 thaw:∀b,dC w b->dC w' b
section
variable {w w1 w':zW}{t b:Nat}{x0 x1 x2 x3 x4:zY}{c:Int}{z o:Option Nat}{i v g:zB}{hs:Int}
def cG.lt (h:cG w t x0 x1 x2 x3 x4 c):t<w.heap.size:=(zAa.1 h).1
def cG.ne (h:cG w t x0 x1 x2 x3 x4 c)(a:aX w b z o i v g hs):b≠t:=λe=>by subst e;obtain⟨fr,a⟩:=a.at';unfold cG at h;rw[a]at h;cases h
def cG.below (h:cG w t x0 x1 x2 x3 x4 c){B}(a:Below B w w')(d:w.heap.size<=B):cG w' t x0 x1 x2 x3 x4 c:=(a.block t (zAd h.lt d)).trans h
def Hl.refl:Hl t w w:=⟨rfl,rfl,rfl,zAb _,λ_ _ _ _=>rfl,λ_ _ _ _ _ _ hs h=>⟨hs,h⟩,λ_ h=>h⟩
def Hl.trans (h:Hl t w w1)(a:Hl t w1 w'):Hl t w w':=
 ⟨a.os.trans h.os,a.tape.trans h.tape,a.output.trans h.output,zBb h.size a.size,λb f j k=>by
  have e:=h.block b f j k;exact(a.block b (zAd f h.size) j λz o i v g hs d=>k z o i v g hs ⟨by rw[<-e];exact d.at'⟩).trans e,λb z o i v g hs d=>by
  obtain⟨l,d⟩:=h.cell _ _ _ _ _ _ _ d;exact a.cell _ _ _ _ _ _ _ d,λb f=>a.thaw b (h.thaw b f)⟩
def Hl.below {B:Nat}(a:Below B w w')(d:w.heap.size<=B):Hl t w w':=
 ⟨a.os,a.tape,a.output,a.size,λb h _ _=>a.block b (zAd h d),λb z o i v g hs e=>⟨hs,⟨by rw[a.block b (zAd e.lt d)];exact e.at'⟩⟩,λb h=>by have hl:=h.lt;obtain⟨c,h⟩:=h;exact⟨c,by rw[a.block b (zAd hl d)];exact h⟩⟩
def Hl.hold (l:aX w b z o i v g hs)(m):Hl t w (w.setCell ⟨b,5,aB⟩ (aC aD m)):=by
 refine⟨rfl,rfl,rfl,by simp[World.setCell],λd _ _ k=>zGr _ _ _ _ λe=>k z o i v g hs ((show d=b from e)▸l),λd n q r p s f a=> ?_,λd j=> ?_⟩
 .by_cases e:d=b
  .subst e;obtain⟨fr,a⟩:=a.at';exact⟨m,fr,by rw[cY a 5];rfl⟩
  .exact⟨f,⟨by rw[zGr _ _ _ _ e];exact a.at'⟩⟩
 .obtain⟨cs,h⟩:=j;by_cases e:d=b
  .subst e;exact⟨_,cY h 5 _⟩
  .exact⟨cs,by rw[zGr _ _ _ _ e];exact h⟩
def Hl.count (h:cG w t x0 x1 x2 x3 x4 c)(m):Hl t w (w.setCell ⟨t,5,aB⟩ (aC aD m))/\cG (w.setCell ⟨t,5,aB⟩ (aC aD m)) t x0 x1 x2 x3 x4 m:=by
 refine⟨⟨rfl,rfl,rfl,by simp[World.setCell],λj _ l _=>zGr _ _ _ _ l,λj n q r p s d a=>⟨d,⟨by rw[zGr _ _ _ _ (h.ne a)];exact a.at'⟩⟩,λj f=> ?_⟩,?_⟩
 .obtain⟨cs,k⟩:=f;have e:j≠t:=λe=>by
   subst e;unfold cG at h;rw[k]at h;cases h
  exact⟨cs,by rw[zGr _ _ _ _ e];exact k⟩
 .unfold cG at h⊢;rw[cY h 5];rfl
def cG.hold (h:cG w t x0 x1 x2 x3 x4 c)(a:aX w b z o i v g hs)(m):cG (w.setCell ⟨b,5,aB⟩ (aC aD m)) t x0 x1 x2 x3 x4 c:=(zGr _ _ _ _ (h.ne a).symm).trans h
def cG.c5 (h:cG w t x0 x1 x2 x3 x4 c):w.cell? ⟨t,5,aB⟩=aA (aC aD c):=(bC h 5).trans rfl
def cG.f5 (h:cG w t x0 x1 x2 x3 x4 c):w.frozen? ⟨t,5,aB⟩=aG:=cR h 5
def Ci {args:zA}{w:zW}{R:Ending->zW->Prop}(h:Qz.ON.wp zq (bodyPost zq Qz.f219 R) {tmps:=args++Array.replicate (Qz.f219.ntmps-args.size) aEn,defers:=[]} w):Calls zq 219 args w R/\∀u,CallsD zq 219 args u w λe a w'=>a=u/\R e w':=⟨calls_of_wp Qz.func219 rfl h,λu=>callsD_of_wp Qz.func219 rfl h⟩
def MC (w)(x):zb w (w.alloc (aJ #[.bool x] 4)).drew:=((zGo _ w).alloc (zAb _) _).drew
def Fg (t:Nat)(n:Int)(w:zW):Prop:=t≠0/\w.cell? ⟨0,0,aB⟩=aA (aC aP n)
def Fg.hl {n:Int}(h:Fg t n w)(e:Hl t w w'):Fg t n w':=⟨h.1,(iN (e.block 0 (kL h.2) (zDj h.1) λz o i v g hs d=>by have a:=d.c0;rw[h.2]at a;cases z<;>cases a)).1.trans h.2⟩
end
abbrev kO:=Nat×Option Nat×Option Nat
def cU (x:Nat)(c:Option Nat):Nat:=if c=aA x then 1 else 0
def refs:List kO->Nat->Nat
 |[],_=>0
 |k::L,x=>cU x k.2.1+cU x k.2.2+refs L x
structure Inv (t:Nat)(w:zW)(L:List kO)(e:Nat->Nat):Prop where
 nd:(L.map (·.1)).Nodup
 cell:∀k∈L,∃i v g,aX w k.1 k.2.1 k.2.2 i v g ((refs L k.1+e k.1:Nat):Int)/\dC w k.1
 NR:∀k∈L,∀c,k.2.1=aA c\/k.2.2=aA c->c<k.1/\c∈L.map (·.1)
 out:∀x,x∉L.map (·.1)->e x=0
 nR:∀k∈L,refs L k.1+e k.1<=4611686018427387904
def uY {L:List kO}{k:kO}(h:k∈L)(x:Nat):refs L x=cU x k.2.1+cU x k.2.2+refs (L.erase k) x:=by
 induction L with
 |nil=>cases h
 |cons a L i=>
  by_cases e:a=k;{subst e;rw[List.erase_cons_head];rfl}
  .rw[List.erase_cons_tail (by simpa using e)];have b:k∈L:=by
    obtain h|h:=zAg.1 h;{exact absurd h.symm e};{exact h}
   have:=i b;simp only[refs];omega
def KL {L:List kO}{x:Nat}(h:refs L x=0):∀k∈L,k.2.1≠aA x/\k.2.2≠aA x:=by
 intro k c;have:=uY c x;have b:cU x k.2.1=0:=by omega
 have a:cU x k.2.2=0:=by omega
 unfold cU at b a;constructor
 .intro e;rw[zAz e]at b;cases b
 .intro e;rw[zAz e]at a;cases a
def yM {L:List kO}{x:Nat}(h:∀k∈L,k.2.1≠aA x/\k.2.2≠aA x):refs L x=0:=by
 induction L with
 |nil=>rfl
 |cons a L i=>have b:=h a zAy;simp only[refs,cU,zAv b.1,zAv b.2,i λk c=>h k (zBc _ c)]
def FZ {k:kO}:∀{L:List kO},(L.map (·.1)).Nodup->k∈L->∀x∈L.erase k,x.1≠k.1
 |[],_,hk,_,_=>by cases hk
 |a::L,d,hk,x,b=>by
  obtain⟨f,g⟩:=zFy.1 d;by_cases e:a=k;{subst e;rw[List.erase_cons_head]at b;exactλe=>f (zBl.2 ⟨x,b,e⟩)}
  .rw[List.erase_cons_tail (by simpa using e)]at b;have c:k∈L:=by
    obtain h|h:=zAg.1 hk;{exact absurd h.symm e};{exact h}
   obtain rfl|b:=zAg.1 b;{exactλi=>f (zBl.2 ⟨k,c,i.symm⟩)};{exact FZ g c x b}
def more (e:Nat->Nat)(p:Option Nat)(x:Nat):Nat:=e x+cU x p
def gP (e:Nat->Nat):more e aB=e:=by funext x;simp[more,cU]
section
variable {t:Nat}{w w':zW}{L:List kO}{e:Nat->Nat}
def Inv.mem {p:Nat}(h:Inv t w L (more e (aA p))):∃k∈L,k.1=p:=by
 have b:p∈L.map (·.1):=zBm λx=>by have:=h.out p x;simp[more,cU]at this
 obtain⟨k,a,e⟩:=zBl.1 b;exact⟨k,a,e⟩
def Inv.same (h:Inv t w L e){a:Nat->Nat}(j:∀k∈L,∀i v g,aX w k.1 k.2.1 k.2.2 i v g ((refs L k.1+e k.1:Nat):Int)->∃c,aX w' k.1 k.2.1 k.2.2 i v c ((refs L k.1+a k.1:Nat):Int))(d:∀k∈L,dC w k.1->dC w' k.1)(f:∀x,x∉L.map (·.1)->a x=0)(hl:∀k∈L,refs L k.1+a k.1<=4611686018427387904):Inv t w' L a:=
 ⟨h.nd,λk b=>by obtain⟨i,v,g,n,m⟩:=h.cell k b;obtain⟨c,l⟩:=j k b i v g n;exact⟨i,v,c,l,d k b m⟩,h.NR,f,hl⟩
def Inv.drop (h:Inv t w L e){k:kO}(m:k∈L)(B:refs L k.1=0)(A:e k.1=0):Inv t w (L.erase k) (more (more e k.2.2) k.2.1):=by
 have a:∀x∈L.erase k,x∈L:=λx b=>List.mem_of_mem_erase b;have s:=KL B;have o:∀x,x∈L.map (·.1)->x≠k.1->x∈(L.erase k).map (·.1):=λx b j=>by obtain⟨y,z,rfl⟩:=zBl.1 b;exact zBl.2 ⟨y,(zFa λe=>j (by rw[e])).2 z,rfl⟩
 have f:∀x:Nat,refs L x+e x=refs (L.erase k) x+more (more e k.2.2) k.2.1 x:=λx=>by have r:=uY m x;unfold more;omega
 refine⟨h.nd.sublist (List.Sublist.map _ List.erase_sublist),λx b=> ?_,λx b c l=> ?_,λx b=> ?_,λx b=>by rw[<-f];exact h.nR x (a x b)⟩
 .obtain⟨i,v,g,q,p⟩:=h.cell x (a x b);refine⟨i,v,g,?_,p⟩;rw[<-f];exact q
 .have q:=h.NR x (a x b) c l;refine⟨q.1,o c q.2 λe=> ?_⟩;have p:=s x (a x b);obtain l|l:=l
  .exact p.1 (by rw[l,e])
  .exact p.2 (by rw[l,e])
 .by_cases d:x∈L.map (·.1)
  .have j:x=k.1:=zBm λn=>b (o x d n);subst j;unfold more;rw[A];have r:cU k.1 k.2.2=0:=zAv λe=>by{have:=(h.NR k m k.1 (aI e)).1;omega};have u:cU k.1 k.2.1=0:=zAv λe=>by{have:=(h.NR k m k.1 (aH e)).1;omega};rw[r,u]
  .unfold more;rw[h.out x d];have r:cU x k.2.2=0:=zAv λe=>d (h.NR k m x (aI e)).2;have u:cU x k.2.1=0:=zAv λe=>d (h.NR k m x (aH e)).2;rw[r,u]
def Inv.push (h:Inv t w L e){b:Nat}{z o:Option Nat}{i v g:zB}(B:∀k∈L,k.1<b)(l:∀k∈L,∀i v g hs,aX w k.1 k.2.1 k.2.2 i v g hs->aX w' k.1 k.2.1 k.2.2 i v g hs)(E:∀k∈L,dC w k.1->dC w' k.1)(F:aX w' b z o i v g 0)(A:dC w' b)(m:∀c,z=aA c\/o=aA c->c∈L.map (·.1)){n:Nat->Nat}(y:∀x,e x=n x+cU x z+cU x o):Inv t w' ((b,z,o)::L) n:=by
 have d:b∉L.map (·.1):=λp=>by obtain⟨k,l,rfl⟩:=zBl.1 p;exact zDy _ (B k l)
 have bT:∀x,x∈L.map (·.1)->x<b:=λx p=>by obtain⟨k,l,rfl⟩:=zBl.1 p;exact B k l
 have r:refs ((b,z,o)::L) b+n b=0:=by have s:refs L b=0:=yM λk l=>⟨λe=>d (h.NR k l b (aH e)).2,λe=>d (h.NR k l b (aI e)).2⟩;have D:cU b z=0:=zAv λe=>d (m b (aH e));have H:cU b o=0:=zAv λe=>d (m b (aI e));have G:=h.out b d;have C:=y b;simp only[refs];omega
 have j:∀x:Nat,refs ((b,z,o)::L) x+n x=refs L x+e x:=λx=>by have C:=y x;simp only[refs];omega
 refine⟨zFy.2 ⟨d,h.nd⟩,λk f=> ?_,λk f c q=> ?_,λx p=> ?_,λk f=> ?_⟩
 .obtain rfl|a:=zAg.1 f
  .refine⟨i,v,g,?_,A⟩;show aX w' b z o i v g ((refs ((b,z,o)::L) b+n b:Nat):Int);rw[r];exact F
  .obtain⟨i,v,g,s,D⟩:=h.cell k a;refine⟨i,v,g,?_,E k a D⟩;rw[j];exact l k a i v g _ s
 .obtain rfl|a:=zAg.1 f
  .have:=m c q;exact⟨bT c this,zBc _ this⟩
  .have:=h.NR k a c q;exact⟨this.1,zBc _ this.2⟩
 .have s:x∉L.map (·.1):=λu=>p (zBc _ u);have G:=h.out x s;have C:=y x;omega
 .obtain rfl|a:=zAg.1 f
  .show refs ((b,z,o)::L) b+n b<=_;rw[r];exact zBu _
  .rw[j];exact h.nR k a
def Inv.top (h:Inv t w L e){k:kO}(f:k∈L)(b:∀x∈L,x.1<=k.1):refs L k.1=0:=yM λx a=>⟨λe=>by
 have d:=(h.NR x a k.1 (aH e)).1;have c:=b x a;omega,λe=>by
 have d:=(h.NR x a k.1 (aI e)).1;have c:=b x a;omega⟩
end
section
variable {w w' W W1:zW}{t:Nat}{x0 x1 x2 x3 x4:zY}{L:List kO}{e:Nat->Nat}{n:Int}
def Pos (L:List kO)(f:Nat->Nat):Prop:=∀k∈L,0<refs L k.1+f k.1
def tZ (t:Nat)(n:Int)(p:Option Nat)(W w':zW)(L:List kO)(e:Nat->Nat)(x0 x1 x2 x3 x4:zY):Prop:=
 Hl t W w'/\∃a c,Inv t w' a c/\cG w' t x0 x1 x2 x3 x4 (a.length:Nat)/\(∀x,e x<=c x)/\(0<n->c=e)/\a.Sublist L/\(0<n->Pos L (more e p)->Pos a c)/\(0<n->(∀b,p=aA b->0<e b)->a=L)
def MK (t:Nat)(n:Int)(p:Option Nat):Prop:=
 ∀W L e x0 x1 x2 x3 x4,Inv t W L (more e p)->cG W t x0 x1 x2 x3 x4 (L.length:Nat)->Fg t n W->L.length<=4611686018427387904->
  (Calls zq 219 #[aO (aA ⟨t,0,aB⟩),ptr p] W λr w'=>r=aM (.tuple #[])/\tZ t n p W w' L e x0 x1 x2 x3 x4)/\
  ∀u,CallsD zq 219 #[aO (aA ⟨t,0,aB⟩),ptr p] u W λr a w'=>a=u/\(r=aM (.tuple #[])/\tZ t n p W w' L e x0 x1 x2 x3 x4)
def tZ.back {p q:Option Nat}{w1:zW}{c:List kO}{a:Nat->Nat}(k:Hl t W w1)(hl:c.Sublist L)(i:∀x,e x<=a x)(g:0<n->a=e)(f:0<n->Pos L (more e p)->Pos c (more a q))(j:¬∀b,p=aA b->0<e b)(h:tZ t n q w1 w' c a x0 x1 x2 x3 x4):tZ t n p W w' L e x0 x1 x2 x3 x4:=by obtain⟨y,A,z,v,u,s,r,o,m,_⟩:=h;exact⟨k.trans y,A,z,v,u,λx=>zBb (i x) (s x),λh=>(r h).trans (g h),o.trans hl,λd l=>m d (f d l),λ_ h=>absurd h j⟩
def Inv.below {B:Nat}(h:Inv t w L e)(d:Below B w w')(f:w.heap.size<=B):Inv t w' L e:=
 h.same (λk _ i v g b=>⟨g,⟨by rw[d.block _ (zAd b.lt f)];exact b.at'⟩⟩) (λk _ a=>by have hl:=a.lt;obtain⟨c,h⟩:=a;exact⟨c,by rw[d.block _ (zAd hl f)];exact h⟩) h.out h.nR
def Inv.less {b:Nat}{z o:Option Nat}(h:Inv t w L (more e (aA b)))(q:(b,z,o)∈L):Inv t (w.setCell ⟨b,5,aB⟩ (aC aD (refs L b+e b:Nat))) L e:=by
 have p:∀x,more e (aA b) x=e x+cU x (aA b):=λx=>rfl;have f:∀x,e x<=more e (aA b) x:=λx=>zDn _ _;obtain⟨i0,v0,g0,r,s⟩:=h.cell (b,z,o) q;refine h.same (λk a i v g l=> ?_) (λk a d=> ?_) (λx m=>by have:=h.out x m;have:=f x;omega) λk a=>by have:=h.nR k a;have:=f k.1;omega
 .by_cases c:k.1=b
  .obtain⟨fr,j⟩:=l.at';rw[c]at j⊢;exact⟨g,fr,by rw[cY j 5];rfl⟩
  .have u:cU k.1 (aA b)=0:=zAv λe=>c (zAk e).symm;rw[p,u,aE9]at l;exact⟨g,⟨by rw[zGr _ _ _ _ c];exact l.at'⟩⟩
 .obtain⟨cs,d⟩:=d;by_cases c:k.1=b
  .rw[c]at d⊢;exact⟨_,cY d 5 _⟩
  .exact⟨cs,by rw[zGr _ _ _ _ c];exact d⟩
def Inv.count {c:Int}(h:Inv t w L e)(d:cG w t x0 x1 x2 x3 x4 c)(m:Int):Inv t (w.setCell ⟨t,5,aB⟩ (aC aD m)) L e:=
 h.same (λk _ i v g a=>⟨g,⟨by rw[zGr _ _ _ _ (d.ne a)];exact a.at'⟩⟩) (λk f b=>by obtain⟨i,v,g,a,_⟩:=h.cell k f;obtain⟨cs,b⟩:=b;exact⟨cs,by rw[zGr _ _ _ _ (d.ne a)];exact b⟩) h.out h.nR
def Rx (L:List kO)(x:Nat):refs L x<=2*L.length:=by
 induction L with
 |nil=>exact zAb _
 |cons a L i=>have b:cU x a.2.1<=1:=by{unfold cU;split<;>omega};have h:cU x a.2.2<=1:=by{unfold cU;split<;>omega};simp only[refs,zAf];omega
def Ti {b:Nat}{z o:Option Nat}{i v g:zB}{hs:Int}(h:aX w b z o i v g hs)(a:dC w b):Calls zq 222 #[ptr (aA b)] w λr w'=>r=aM (ptr (aA b))/\w'=w.setCell ⟨b,5,aB⟩ (aC aD (wrap64 (hs+1))):=by have k:=h.c5;have f5:=a.f 5;clear h a;go_enter (Qz.fn func222),ntmps222;go_wp2;go_ret;exact⟨rfl,rfl⟩
def Inv.hold {b:Nat}{z o:Option Nat}{i v g:zB}{hs:Int}(h:Inv t w L e)(y:b∈L.map (·.1))(D:aX w b z o i v g hs)(hl:L.length<=1000000000)(u:∀x,e x<=1000000000):Inv t (w.setCell ⟨b,5,aB⟩ (aC aD (wrap64 (hs+1)))) L (more e (aA b)):=by
 obtain⟨⟨a,E,F⟩,B,rfl⟩:=zBl.1 y;dsimp only at*;obtain⟨i0,v0,g0,q,_⟩:=h.cell _ B;have s:=λx=>Rx L x;have C:hs=((refs L a+e a:Nat):Int):=by have c:=D.c5;rw[show w.cell? ⟨a,5,aB⟩=_ from q.c5]at c;injection c with c;injection c with _ c;exact c.symm
 have A:wrap64 (hs+1)=((refs L a+e a+1:Nat):Int):=by have:=s a;have:=u a;unfold wrap64;omega
 rw[A];have p:∀x,cU x (aA a)<=1:=λx=>by unfold cU;split<;>omega
 refine h.same (λk j i v g l=> ?_) (λk j f=> ?_) (λx r=> ?_) λk j=> ?_
 .by_cases d:k.1=a
  .obtain⟨fr,m⟩:=l.at';have c:cU a (aA a)=1:=zAz rfl;rw[d]at m⊢;refine⟨g,fr,?_⟩;rw[cY m 5];unfold more;rw[c];rfl
  .have c:cU k.1 (aA a)=0:=zAv λe=>d (zAk e).symm;unfold more;rw[c,aE9];exact⟨g,⟨by rw[zGr _ _ _ _ d];exact l.at'⟩⟩
 .obtain⟨cs,f⟩:=f;by_cases d:k.1=a
  .rw[d]at f⊢;exact⟨_,cY f 5 _⟩
  .exact⟨cs,by rw[zGr _ _ _ _ d];exact f⟩
 .unfold more;rw[h.out x r,show cU x (aA a)=0 from zAv λe=>r (by rw[<-zAk e];exact y)]
 .have:=s k.1;have:=u k.1;have:=p k.1;unfold more;omega
def yV:MK t n aB:=by
 intro W L e x0 x1 x2 x3 x4 b d hF _;rw[gP]at b;have a:=MC W aF;have c:Hl t W (W.alloc (aJ #[.bool aF] 4)).drew:=Hl.below a (zAb _);have H:Hid (tZ t n aB W (W.alloc (aJ #[.bool aF] 4)).drew L e x0 x1 x2 x3 x4):=⟨c,L,e,b.below a (zAb _),d.below a (zAb _),λ_=>zAb _,λ_=>rfl,.refl _,λ_ h=>by rw[gP]at h;exact h,λ_ _=>rfl⟩;have k:=(hF.hl c).2;clear b d hF a c;refine Ci ?_;simp only[Qz.ntmps219,zAp,zAf,zAl,Nat.reduceAdd,Nat.reduceSub,zEo,aE5,zEa,List.append_toArray,zCk,zBx];unfold Qz.ON nn jv Mc Zw Fx dw ju ni Qh Zs Xq nm Xt Xu Zu Zt Zv Xv;simp only[f219,zCv];go_upto_region 91 with(fail)
 go_region;all_goals generalize(W.alloc (Obj.cells #[Value.bool aF] 4)).drew=W1 at*
 all_goals go_wp2
 all_goals((try simp only[Exit.inBlock,Exit.then]);refine zHe (Go.results_none rfl _ _ _) rfl ?_)
 all_goals exact⟨rfl,H.out⟩
def Fv {b:Nat}{z o:Option Nat}(s:(b,z,o)∈L)(IH:∀q:Option Nat,(∀c,q=aA c->c<b)->MK t n q)(R:Inv t W1 L (more e (aA b)))(hT:cG W1 t x0 x1 x2 x3 x4 (L.length:Nat))(hF:Fg t n W1)(hl:L.length<=4611686018427387904)(D:Hl t W W1):
  Fx.wp zq (bodyPost zq Qz.f219 λr w'=>r=aM (.tuple #[])/\tZ t n (aA b) W w' L e x0 x1 x2 x3 x4) {tmps:= #[aO (aA ⟨t,0,aB⟩),ptr (aA b),aEn,aEn,aEn,aEn,aEn,aEn,aEn,aEn,aEn,aEn,aEn,aEn,aEn,aEn,aEn,aEn,aEn,aEn,aEn,aEn,aEn,aEn,aEn,aEn,aEn,aEn,aEn,aEn,aEn,aEn,aEn,aEn,aEn,aEn,aEn],defers:=[]} W1:=by
 obtain⟨i,v,g,A,hD⟩:=R.cell (b,z,o) s;have j:=R.nR (b,z,o) s;have hm:more e (aA b) b=e b+1:=by simp[more,cU]
 dsimp only at A hD j;rw[hm]at A j;have u:=R.less s;have hlen:0<L.length:=List.length_pos_of_mem s;obtain⟨m,J⟩:∃m:Nat,m=refs L b+e b:=⟨_,rfl⟩;have A:aX W1 b z o i v g ((m:Int)+1):=by have e1:((refs L b+(e b+1):Nat):Int)=(m:Int)+1:=by{omega};rw[<-e1];exact A
 rw[<-J]at u;have k5:=A.c5;have f5:=hD.f 5;have I:wrap64 (m:Int)=(m:Int):=by unfold wrap64;omega
 have p:Hl t W1 (W1.setCell ⟨b,5,aB⟩ (aC aD (m:Int))):=Hl.hold A _;have a:=hT.hold A (m:Int);obtain⟨ow,G⟩:=p.cell _ _ _ _ _ _ _ A;have d:∀x,x≠b->more e (aA b) x=e x:=λx Q=>by have:cU x (aA b)=0:=zAv λe=>Q (zAk e).symm;unfold more;omega
 have H1:Hid (0<m->tZ t n (aA b) W (W1.setCell ⟨b,5,aB⟩ (aC aD (m:Int))) L e x0 x1 x2 x3 x4):=λh0=>⟨D.trans p,L,e,u,a,λ_=>zAb _,λ_=>rfl,.refl _,λ_ hP k X=>by
  by_cases ek:k.1=b;{rw[ek];omega}
  .have:=hP k X;rw[d _ ek]at this;exact this,λ_ _=>rfl⟩
 obtain⟨y,N⟩:=Hl.count a ((L.length:Int)-1);have l:=u.count a ((L.length:Int)-1);have E:=(hF.hl p).hl y;obtain⟨hs3,F⟩:=y.cell _ _ _ _ _ _ _ G;have H2:Hid ((m:Int)<=0->Calls zq 219 #[aO (aA ⟨t,0,aB⟩),ptr z] ((W1.setCell ⟨b,5,aB⟩ (aC aD (m:Int))).setCell ⟨t,5,aB⟩ (aC aD ((L.length:Int)-1))) λr w4=>r=aM (.tuple #[])/\w4.cell? ⟨b,1,aB⟩=aA (ptr o)/\Calls zq 219 #[aO (aA ⟨t,0,aB⟩),ptr o] w4 λr w5=>r=aM (.tuple #[])/\tZ t n (aA b) W w5 L e x0 x1 x2 x3 x4):=λh0=>by
  have kk:m=0:=by omega
  have V:(L.erase (b,z,o)).length=L.length-1:=zFj s;have hd:=l.drop s (by show refs L b=0;omega) (by show e b=0;omega);have M:cG ((W1.setCell ⟨b,5,aB⟩ (aC aD (m:Int))).setCell ⟨t,5,aB⟩ (aC aD ((L.length:Int)-1))) t x0 x1 x2 x3 x4 ((L.erase (b,z,o)).length:Nat):=by rw[V,show((L.length-1:Nat):Int)=(L.length:Int)-1 by omega];exact N
  refine(IH z (λc Y=>(l.NR _ s c (aH Y)).1) _ _ (more e o) x0 x1 x2 x3 x4 hd M E (by omega)).1.mono ?_;rintro r w4 ⟨rfl,C,L4,e4,hI4,Z,O,eq4,l4,H,_⟩;obtain⟨ov,hC4⟩:=C.cell _ _ _ _ _ _ _ F;refine⟨rfl,hC4.c1,?_⟩;have B:more (λx=>e4 x-cU x o) o=e4:=by funext x;have:=O x;unfold more at this⊢;dsimp only;omega
  refine(IH o (λc Y=>(l.NR _ s c (aI Y)).1) w4 L4 (λx=>e4 x-cU x o) x0 x1 x2 x3 x4 (by rw[B];exact hI4) Z (E.hl C) (by have:=l4.length_le;omega)).1.mono ?_;rintro r w5 ⟨rfl,S⟩;refine⟨rfl,tZ.back (((D.trans p).trans y).trans C) (l4.trans List.erase_sublist) (λx=> ?_) (λU=> ?_) (λU hP=> ?_) (λh=>by have:=h b rfl;omega) S⟩;{have:=O x;unfold more at this;omega};{rw[eq4 U];funext x;show e x+cU x o-cU x o=e x;omega};{rw[B];refine H U λx Q=> ?_;have e1:=uY s x.1;have h1:=hP x (List.mem_of_mem_erase Q);rw[d x.1 (FZ l.nd s x Q)]at h1;unfold more;dsimp only at e1;omega}
 have c5:=a.c5;have e5:=a.f5;have Xx:=a.ne G;have d0:=F.c0;have T:wrap64 ((L.length:Int)-1)=(L.length:Int)-1:=by unfold wrap64;omega
 clear R u l hT hF E A hD G F p y a N IH j J hm D d;obtain⟨P,K⟩:∃P:Int,P=(L.length:Int):=⟨_,rfl⟩;rw[<-K]at c5 T H2 d0;clear K hl hlen;unfold Fx;simp only[f219,zCv];go_upto_region 3 with(fail)
 .refine zHe (Go.results_none rfl _ _ _) rfl ?_;(try rw[I]);exact⟨rfl,H1.out (by omega)⟩
 ·(try rw[I]);have h0:(m:Int)<=0:=by{omega};have H4:Hid (Calls zq 219 #[aO (aA ⟨t,0,aB⟩),ptr z] ((W1.setCell ⟨b,5,aB⟩ (aC aD (m:Int))).setCell ⟨t,5,aB⟩ (aC aD (P-1))) λr w4=>r=aM (.tuple #[])/\w4.cell? ⟨b,1,aB⟩=aA (ptr o)/\Calls zq 219 #[aO (aA ⟨t,0,aB⟩),ptr o] w4 λr w5=>r=aM (.tuple #[])/\tZ t n (aA b) W w5 L e x0 x1 x2 x3 x4):=H2.out h0;clear H2 H1;generalize(W1.setCell ⟨b,5,aB⟩ (aC aD (m:Int)))=W2 at*;go_upto_region 4 with(fail)
  generalize(W2.setCell ⟨t,5,aB⟩ (Value.int IntKind.i64 (P-1)))=W3 at*;go_wp2_with fail;refine H4.out.mono ?_;rintro r w4 ⟨rfl,d1,h4⟩;have H5:Hid (Calls zq 219 #[aO (aA ⟨t,0,aB⟩),ptr o] w4 λr w5=>r=aM (.tuple #[])/\tZ t n (aA b) W w5 L e x0 x1 x2 x3 x4):=h4;clear h4 H4;go_wp2_with fail;refine H5.out.mono ?_;rintro r w5 ⟨rfl,S⟩;have H6:Hid (tZ t n (aA b) W w5 L e x0 x1 x2 x3 x4):=S;clear S H5;go_wp2;go_end0;exact⟨rfl,H6.out⟩
def Fu {b:Nat}(I:∀q:Option Nat,(∀c,q=aA c->c<b)->MK t n q):MK t n (aA b):=by
 intro W L e x0 x1 x2 x3 x4 j l hF hl;have i:=MC W aF;have g:Hl t W (W.alloc (aJ #[.bool aF] 4)).drew:=Hl.below i (zAb _);have d:=j.below i (zAb _);have f:=l.below i (zAb _);have s:=(hF.hl g).2;obtain⟨⟨k,z,o⟩,m,rfl⟩:=j.mem;have a:=Fv m I d f (hF.hl g) hl g;dsimp only at a d I⊢;have H:Hid (n<=0->tZ t n (aA k) W (W.alloc (aJ #[.bool aF] 4)).drew L e x0 x1 x2 x3 x4):=λu=>⟨g,L,_,d,f,λx=>zDn _ _,λh=>by omega,.refl _,λh=>by omega,λh=>by omega⟩;have p:Hid (Fx.wp zq (bodyPost zq Qz.f219 λr w'=>r=aM (.tuple #[])/\tZ t n (aA k) W w' L e x0 x1 x2 x3 x4) {tmps:= #[aO (aA ⟨t,0,aB⟩),ptr (aA k),aEn,aEn,aEn,aEn,aEn,aEn,aEn,aEn,aEn,aEn,aEn,aEn,aEn,aEn,aEn,aEn,aEn,aEn,aEn,aEn,aEn,aEn,aEn,aEn,aEn,aEn,aEn,aEn,aEn,aEn,aEn,aEn,aEn,aEn,aEn],defers:=[]} (W.alloc (aJ #[.bool aF] 4)).drew):=a;clear j l hF i g d f a I;refine Ci ?_;simp only[Qz.ntmps219,zAp,zAf,zAl,Nat.reduceAdd,Nat.reduceSub,zEo,aE5,zEa,List.append_toArray,zCk,zBx];unfold Qz.ON nn jv Mc Zw dw ju ni Qh Zs Xq nm Xt Xu Zu Zt Zv Xv;go_upto_region 91 with(fail)
 go_region;all_goals generalize(W.alloc (Obj.cells #[Value.bool aF] 4)).drew=W1 at*
 all_goals go_wp2
 all_goals first
  |exact p.out
  |((try simp only[Exit.inBlock,Exit.then]);refine zHe (Go.results_none rfl _ _ _) rfl ?_;exact⟨rfl,H.out (by omega)⟩)
def TC:∀(m:Nat)(p:Option Nat),(∀c,p=aA c->c<m)->MK t n p
 |0,aB,_=>yV
 |0,aA b,h=>absurd (h b rfl) (Nat.not_lt_zero _)
 |m+1,aB,_=>yV
 |m+1,aA b,h=>Fu λq a=>TC m q λc d=>by have g:=a c d;have f:=h b rfl;omega
def FM:∀{L:List kO},L≠[]->∃k∈L,∀x∈L,x.1<=k.1
 |[],h=>absurd rfl h
 |[a],_=>⟨a,zAy,λx c=>by rw[zAm.1 c];exact zAb _⟩
 |a::b::L,_=>by
  obtain⟨k,f,d⟩:=FM (L:=b::L) (by simp);obtain h|h:=zDc a.1 k.1
  .refine⟨k,zBc _ f,λx c=> ?_⟩;obtain rfl|c:=zAg.1 c
   .exact Nat.le_of_lt h
   .exact d x c
  .refine⟨a,zAy,λx c=> ?_⟩;obtain rfl|c:=zAg.1 c
   .exact zAb _
   .exact zBb (d x c) h
def Inv.bare (h:Inv t w L e)(d:Pos L e)(g:∀x,e x=0):L.length=0:=by
 obtain a|a:=Classical.em (L=[])
 .rw[a];rfl
 .obtain⟨k,b,f⟩:=FM a;have c:=d k b;rw[h.top b f,g]at c;exact absurd c (zDy _)
def Inv.single {b:Nat}(h:Inv t w L e)(p:Pos L e)(i:(b,aB,aB)∈L)(r:∀x,x≠b->e x=0):L.length=1:=by
 have hl:=zFj i;have hlen:0<L.length:=List.length_pos_of_mem i;obtain j|j:=Classical.em (L.erase (b,aB,aB)=[])
 .rw[j]at hl;simp only[zAl]at hl;omega
 .obtain⟨k,a,q⟩:=FM j;have f:=FZ h.nd i k a;have g:=List.mem_of_mem_erase a;have o:refs L k.1=0:=yM λx d=>by
   obtain rfl|c:=Classical.em (x=(b,aB,aB));{exact⟨by simp,by simp⟩};{have m:=q x ((zFa c).2 d);exact⟨λe=>by have:=(h.NR x d k.1 (aH e)).1;omega,λe=>by have:=(h.NR x d k.1 (aI e)).1;omega⟩}
  have l:=p k g;rw[o,r k.1 f]at l;exact absurd l (zDy _)
end
def An {w w'}(h:Below w.drew.heap.size w.drew w'):zb w w':=⟨h.os,h.tape,h.output,h.size,h.block⟩
abbrev Qq (u:bJ):zY:= .agg #[aL ⟨u.idx.toArray⟩,aL ⟨u.val.toArray⟩,.bool u.gone]
structure HD (w w':zW)(b:Nat)(z o:Option Nat)(i v:zB):Prop where
 lo:w.heap.size<=b
 cell:∃hs,aX w' b z o i v [] hs
 thaw:dC w' b
section
variable {w w1 w':zW}{t b:Nat}{x0 x1 x2 x3 x4:zY}{c:Int}{z o:Option Nat}{i v g:zB}{hs:Int}
def KX (w:zW)(z o:Option Nat)(i v:zB)(h:w1.heap.size<=w.heap.size):HD w1 (w.alloc (aJ (jB z o i v [] 0) 272)) w.heap.size z o i v:=
 ⟨h,⟨0,⟨_,zGu w _⟩⟩,⟨_,zGu w _⟩⟩
def rG (p:Option Nat)(L:List kO):Prop:=∀b,p=aA b->b∈L.map (·.1)
def Inv.new {L:List kO}{e j:Nat->Nat}(h:Inv t w L e)(z o:Option Nat)(i v:zB)(l:rG z L)(m:rG o L)(p:∀x,e x=j x+cU x z+cU x o):Inv t (w.alloc (aJ (jB z o i v [] 0) 272)) ((w.heap.size,z,o)::L) j:=by
 have f:zb w (w.alloc (aJ (jB z o i v [] 0) 272)):=(zGo _ w).alloc (zAb _) _;refine h.push (λk n=> ?_) (λk _ i v g hs a=>⟨by rw[f.block _ a.lt];exact a.at'⟩) (λk _ d=> ?_) (⟨_,zGu w _⟩:aX _ _ z o i v [] 0) ⟨_,zGu w _⟩ (λc a=>a.elim (l c) (m c)) p
 .obtain⟨_,_,_,a,_⟩:=h.cell k n;exact a.lt
 .have hl:=d.lt;obtain⟨cs,d⟩:=d;exact⟨cs,by rw[f.block _ hl];exact d⟩
def Fw (u:bJ)(Q:u.idx.length<=1000)(P:u.val.length<=1000)(J:cG w t x0 x1 x2 x3 x4 c)(xj: -4611686018427387904<=c)(hc2:c<=4611686018427387904):
  Calls zq 229 #[aO (aA ⟨t,0,aB⟩),Qq u] w λe w'=>∃b,e=aM (ptr (aA b))/\HD w w' b aB aB u.idx u.val/\Hl t w w'/\cG w' t x0 x1 x2 x3 x4 (c+1)/\b<w'.heap.size/\∀L f,Inv t w L f->Inv t w' ((b,aB,aB)::L) f:=by
 obtain⟨d,a,A⟩:=u;dsimp only at*;have G:(⟨d.toArray⟩:ByteArray).size<=1000:=Q;have F:(⟨a.toArray⟩:ByteArray).size<=1000:=P;have R:Hid (cG w t x0 x1 x2 x3 x4 c):=J;have hw:wrap64 (c+1)=c+1:=by unfold wrap64;omega
 have bT:=J.lt;clear J Q P;go_enter (Qz.fn func229),ntmps229;go_upto_region 1 with(fail)
 have n:zb w (w.alloc (aJ #[aL ⟨d.toArray⟩,aL ⟨a.toArray⟩,.bool A] 53)):=(zGo _ w).alloc (zAb _) _;have j:=R.out.below n (zAb _);have C:(w.alloc (aJ #[aL ⟨d.toArray⟩,aL ⟨a.toArray⟩,.bool A] 53)).heap[w.heap.size]? =aA (aJ #[aL ⟨d.toArray⟩,aL ⟨a.toArray⟩,.bool A] 53 (0,0)):=zGu w _;generalize(w.alloc (aJ #[aL ⟨d.toArray⟩,aL ⟨a.toArray⟩,.bool A] 53))=y at*;have c5:=j.c5;have e5:=j.f5;obtain⟨E,D⟩:=Hl.count j (c+1);have k:(y.setCell ⟨t,5,aB⟩ (aC aD (c+1))).heap[w.heap.size]? =aA (aJ #[aL ⟨d.toArray⟩,aL ⟨a.toArray⟩,.bool A] 53 (0,0)):=(zGr _ _ _ _ (by show w.heap.size≠t;omega)).trans C;have T:Hid (Hl t w (y.setCell ⟨t,5,aB⟩ (aC aD (c+1)))):=(Hl.below n (zAb _)).trans E;have H:Hid (cG (y.setCell ⟨t,5,aB⟩ (aC aD (c+1))) t x0 x1 x2 x3 x4 (c+1)):=D;have S:Hid (∀L f,Inv t w L f->Inv t (y.setCell ⟨t,5,aB⟩ (aC aD (c+1))) L f):=λL f h=>(h.below n (zAb _)).count j _;clear n j C E D R;go_upto_region 2 with(fail)
 clear c5 e5;generalize(y.setCell ⟨t,5,aB⟩ (Value.int IntKind.i64 (c+1)))=p at*;have B:w.heap.size<p.heap.size:=(zAa.1 k).1;have K:Hid (∀W,zb p W->W.cell? ⟨w.heap.size,0,aB⟩=aA (aL ⟨d.toArray⟩)/\W.cell? ⟨w.heap.size,1,aB⟩=aA (aL ⟨a.toArray⟩)):=λW s=>⟨(bC ((s.block _ B).trans k) 0).trans rfl,(bC ((s.block _ B).trans k) 1).trans rfl⟩;obtain⟨q0,q1⟩:=K.out p (zGo _ _);have U:Hid (∀W,zb p W->HD w (W.alloc (aJ (jB aB aB d a [] 0) 272)) W.heap.size aB aB d a/\Hl t w (W.alloc (aJ (jB aB aB d a [] 0) 272))/\cG (W.alloc (aJ (jB aB aB d a [] 0) 272)) t x0 x1 x2 x3 x4 (c+1)/\W.heap.size<(W.alloc (aJ (jB aB aB d a [] 0) 272)).heap.size/\∀L f,Inv t w L f->Inv t (W.alloc (aJ (jB aB aB d a [] 0) 272)) ((W.heap.size,aB,aB)::L) f):=λW s=>by have O:zb p (W.alloc (aJ (jB aB aB d a [] 0) 272)):=s.alloc s.size _;have:=s.size;exact⟨KX W _ _ _ _ (by omega),T.out.trans (Hl.below O (zAb _)),H.out.below O (zAb _),by rw[size_alloc];omega,λL f h=>((S.out L f h).below s (zAb _)).new aB aB d a (λb I=>by cases I) (λb I=>by cases I) λx=>by simp[cU]⟩
 clear k T H S;go_region_with (first
  |(go_at_call_of 85 (Value.string {data:=d.toArray});refine(LY _ _ G).mono ?_;rintro e N ⟨rfl,r⟩;
    have m:Hid (zb p N):=by first|exact An r|exact(bR l.out r l.out.size).out;
    obtain⟨Z,Y⟩:=K.out N m.out;clear r;dsimp only)
  |(go_at_call_of 85 (Value.string {data:=a.toArray});refine(LY _ _ F).mono ?_;rintro e M ⟨rfl,q⟩;
    have l:Hid (zb p M):=by first|exact An q|exact(bR m.out q m.out.size).out;
    obtain⟨X,V⟩:=K.out M l.out;clear q;dsimp only))
 all_goals go_wp2
 all_goals go_ret
 all_goals first|exact⟨_,rfl,U.out _ l.out⟩|exact⟨_,rfl,U.out _ m.out⟩
def xI {p:Option Nat}(l:∀b,p=aA b->(∃z o i v g hs,aX w b z o i v g hs)/\dC w b)(j:cG w t x0 x1 x2 x3 x4 c):Calls zq 222 #[ptr p] w λe w'=>e=aM (ptr p)/\Hl t w w'/\cG w' t x0 x1 x2 x3 x4 c/\w'.heap.size=w.heap.size/\∀L f,Inv t w L f->rG p L->L.length<=1000000000->(∀x,f x<=1000000000)->Inv t w' L (more f p):=by
 cases p with
 |none=>exact(Gh w).mono λe w' ⟨h1,d⟩=>by subst d;exact⟨h1,.refl,j,rfl,λL f h _ _ _=>by rw[gP];exact h⟩
 |some b=>obtain⟨⟨z,o,i,v,g,hs,a⟩,k⟩:=l b rfl;refine(Ti a k).mono λe w' ⟨h1,d⟩=> ?_;subst d;exact⟨h1,Hl.hold a _,j.hold a _,by simp[World.setCell],λL f h n hl m=>h.hold (n b rfl) a hl m⟩
def Ff (J:∀b,z=aA b->(∃z o i v g hs,aX w b z o i v g hs)/\dC w b)(K:∀b,o=aA b->(∃z o i v g hs,aX w b z o i v g hs)/\dC w b)(m:cG w t x0 x1 x2 x3 x4 c)(R: -4611686018427387904<=c)(Q:c<=4611686018427387904):
  Calls zq 239 #[aO (aA ⟨t,0,aB⟩),ptr z,ptr o] w λe w'=>∃b,e=aM (ptr (aA b))/\HD w w' b z o [] []/\Hl t w w'/\cG w' t x0 x1 x2 x3 x4 (c+1)/\b<w'.heap.size/\∀L f,Inv t w L f->rG z L->rG o L->L.length<=1000000000->(∀x,f x<=999999999)->Inv t w' ((b,z,o)::L) f:=by
 have stay:∀{W A:zW}{p:Option Nat},Hl t W A->(∀b,p=aA b->(∃z o i v g hs,aX W b z o i v g hs)/\dC W b)->∀b,p=aA b->(∃z o i v g hs,aX A b z o i v g hs)/\dC A b:=λ{W A p} hH h b e=>by obtain⟨⟨z,o,i,v,g,hs,S⟩,N⟩:=h b e;obtain⟨O,B⟩:=hH.cell _ _ _ _ _ _ _ S;exact⟨⟨_,_,_,_,_,_,B⟩,hH.thaw _ N⟩
 have Z:wrap64 (c+1)=c+1:=by unfold wrap64;omega
 obtain⟨a,l⟩:=Hl.count m (c+1);have c5:=m.c5;have e5:=m.f5;have V:Hid (Calls zq 222 #[ptr z] (w.setCell ⟨t,5,aB⟩ (aC aD (c+1))) λe w'=>e=aM (ptr z)/\Hl t w w'/\cG w' t x0 x1 x2 x3 x4 (c+1)/\∀L f,Inv t w L f->rG z L->L.length<=1000000000->(∀x,f x<=999999999)->Inv t w' L (more f z)):=(xI (stay a J) l).mono λe w' ⟨d,u,C,_,U⟩=>⟨d,a.trans u,C,λL f h T hl P=>U L f (h.count m _) T hl λx=>zBb (P x) (by omega)⟩;have X:Hid (∀W,Hl t w W->cG W t x0 x1 x2 x3 x4 (c+1)->Calls zq 222 #[ptr o] W λe w'=>e=aM (ptr o)/\Hl t w w'/\cG w' t x0 x1 x2 x3 x4 (c+1)/\∀L f,Inv t W L f->rG o L->L.length<=1000000000->(∀x,f x<=1000000000)->Inv t w' L (more f o)):=λW d u=>(xI (stay d K) u).mono λe w' ⟨g1,g2,g3,_,g4⟩=>⟨g1,d.trans g2,g3,g4⟩;have Y:Hid (∀W,Hl t w W->cG W t x0 x1 x2 x3 x4 (c+1)->(∀L f,Inv t w L f->rG z L->rG o L->L.length<=1000000000->(∀x,f x<=999999999)->Inv t W L (more (more f z) o))->HD w (W.alloc (aJ (jB z o [] [] [] 0) 272)) W.heap.size z o [] []/\Hl t w (W.alloc (aJ (jB z o [] [] [] 0) 272))/\cG (W.alloc (aJ (jB z o [] [] [] 0) 272)) t x0 x1 x2 x3 x4 (c+1)/\W.heap.size<(W.alloc (aJ (jB z o [] [] [] 0) 272)).heap.size/\∀L f,Inv t w L f->rG z L->rG o L->L.length<=1000000000->(∀x,f x<=999999999)->Inv t (W.alloc (aJ (jB z o [] [] [] 0) 272)) ((W.heap.size,z,o)::L) f):=λW d u C=>by have M:zb W (W.alloc (aJ (jB z o [] [] [] 0) 272)):=(zGo _ W).alloc (zAb _) _;exact⟨KX W _ _ _ _ d.size,d.trans (Hl.below M (zAb _)),u.below M (zAb _),by rw[size_alloc];omega,λL f h y a2 a3 a4=>(C L f h y a2 a3 a4).new z o [] [] y a2 λx=>rfl⟩
 clear J K m stay a l;cases z<;>cases o;all_goals
  go_enter (Qz.fn func239),ntmps239
  go_wp2_with fail
  refine V.out.mono ?_
  rintro e w2 ⟨rfl,s,k,q⟩
  have H:Hid (∀L f,Inv t w L f->rG _ L->L.length<=1000000000->(∀x,f x<=999999999)->Inv t w2 L (more f _)):=q
  have I:Hid (Hl t w w2):=s
  have E:Hid (cG w2 t x0 x1 x2 x3 x4 (c+1)):=k
  clear s k q
  go_wp2_with fail
  refine(X.out w2 I.out E.out).mono ?_
  rintro e w3 ⟨rfl,r,j,n⟩
  have F:Hid (∀L f,Inv t w L f->rG _ L->rG _ L->L.length<=1000000000->(∀x,f x<=999999999)->Inv t w3 L (more (more f _) _)):=λL f h y a2 a3 a4=>n L _ (H.out L f h y a3 a4) a2 a3 λx=>by have:=a4 x;unfold more cU;split<;>omega
  have G:Hid (Hl t w w3):=r
  have D:Hid (cG w3 t x0 x1 x2 x3 x4 (c+1)):=j
  clear r j n H
  go_wp2
  go_ret
  exact⟨_,rfl,Y.out w3 G.out D.out F.out⟩
end
def CS (w:zW)(S:zP):Prop:=∀b,S b->∃z o i v g hs,aX w b z o i v g hs/\dC w b/\∀c,z=aA c\/o=aA c->S c
section
variable {w w1 w':zW}{t b k d lo m hi:Nat}{x0 x1 x2 x3 x4:zY}{c:Int}{z o p:Option Nat}{i v g:zB}{hs:Int}{S:zP}{us:List bJ}{rows rz ro:List (Nat×ByteArray)}
def CS.hl (h:CS w S)(f:Hl t w w'):CS w' S:=λb j=>by obtain⟨z,o,i,v,g,hs,q,n,l⟩:=h b j;obtain⟨a,e⟩:=f.cell _ _ _ _ _ _ _ q;exact⟨z,o,i,v,g,a,e,f.thaw _ n,l⟩
def CS.add (h:CS w' S)(f:HD w w' b z o i v)(j:∀c,z=aA c->S c)(l:∀c,o=aA c->S c):CS w' λx=>S x\/x=b:=λx a=>by
 obtain a|rfl:=a
 .obtain⟨z,o,i,v,g,hs,s,r,q⟩:=h x a;exact⟨z,o,i,v,g,hs,s,r,λc e=>aH (q c e)⟩
 .obtain⟨hs,n⟩:=f.cell;exact⟨z,o,i,v,[],hs,n,f.thaw,λc e=>aH (e.elim (j c) (l c))⟩
def CS.cells (h:CS w S)(a:∀b,p=aA b->S b):∀b,p=aA b->(∃z o i v g hs,aX w b z o i v g hs)/\dC w b:=λb e=>by obtain⟨z,o,i,v,g,hs,j,f,_⟩:=h b (a b e);exact⟨⟨_,_,_,_,_,_,j⟩,f⟩
def eL.up (h:eL k w p us (d+1))(hl:us.length<=1):eL k w p us d:=by
 cases h with
 |nil=>exact .nil d
 |leaf h=>exact .leaf (by rw[GI k d (d+1)];exact h)
 |node a=>omega
def cO.up (h:cO k w p us (d+1) lo hi rows)(hl:us.length<=1):cO k w p us d lo hi rows:=by
 cases h with
 |done h a=>exact .done (h.up hl) a
 | @leaf b u _ _ _ _ h1 e h=>rw[GI k (d+1) d];exact .leaf h1 e h
 |node e=>omega
def eL.hl (j:1<=k)(a:k<=32)(h:eL k w p us d)(f:Hl t w w'):eL k w' p us d:=h.keep j a λb z o i v g hs _ e=>f.cell _ _ _ _ _ _ _ e
def cO.hl (j:1<=k)(a:k<=32)(h:cO k w p us d lo hi rows)(f:Hl t w w'):cO k w' p us d lo hi rows:=h.keep j a λb z o i v g hs e=>f.cell _ _ _ _ _ _ _ e
def cO.ends (h:cO k w p us d lo hi rows):Calls zq 225 #[ptr p] w λe w'=>e=aM (.bool (decide (us.length<=1)))/\w'=w:=by
 have a:∀{b:Nat}{z o:Option Nat}{i v g:zB}{hs:Int}{us:List bJ}{r1 r2:List (Nat×ByteArray)}{n a2 a3 a4:Nat},2<=us.length->aX w b z o i v g hs->cO k w z (bL d 0 us) (d+1) n a2 r1->cO k w o (bL d 1 us) (d+1) a3 a4 r2->Calls zq 225 #[ptr (aA b)] w λe w'=>e=aM (.bool (decide (us.length<=1)))/\w'=w:=λ{b z o i v g hs us r1 r2 n a2 a3 a4} l s f j=>by
  have hl:=sX us d;refine(xQ s).mono λe w' h=>⟨?_,h.2⟩;rw[h.1,zBv (by omega)];have r:=f.iA;have q:=j.iA;cases z with
  |some _=>rfl
  |none=>
   cases o with
   |some _=>rfl
   |none=>rw[r.1 rfl,q.1 rfl]at hl;simp at hl;omega
 cases h with
 |done h hl=>
  cases h with
  |nil=>exact LS w
  |leaf h=>exact xQ h
  |node l _ h f j=>exact a l h (.done f (zAb 0)) (.done j (zAb 0))
 |leaf _ _ h=>exact xQ h
 |node l _ h f j=>exact a l h f j
def VC {a}(h:bL d (1-a) us=[])(j:a<=1):bL d a us=us:=by
 refine zFf.2 λu f=> ?_;have:=zFl.1 h u f;obtain e|e:=rA u.idx d
 .rw[e]at this⊢;have:a=0:=by
   obtain h|h:=zDc 0 a;{exfalso;exact this (by rw[show 1-a=0 by omega];rfl)};{omega}
  rw[this];rfl
 .rw[e]at this⊢;have:a=1:=by
   obtain h|h:=zDc a 1;{exfalso;exact this (by rw[show 1-a=1 by omega];rfl)};{omega}
  rw[this];rfl
structure Live (t:Nat)(w:zW)(S:zP)(f:Nat->Nat)(L:List kO):Prop where
 PN:∀x,f x<=999999999
 inv:Inv t w L f
 mem:∀x,S x->x∈L.map (·.1)
 num:w.cell? ⟨t,5,aB⟩=aA (aC aD (L.length:Nat))
def Live.below {B:Nat}{f:Nat->Nat}{L:List kO}(h:Live t w S f L)(j:Below B w w')(l:w.heap.size<=B):Live t w' S f L:=by
 refine⟨h.PN,h.inv.below j l,h.mem,?_⟩;have a:=h.num;have bT:t<w.heap.size:=by unfold World.cell? at a;dsimp only at a;split at a;{rename_i e;exact(zAa.1 e).1};{cases a}
 rw[<-a];simp only[World.cell?];rw[j.block t (zAd bT l)]
def Live.len {f:Nat->Nat}{L:List kO}(h:Live t w S f L)(e:cG w t x0 x1 x2 x3 x4 c):c=(L.length:Nat):=by have a:=e.c5;rw[h.num]at a;injection a with a;injection a with _ a;exact a.symm
def Live.push {f:Nat->Nat}{L:List kO}(h:Live t w S f L)(j:cG w t x0 x1 x2 x3 x4 c)(n:c<=1000000000)(e:cG w' t x0 x1 x2 x3 x4 (c+1))(l:Inv t w L f->(∀x,S x->x∈L.map (·.1))->L.length<=1000000000->(∀x,f x<=999999999)->Inv t w' ((b,z,o)::L) f):∃N,Live t w' (λx=>S x\/x=b) f (N++L):=by
 have hl:=h.len j;refine⟨[(b,z,o)],h.PN,l h.inv h.mem (by omega) h.PN,λx a=> ?_,?_⟩
 .obtain a|rfl:=a
  .exact zBc _ (h.mem x a)
  .exact zAy
 .rw[e.c5,hl];rfl
structure Grow (t:Nat)(S S':zP)(w w':zW):Prop where
 hl:Hl t w w'
 cs:CS w' S'
 old:∀b,S b->S' b
 new:∀b,S' b->S b\/w.heap.size<=b
 inv:∀f L,Live t w S f L->∃N,Live t w' S' f (N++L)
def Grow.refl (h:CS w S):Grow t S S w w:=⟨.refl,h,λ_ h=>h,λ_ h=>aH h,λ_ _ h=>⟨[],h⟩⟩
def Grow.trans {S1 j:zP}(h:Grow t S S1 w w1)(a:Grow t S1 j w1 w'):Grow t S j w w':=
 ⟨h.hl.trans a.hl,a.cs,λb e=>a.old b (h.old b e),λb e=>by
  obtain x|x:=a.new b e;{exact h.new b x}
  .exact aI (zBb h.hl.size x),λf L l=>by
  obtain⟨r,q⟩:=h.inv f L l;obtain⟨N,n⟩:=a.inv f _ q;exact⟨N++r,by rw[zBo];exact n⟩⟩
def Joined (k t:Nat)(S:zP)(us:List bJ)(d lo n:Nat)(x0 x1 x2 x3 x4:zY)(c:Int)(w:zW)(e:Ending)(w':zW):Prop:=
 ∃p rows a,e=aM (ptr p)/\cO k w' p us d lo w'.heap.size rows/\Grow t S a w w'/\(∀b,p=aA b->a b)/\cG w' t x0 x1 x2 x3 x4 (c+(rows.length-n:Int))/\rows.length=n+if 2<=us.length then 1 else 0
def Ge (R:1<=k)(P:k<=32)(l:cO k w z (bL d 0 us) (d+1) lo m rz)(n:cO k w o (bL d 1 us) (d+1) m w.heap.size ro)(V:Sub us d)(q:CS w S)(s:∀b,z=aA b->S b)(u:∀b,o=aA b->S b)(G:cG w t x0 x1 x2 x3 x4 c)(D: -4611686018427387904<=c)(C:c<=1000000000):
  Calls zq 232 #[aO (aA ⟨t,0,aB⟩),ptr z,ptr o] w (Joined k t S us d lo (rz.length+ro.length) x0 x1 x2 x3 x4 c w):=by
 have hl:=sX us d;have M:Hid (Calls zq 225 #[ptr z] w λe w'=>e=aM (.bool (decide ((bL d 0 us).length<=1)))/\w'=w):=l.ends;have E:Hid (Calls zq 225 #[ptr o] w λe w'=>e=aM (.bool (decide ((bL d 1 us).length<=1)))/\w'=w):=n.ends;have N:=l.iA;have no:=n.iA;have U:=l.Fp;have y:=n.Fp;have HA:Hid (z=aB->(bL d 1 us).length<=1->Joined k t S us d lo (rz.length+ro.length) x0 x1 x2 x3 x4 c w (aM (ptr o)) w):=λe h=>by
  have I:=N.1 e;have T:bL d 1 us=us:=VC (a:=1) I (zAb _);have A:rz=[]:=by
   subst e;rw[I]at l;cases l with
   |done=>rfl
  rw[T]at n h;exact⟨o,ro,S,rfl,(n.up h).wide U (zAb _),.refl q,u,by rw[A,show((c:Int)+((ro.length:Int)-(([]:List (Nat×ByteArray)).length+ro.length:Nat)))=c by simp];exact G,by rw[A,zAv (by omega)];simp⟩
 have HB:Hid (o=aB->(bL d 0 us).length<=1->Joined k t S us d lo (rz.length+ro.length) x0 x1 x2 x3 x4 c w (aM (ptr z)) w):=λe h=>by
  have I:=no.1 e;have T:bL d 0 us=us:=VC (a:=0) I (by omega);have A:ro=[]:=by
   subst e;rw[I]at n;cases n with
   |done=>rfl
  rw[T]at l h;exact⟨z,rz,S,rfl,(l.up h).wide (zAb _) y,.refl q,s,by rw[A,show((c:Int)+((rz.length:Int)-(rz.length+([]:List (Nat×ByteArray)).length:Nat)))=c by simp];exact G,by rw[A,zAv (by omega)];simp⟩
 have r:Hid (2<=us.length->Calls zq 239 #[aO (aA ⟨t,0,aB⟩),ptr z,ptr o] w λe w'=>∃b,e=aM (ptr (aA b))/\Joined k t S us d lo (rz.length+ro.length) x0 x1 x2 x3 x4 c w (aM (ptr (aA b))) w'):=λQ=>by refine(Ff (q.cells s) (q.cells u) G D (by omega)).mono ?_;rintro e w' ⟨b,rfl,K,hH,F,hb,hI⟩;obtain⟨hs,hc⟩:=K.cell;have hR:cO k w' (aA b) us d lo w'.heap.size (rz++ro++[(b,⟨(iM k us d).toArray⟩)]):= .node Q (V.deep Q) hc (l.hl R P hH) ((n.hl R P hH).wide (zAb _) K.lo) hb;refine⟨b,rfl,aA b,_,_,rfl,hR,⟨hH,(q.hl hH).add K s u,λx O=>aH O,λx O=>O.imp id λe=>by subst e;exact K.lo,λf L hf=>hf.push G C F λg1 X g3 g4=>hI L f g1 (λx e=>X x (s x e)) (λx e=>X x (u x e)) g3 g4⟩,λx e=>by cases e;exact aI rfl,?_,by rw[zAz Q];simp only[zAc,zAf,zAl]⟩;rw[show(c:Int)+(((rz++ro++[(b,(⟨(iM k us d).toArray⟩:ByteArray))]).length:Int)-(rz.length+ro.length:Nat))=c+1 by simp only[zAc,zAf,zAl];omega];exact F
 have H1:Hid (z=aB->o=aB->(bL d 1 us).length<=1):=λ_ e=>by rw[no.1 e];simp
 have H2:Hid (¬(bL d 1 us).length<=1->2<=us.length):=λh=>by omega
 have H3:Hid (¬(bL d 0 us).length<=1->2<=us.length):=λh=>by omega
 have H4:Hid (∀a b,z=aA a->o=aA b->2<=us.length):=λa b Z Y=>by
  obtain h|h:=zEe (bL d 0 us).length;{rw[N.2 (zDz.1 h)]at Z;cases Z}
  .obtain W|W:=zEe (bL d 1 us).length
   .rw[no.2 (zDz.1 W)]at Y;cases Y
   .omega
 generalize hJ:Joined k t S us d lo (rz.length+ro.length) x0 x1 x2 x3 x4 c w=J at*;clear l n V q s u G D C hJ N no U y hl R P;generalize bL d 0 us=u0 at*;generalize bL d 1 us=u1 at*;cases z with
 |none=>
  cases o with
  |none=>have j:=H1.out rfl rfl;rw[zDd j]at E;go_enter (Qz.fn func232),ntmps232;go_wp2_with fail;refine E.out.mono ?_;rintro e w' ⟨rfl,rfl⟩;go_wp2;exact HA.out (by first|trivial|rfl) j
  |some o=>by_cases j:u1.length<=1;{rw[zDd j]at E;go_enter (Qz.fn func232),ntmps232;go_wp2_with fail;refine E.out.mono ?_;rintro e w' ⟨rfl,rfl⟩;go_wp2;exact HA.out (by first|trivial|rfl) j};{rw[zBv j]at E;have H:=r.out (H2.out j);clear r j;go_enter (Qz.fn func232),ntmps232;go_wp2_with fail;refine E.out.mono ?_;rintro e w' ⟨rfl,rfl⟩;go_wp2_with fail;refine H.mono ?_;rintro e w' ⟨b,rfl,B⟩;go_wp2;exact B}
 |some z=>
  cases o with
  |none=>by_cases j:u0.length<=1;{rw[zDd j]at M;go_enter (Qz.fn func232),ntmps232;go_wp2_with fail;refine M.out.mono ?_;rintro e w' ⟨rfl,rfl⟩;go_wp2;exact HB.out (by first|trivial|rfl) j};{rw[zBv j]at M;have H:=r.out (H3.out j);clear r j;go_enter (Qz.fn func232),ntmps232;go_wp2_with fail;refine M.out.mono ?_;rintro e w' ⟨rfl,rfl⟩;go_wp2_with fail;refine H.mono ?_;rintro e w' ⟨b,rfl,B⟩;go_wp2;exact B}
  |some o=>have H:=r.out (H4.out _ _ rfl rfl);clear r;go_enter (Qz.fn func232),ntmps232;go_wp2_with fail;refine H.mono ?_;rintro e w' ⟨b,rfl,B⟩;go_wp2;exact B
end
def Lf:∀{A M:List Nat},A.Nodup->(∀x∈A,x∈M)->M.length<=A.length->∀x∈M,x∈A
 |[],M,_,_,hl,x,h=>by have:M=[]:=zDz.1 (Nat.le_zero.1 hl);rw[this]at h;cases h
 |a::A,M,j,g,hl,x,h=>by obtain⟨n,m⟩:=zFy.1 j;have i:=g a zAy;have hlen:=zFj i;simp only[zAf]at hl;by_cases e:x=a;{rw[e];exact zAy};{refine zBc _ (Lf (M:=M.erase a) m (λy b=> ?_) (by omega) x ((zFa e).2 h));exact(zFa λe=>n (by rw[<-e];exact b)).2 (g y (zBc _ b))}
def RV (N L:List kO)(x:Nat):refs (N++L) x=refs N x+refs L x:=by
 induction N with
 |nil=>simp[refs]
 |cons a N i=>simp only[zBx,refs,i];omega
section
variable {w:zW}{t k d lo hi:Nat}{p:Option Nat}{us:List bJ}{rows:List (Nat×ByteArray)}{S:zP}{f:Nat->Nat}{N L:List kO}
def cO.parent (h:cO k w p us d lo hi rows):∀x∈rows,p=aA x.1\/∃y∈rows,∃z o i v g H,aX w y.1 z o i v g H/\(z=aA x.1\/o=aA x.1):=by
 induction h with
 |done=>intro x a;cases a
 |leaf _ _ _=>intro x a;rw[zAm]at a;subst a;exact aH rfl
 | @node b us d lo m hi z o H I ro O M h J K hb B A=>
  intro x a;have n:(b,(⟨(iM k us d).toArray⟩:ByteArray))∈I++ro++[(b,(⟨(iM k us d).toArray⟩:ByteArray))]:=List.mem_append_right _ zAy;obtain a|a:=zAh.1 a
  .right;obtain a|a:=zAh.1 a
   .obtain e|⟨y,E,r,u,D,s,G,j,h1,F⟩:=B x a
    .exact⟨_,n,_,_,_,_,_,_,h,aH e⟩
    .exact⟨y,zFv _ (zFv _ E),r,u,D,s,G,j,h1,F⟩
   .obtain e|⟨y,E,r,u,D,s,G,j,h1,F⟩:=A x a
    .exact⟨_,n,_,_,_,_,_,_,h,aI e⟩
    .exact⟨y,zFv _ (List.mem_append_right _ E),r,u,D,s,G,j,h1,F⟩
  .rw[zAm]at a;subst a;exact aH rfl
def Es (G:Live t w S f (N++L))(Y:Pos L f)(h:cO k w p us d lo hi rows)(E:∀k∈L,k.1<lo)(hC:CS w S)(R:∀b,p=aA b->S b)(U:N.length=rows.length):Pos (N++L) (more f p):=by
 have m:∀b z o i v g B,S b->aX w b z o i v g B->∀c,z=aA c\/o=aA c->S c:=λb z o i v g B X W c e=>by obtain⟨z',o',O,K,g',P,a,_,j⟩:=hC b X;obtain⟨rfl,rfl,_⟩:=eC W a;exact j c e
 have F:=h.Qj m R;obtain⟨V,D⟩:=h.each;have H:∀x∈rows,x.1∈N.map (·.1):=λx n=>by have a:=G.mem x.1 (F x n);rw[zDk]at a;obtain a|a:=zAh.1 a;{exact a};{obtain⟨y,s,e⟩:=zBl.1 a;have h2:=E y s;have j:=(V x n).1;omega}
 have Z:=Lf D (M:=N.map (·.1)) (λx n=>by obtain⟨y,s,rfl⟩:=zBl.1 n;exact H y s) (by simp[U])
 intro r A;obtain A|A:=zAh.1 A
 .obtain⟨x,n,e⟩:=zBl.1 (Z r.1 (zBl.2 ⟨r,A,rfl⟩));obtain e1|⟨y,s,z,o,i,v,g,B,a,j⟩:=h.parent x n
  .have:cU r.1 p=1:=zAz (by rw[e1,e]);unfold more;omega
  .obtain⟨q,Q,eq⟩:=zBl.1 (H y s);have u:q∈N++L:=zFv _ Q;obtain⟨O,K,g',J,_⟩:=G.inv.cell q u;rw[eq]at J;obtain⟨e2,e3,_⟩:=eC a J;have T:refs (N++L) r.1≠0:=λh0=>by
    have I:=KL h0 q u;rw[e]at j;obtain j|j:=j;{exact I.1 (e2.symm.trans j)};{exact I.2 (e3.symm.trans j)}
   omega
 .have a:=Y r A;rw[RV];unfold more;omega
def heldBy:List (Option Nat)->Nat->Nat
 |[],_=>0
 |p::l,x=>cU x p+heldBy l x
def pU (p:Option Nat)(l:List (Option Nat)):heldBy (p::l)=more (heldBy l) p:=by funext x;simp only[heldBy,more];omega
def Gj (l:List (Option Nat))(p:Option Nat):heldBy (l++[p])=more (heldBy l) p:=by
 funext x;induction l with
 |nil=>simp[heldBy,more]
 |cons a l i=>simp only[zBx,heldBy,i,more];omega
def Bn (l:List (Option Nat))(x:Nat):heldBy l x<=l.length:=by
 induction l with
 |nil=>exact zAb _
 |cons a l i=>have:cU x a<=1:=by{unfold cU;split<;>omega};simp only[heldBy,zAf];omega
def TO {l:List (Option Nat)}{x:Nat}(h:aA x∈l):0<heldBy l x:=by
 induction l with
 |nil=>cases h
 |cons a l i=>obtain h|h:=zAg.1 h;{have:cU x a=1:=zAz h.symm;simp only[heldBy];omega};{have:=i h;simp only[heldBy];omega}
def Inv.cs {w:zW}{t:Nat}{L:List kO}{e:Nat->Nat}(h:Inv t w L e):CS w λx=>x∈L.map (·.1):=λb j=>by obtain⟨k,a,rfl⟩:=zBl.1 j;obtain⟨i,v,g,n,m⟩:=h.cell k a;exact⟨_,_,_,_,_,_,n,m,λc e=>(h.NR k a c e).2⟩
def Inv.Hc {w w':zW}{t:Nat}{L:List kO}{e:Nat->Nat}{all:List (Nat×ByteArray)}(h:Inv t w L e)(a:AG all w w'):Inv t w' L e:=
 h.same (λk _ i v g j=>a.cell _ _ _ _ _ _ _ j) (λk _ b=>a.thaw _ b) h.out h.nR
end
def tT (t:Nat)(w:zW)(C:zP)(l:List (Option Nat))(q:Option Nat):Prop:=∃L,Live t w (λx=>x∈L.map (·.1)) (heldBy l) L/\Pos L (more (heldBy l) q)/\(∀x∈L.map (·.1),C x)/\rG q L
def TD {t:Nat}{n:Int}:∀p:Option Nat,MK t n p
 |none=>yV
 |some b=>TC (b+1) _ λc e=>by cases e;exact Nat.lt_succ_self _
section
variable {w w':zW}{t:Nat}{C C':zP}{l l':List (Option Nat)}{p q:Option Nat}{x0 x1 x2 x3 x4:zY}{c:Int}
def tT.kept (h:tT t w C l q)(o:∀x,C x->w'.heap[x]? =w.heap[x]?)(n:w'.cell? ⟨t,5,aB⟩=w.cell? ⟨t,5,aB⟩):tT t w' C l q:=by obtain⟨L,b,u,j,s⟩:=h;have e:∀k∈L,w'.heap[k.1]? =w.heap[k.1]? :=λk a=>o k.1 (j k.1 (zBl.2 ⟨k,a,rfl⟩));exact⟨L,⟨b.PN,b.inv.same (λk a i v g r=>⟨g,⟨by rw[e k a];exact r.at'⟩⟩) (λk a ⟨c,m⟩=>⟨c,by rw[e k a];exact m⟩) b.inv.out b.inv.nR,b.mem,n.trans b.num⟩,u,j,s⟩
def tT.below {B:Nat}(h:tT t w C l q)(a:Below B w w')(b:w.heap.size<=B):tT t w' C l q:=by obtain⟨L,g,e⟩:=h;exact⟨L,g.below a b,e⟩
def tT.held (e:heldBy l=heldBy l')(h:tT t w C l q):tT t w C l' q:=by unfold tT at h⊢;rw[<-e];exact h
def tT.Hc {all:List (Nat×ByteArray)}(h:tT t w C l q)(e:AG all w w')(b:w'.cell? ⟨t,5,aB⟩=w.cell? ⟨t,5,aB⟩):tT t w' C l q:=by obtain⟨L,a,g⟩:=h;exact⟨L,⟨a.PN,a.inv.Hc e,a.mem,b.trans a.num⟩,g⟩
def tT.len (h:tT t w C l q)(a:cG w t x0 x1 x2 x3 x4 c):0<=c:=by obtain⟨L,b,_⟩:=h;rw[b.len a];omega
def Inv.Yy {L:List kO}(h:Inv t w L (heldBy l))(a:p∈l):rG p L:=λb e=>by subst e;refine zBm λg=> ?_;have j:=h.out b g;have i:=TO a;omega
def tT.hold (h:tT t w C l q)(i:q=p\/q=aB/\p∈l)(hl:l.length<=1000000)(s:cG w t x0 x1 x2 x3 x4 c)(g:cG w' t x0 x1 x2 x3 x4 c)(A:c<=1000000000)(u:∀L f,Inv t w L f->rG p L->L.length<=1000000000->(∀x,f x<=1000000000)->Inv t w' L (more f p)):tT t w' C (p::l) aB:=by
 obtain⟨L,a,j,z,y⟩:=h;have v:rG p L:=by obtain rfl|⟨_,m⟩:=i;{exact y};{exact a.inv.Yy m}
 have n:=a.len s;have r:=Bn l;refine⟨L,⟨λx=> ?_,by rw[pU];exact u L _ a.inv v (by omega) (λx=>by have:=r x;omega),a.mem,by rw[g.c5,n]⟩,?_,z,λb e=>by cases e⟩
 .have:=Bn (p::l) x;simp only[zAf]at this;omega
 .rw[gP,pU];obtain rfl|⟨rfl,_⟩:=i
  .exact j
  .intro k o;have:=j k o;rw[gP]at this;unfold more;omega
def Zh (t:Nat)(C:zP)(p:Option Nat)(l:List (Option Nat))(x0 x1 x2 x3 x4:zY)(c:Int)(w w':zW):Prop:=Hl t w w'/\∃c',cG w' t x0 x1 x2 x3 x4 c'/\tT t w' C l aB/\0<=c'/\c'<=c/\(p∈l->c'=c)
def tT.let {n:Int}(h:tT t w C (p::l) aB)(hF:Fg t n w)(s:0<n)(y:cG w t x0 x1 x2 x3 x4 c)(F:c<=1000000000):
  (Calls zq 219 #[aO (aA ⟨t,0,aB⟩),ptr p] w λr w'=>r=aM (.tuple #[])/\Zh t C p l x0 x1 x2 x3 x4 c w w')/\
  ∀u,CallsD zq 219 #[aO (aA ⟨t,0,aB⟩),ptr p] u w λr v w'=>v=u/\(r=aM (.tuple #[])/\Zh t C p l x0 x1 x2 x3 x4 c w w'):=by
 obtain⟨L,j,o,A,_⟩:=h;rw[gP]at o;rw[pU]at j o;have hl:=j.len y;subst hl;obtain⟨k1,k2⟩:=TD (t:=t) (n:=n) p w L (heldBy l) x0 x1 x2 x3 x4 j.inv y hF (by omega);have g:∀w',tZ t n p w w' L (heldBy l) x0 x1 x2 x3 x4->Zh t C p l x0 x1 x2 x3 x4 (L.length:Nat) w w':=λw' ⟨g1,D,G,g2,g3,_,g5,g6,g7,g8⟩=>by have B:=g5 s;have i:=g7 s o;rw[B]at g2 i;have E:=g6.length_le;refine⟨g1,_,g3,⟨D,⟨λx=>zBb (zDn _ _) (j.PN x),g2,λx m=>m,g3.c5⟩,by rw[gP];exact i,λx m=>A x ((g6.map _).subset m),λb e=>by cases e⟩,by omega,by omega,λz=> ?_⟩;rw[g8 s λb e=>by subst e;exact TO z]
 exact⟨k1.mono λr w' ⟨a,b⟩=>⟨a,g w' b⟩,λu=>(k2 u).mono λr v w' ⟨a,b,c⟩=>⟨a,b,g w' c⟩⟩
end
def dZ {l a I}:eK (a::l) I=if a.1=I then aA a.2 else eK l I:=by
 unfold eK;by_cases h:a.1=I
 .rw[List.find?_cons_of_pos (by simpa using h),zAz h];rfl
 .rw[List.find?_cons_of_neg (by simpa using h),zAv h]
def mX:∀{l m:List oW},eJ l->eJ m->(∀I,eK l I=eK m I)->l=m
 |[],[],_,_,_=>rfl
 |[],b::m,_,_,h=>by have:=h b.1;rw[dZ,zAz rfl]at this;cases this
 |a::l,[],_,_,h=>by have:=h a.1;rw[dZ,zAz rfl]at this;cases this
 |a::l,b::m,hl,hm,h=>by
  unfold eJ at hl hm;rw[zBy]at hl hm;have g:∀{x:oW}{r:List oW},(∀e∈r,aE7 x.1 e.1= -1)->∀e∈r,e.1≠x.1:=λn e f d=>by have:=n e f;rw[d,cZ]at this;cases this
  have i:a.1=b.1:=by
   obtain c|c|c:=gQ a.1 b.1
   .exfalso;have:=h a.1;rw[dZ,zAz rfl,dZ,zAv (λe=>by rw[e,cZ]at c;cases c),eM]at this
    .cases this
    .intro e f d;have k:=hm.1 e f;rw[d]at k;have:=fS b.1 a.1;omega
   .exact jA c
   .exfalso;have c':aE7 b.1 a.1= -1:=by{have:=fS a.1 b.1;omega};have:=h b.1;rw[dZ (a:=b),zAz rfl,dZ,zAv (λe=>by rw[e,cZ]at c;cases c),eM]at this;{cases this};{intro e f d;have k:=hl.1 e f;rw[d]at k;have:=fS a.1 b.1;omega}
  have o:a.2=b.2:=by have:=h a.1;rw[dZ,zAz rfl,dZ,zAz i.symm]at this;exact zAk this
  have f:=Prod.ext i o;subst f;rw[mX hl.2 hm.2 λI=> ?_];have:=h I;rw[dZ,dZ]at this;by_cases j:a.1=I;{subst j;rw[eM (g hl.1),eM (g hm.1)]};{rw[zAv j,zAv j]at this;exact this}
def get_append (l m)(I):eK (l++m) I=(eK l I).or (eK m I):=by unfold eK;rw[List.find?_append];cases h:l.find? λe=>e.1==I<;>rfl
def get_filter {l q I}(h:∀e,e.1=I->q e=aF):eK (l.filter q) I=eK l I:=by
 induction l with
 |nil=>rfl
 |cons a l i=>
  by_cases b:a.1=I;{rw[zAt (h a b),dZ,dZ,zAz b,zAz b]}
  .rw[dZ,zAv b];cases c:q a with
   |true=>rw[zAt c,dZ,zAv b,i]
   |false=>rw[zAn (by rw[c];decide),i]
def get_put (l)(u)(I):eK (wP l u) I=if u.idx=I then(if u.gone then aB else aA u.val)else eK l I:=by
 unfold wP;rw[get_append,get_append];by_cases h:u.idx=I
 .subst h;rw[zAz rfl,eM (λe b a=>by
   have:=of_decide_eq_true (zAx.1 b).2;rw[a,cZ]at this;cases this),eM (l:=l.filter λe=>decide (aE7 e.1 u.idx=1)) (λe b a=>by
   have:=of_decide_eq_true (zAx.1 b).2;rw[a,cZ]at this;cases this)]
  cases u.gone;{simp[dZ]};{simp[eK]}
 .rw[zAv h];have d:eK (if u.gone then []else [(u.idx,u.val)]) I=aB:=by
   split;{rfl};{rw[dZ,zAv h];rfl}
  rw[d];obtain c|c|c:=gQ I u.idx
  .rw[get_filter (λe b=>by rw[b,c];rfl),eM (l:=l.filter λe=>decide (aE7 e.1 u.idx=1)) (λe b a=>by
    have:=of_decide_eq_true (zAx.1 b).2;rw[a,c]at this;cases this)]
   cases eK l I<;>rfl
  .exact absurd (jA c).symm h
  .rw[get_filter (q:=λe=>decide (aE7 e.1 u.idx=1)) (λe b=>by rw[b,c];rfl),eM (λe b a=>by
    have:=of_decide_eq_true (zAx.1 b).2;rw[a,c]at this;cases this)]
   rfl
def Diff (cs:List bJ)(l w:List oW):Prop:=∀u∈cs,eK l u.idx≠eK w u.idx
def LM (l)(d b)(I):eK (dG l d b) I=if eD I d=b then eK l I else aB:=by
 split
 .rename_i h;exact get_filter (λe g=>by rw[g,h];exact zFd _)
 .rename_i h;unfold eK;cases c:(dG l d b).find? λe=>e.1==I with
  |none=>rfl
  |some e=>exfalso;have i:=List.mem_of_find?_eq_some c;have f:=List.find?_some c;have a:=(zAx.1 i).2;rw[zDq]at f a;rw[f]at a;exact h a
def Diff.half {cs l w}(h:Diff cs l w)(d b):Diff (bL d b cs) (dG l d b) (dG w d b):=λu c=>by obtain⟨e,a⟩:=zAx.1 c;rw[LM,LM,zAz (zDq.1 a),zAz (zDq.1 a)];exact h u e
def Diff.ne {cs l w}(h:Diff cs l w)(a:0<cs.length):l≠w:=λe=>by
 subst e;match cs,a with
 |u::cs,_=>exact h u (zAy ..) rfl
def jQ (l w:List oW):Nat:=(l.filter λe=> !w.contains e).length
def sL (l w)(d):jQ (dG l d 0) (dG w d 0)+jQ (dG l d 1) (dG w d 1)=jQ l w:=by
 have h:∀b,(dG l d b).filter (λe=> !(dG w d b).contains e)=dG (l.filter λe=> !w.contains e) d b:=λb=>by
  unfold dG;rw[zDv,zDv];apply List.filter_congr;intro e _;cases hb:eD e.1 d==b with
  |false=>simp
  |true=>
   have:(w.filter λe=>eD e.1 d==b).contains e=w.contains e:=by rw[Bool.eq_iff_iff,zFq,zFq,zAx];exact⟨λh=>h.1,λh=>⟨h,hb⟩⟩
   rw[this];simp
 unfold jQ;rw[h 0,h 1];exact FT _ d
def xM:∀{l:List oW}{I v:zB},eJ l->(I,v)∈l->eK l I=aA v
 |[],_,_,_,h=>by cases h
 |a::l,I,v,b,h=>by obtain⟨d,c⟩:=zBy.1 b;rw[dZ];obtain rfl|h:=zAg.1 h;{rw[zAz rfl]};{have:=d _ h;rw[zAv (λe=>by rw[e,cZ]at this;cases this)];exact xM c h}
def jJ (l w:List oW)(d:Nat):Nat:=jQ l w+nP (256-d) l w d
def Fi {u cs w d}(b:eJ w)(h:Diff cs (bF [u]) w){c}(f:c∈cs)(hi:c.idx=u.idx):1<=jJ (bF [u]) w d:=by
 have a:=h c f;rw[hi]at a;have i:eK (bF [u]) u.idx=aA u.val:=by show eK [(u.idx,u.val)] u.idx=_;rw[dZ,zAz rfl]
 rw[i]at a;have g:w.contains (u.idx,u.val)=aG:=by rw[zEz];intro e;rw[zFq]at e;exact a (xM b e).symm
 have j:jQ (bF [u]) w=1:=by show([(u.idx,u.val)].filter _).length=1;rw[zAt (by rw[g];rfl)];rfl
 unfold jJ;omega
def Fh {us cs w d}(h:Diff cs (bF us) w)(b:2<=us.length)(a:0<cs.length)(c:d<256):
  1+(jJ (bF (bL d 0 us)) (dG w d 0) (d+1)+jJ (bF (bL d 1 us)) (dG w d 1) (d+1))=jJ (bF us) w d:=by
 rw[fL,fL];unfold jJ;rw[show 256-d=(256-(d+1))+1 by omega,nP,zAv (λe=>by
  obtain e|e:=e;{rw[eH]at e;omega}
  .exact h.ne a e),<-sL (bF us) w d]
 omega
def lD (l:List bJ):Prop:=l.Pairwise λa b=>aE7 a.idx b.idx= -1
def sO (I:zB)(l:List bJ):List bJ:=l.filter λu=>decide (aE7 u.idx I= -1)
def lU (I:zB)(l:List bJ):List bJ:=l.filter λu=>decide (aE7 u.idx I=1)
def VG {I l}(h:∀x∈l,aE7 x.idx I=1):sO I l=[]/\lU I l=l:=by
 constructor
 .unfold sO;rw[zFl];intro x a;rw[h x a];decide
 .unfold lU;rw[zFf];intro x a;rw[h x a];rfl
def UN {a b}(h:aE7 a b= -1):aE7 b a=1:=by rw[fS a b,h];rfl
def yG (I:zB):∀l:List bJ,lD l->(∃x,x.idx=I/\l=sO I l++x::lU I l)\/(l=sO I l++lU I l/\∀x∈l,x.idx≠I)
 |[],_=>aI ⟨rfl,λ_ h=>by cases h⟩
 |a::l,m=>by
  obtain⟨f,n⟩:=zBy.1 m;obtain h|h|h:=gQ a.idx I
  .have j:sO I (a::l)=a::sO I l:=by{unfold sO;rw[zAt (by rw[h];rfl)]};have i:lU I (a::l)=lU I l:=by{unfold lU;rw[zAn (by rw[h];decide)]};rw[j,i];obtain⟨x,b,e⟩|⟨e,d⟩:=yG I l n;{exact aH ⟨x,b,by rw[zBx,<-e]⟩}
   .refine aI ⟨by rw[zBx,<-e],λx b=> ?_⟩;obtain rfl|b:=zAg.1 b
    .intro e;rw[e,cZ]at h;cases h
    .exact d x b
  .have e:=jA h;obtain⟨c,g⟩:=VG (I:=I) (l:=l) λx b=>by{rw[<-e];exact UN (f x b)};have j:sO I (a::l)=[]:=by{unfold sO at c⊢;rw[zAn (by rw[h];decide)];exact c};have i:lU I (a::l)=l:=by{unfold lU at g⊢;rw[zAn (by rw[h];decide)];exact g};rw[j,i];exact aH ⟨a,e,rfl⟩
  .have k:aE7 I a.idx= -1:=by rw[fS a.idx I,h]
   obtain⟨c,g⟩:=VG (I:=I) (l:=a::l) λx b=>by obtain rfl|b:=zAg.1 b;{exact h};{exact UN (nC k (f x b))}
   rw[c,g];refine aI ⟨rfl,λx b=> ?_⟩;obtain rfl|b:=zAg.1 b;{intro e;rw[e,cZ]at h;cases h};{intro e;have:=nC k (f x b);rw[e,cZ]at this;cases this}
def LK (u:bJ):bJ:=⟨u.idx,u.val,aG⟩
def iL (l:List bJ)(u:bJ):List bJ:=sO u.idx l++((if u.gone then []else [LK u])++lU u.idx l)
def wO (l)(u):bF (iL l u)=wP (bF l) u:=by
 have h:∀q:oW->Bool,bF (l.filter λx=>q (x.idx,x.val))=(bF l).filter q:=λq=>by unfold bF;rw[List.filter_map];rfl
 unfold iL wP;rw[<-h,<-h];unfold bF sO lU;rw[zDk,zDk];cases u.gone<;>rfl
structure GY (l:List bJ):Prop where
 sub:Sub l 0
 val:∀u∈l,u.val.length<=100
 here:∀u∈l,u.gone=aG
def GY.nil:GY []:=⟨⟨List.Pairwise.nil,λ_ h=>(nomatch h),λ_ h=>(nomatch h)⟩,λ_ h=>(nomatch h),λ_ h=>(nomatch h)⟩
def GY.put {l}(h:GY l){u}(hi:u.idx.length=32)(e:u.val.length<=100):GY (iL l u):=by
 have b:∀x∈iL l u,x∈l\/(u.gone=aG/\x=LK u):=λx a=>by
  obtain a|a:=zAh.1 a;{exact aH (zAx.1 a).1}
  .obtain a|a:=zAh.1 a
   .cases c:u.gone with
    |true=>rw[c]at a;simp at a
    |false=>rw[c]at a;exact aI ⟨rfl,by simpa using a⟩
   .exact aH (zAx.1 a).1
 have f:lD (iL l u):=by have d:eJ (wP (bF l) u):=uZ (zCw.2 h.sub.order);rw[<-wO]at d;exact zCw.1 d
 refine⟨Sub.zero f λx a=> ?_,λx a=> ?_,λx a=> ?_⟩
 .obtain a|⟨_,rfl⟩:=b x a
  .exact h.sub.idx x a
  .exact hi
 .obtain a|⟨_,rfl⟩:=b x a
  .exact h.val x a
  .exact e
 .obtain a|⟨_,rfl⟩:=b x a
  .exact h.here x a
  .rfl
def bE (l us:List bJ):List bJ:=us.foldl iL l
def lN:∀(us l:List bJ),bF (bE l us)=cT (bF l) us
 |[],_=>rfl
 |u::us,l=>by show bF (bE (iL l u) us)=cT (wP (bF l) u) us;rw[lN us,wO]
def GY.cT:∀{us l:List bJ},GY l->(∀u∈us,u.idx.length=32/\u.val.length<=100)->GY (bE l us)
 |[],_,h,_=>h
 |u::us,l,h,hu=>by show GY (bE (iL l u) us);exact GY.cT (h.put (hu u (zAy ..)).1 (hu u (zAy ..)).2) λx a=>hu x (zBc _ a)
def GY.same {l m}(h:GY l)(d:GY m)(e:bF l=bF m):l=m:=by
 have a:∀{x:List bJ},GY x->x=(bF x).map λe=>⟨e.1,e.2,aG⟩:=λ{x} b=>by
  unfold bF;rw[zEs];conv=>lhs;rw[<-List.map_id x]
  apply zFz;intro u c;have:=b.here u c;cases u;simp only at this;subst this;rfl
 rw[a h,a d,e]
def RF (R:zR)(e:Ending)(w:zW):Prop:=(∃x,e=aM x/\R x w)\/∃c,e= .panicked c/\kS c w
def RF.of {R x w}(h:R x w):RF R (aM x) w:=aH ⟨x,rfl,h⟩
def RF.told {R c w}(h:kS c w):RF R (.panicked c) w:=aI ⟨c,rfl,h⟩
def rB {B w w'}(h:Below B w w'):Below B w w'.drew:=⟨h.os,h.tape,h.output,h.size,h.block⟩
def MQ {B w w'}(h:Below B w.drew w'):Below B w w':=⟨h.os,h.tape,h.output,h.size,h.block⟩
def dD (w:zW)(x:Nat):Prop:=∃z o i v g h,aX w x z o i v g h
def mQ (C:zP)(x:zY):Prop:=∃p,x=ptr p/\∀b,p=aA b->C b
def kN (w:zW):Prop:=∀b,b<=zq.globals.size->¬VN w.heap[b]?/\(¬dD w b/\(b=0->w.frozen? ⟨0,0,aB⟩=aG))/\((∃c t fr,w.heap[b]? =aA (aJ c t fr)/\(∀D:zP,(∀x,x<=zq.globals.size->D x)->aZ Qw.Al (cC D) c c)/\(∀(i:Nat) m,c[i]?≠aA (aC aQ m))/\fr.2<=c.size)\/∃o,w.heap[b]? =aA o/\BW o)
def OM {w:zW}{x:Nat}(h:dD w x):x<w.heap.size:=by obtain⟨_,_,_,_,_,_,h⟩:=h;exact h.lt
def Kp (w w':zW):Prop:=∀b z o i v g c,aX w b z o i v g c->(∃a h,aX w' b z o i v a h/\(g≠[]->a=g))/\(dC w b->dC w' b)
def Kp.same {w w':zW}(h:∀x,dD w x->w'.heap[x]? =w.heap[x]?):Kp w w':=λb z o i v g a d=>by have e:=h b ⟨z,o,i,v,g,a,d⟩;exact⟨⟨g,a,⟨by rw[e];exact d.at'⟩,λ_=>rfl⟩,λ⟨c,h⟩=>⟨c,by rw[e];exact h⟩⟩
def Kp.trans {w w1 w':zW}(h:Kp w w1)(p:Kp w1 w'):Kp w w':=λb z o i v g j l=>by obtain⟨⟨r,c,n,u⟩,t1⟩:=h b z o i v g j l;obtain⟨⟨q,a,m,s⟩,t2⟩:=p b z o i v r c n;exact⟨⟨q,a,m,λd=>by have e:=u d;rw[s (by rw[e];exact d),e]⟩,λf=>t2 (t1 f)⟩
structure dJ (F:zP)(w w':zW):Prop where
 os:w'.os=w.os
 tape:w'.tape=w.tape
 output:w'.output=w.output
 size:w.heap.size<=w'.heap.size
 block:∀k,k<w.heap.size->¬F k->w'.heap[k]? =w.heap[k]?
 kp:Kp w w'
section
variable {F F':zP}{w w1 w':zW}
def dJ.refl (F:zP)(w:zW):dJ F w w:=⟨rfl,rfl,rfl,zAb _,λ_ _ _=>rfl,.same λ_ _=>rfl⟩
def dJ.of {B:Nat}(h:Below B w w')(a:w.heap.size<=B):dJ F w w':=⟨h.os,h.tape,h.output,h.size,λk d _=>h.block k (zAd d a),.same λx c=>h.block x (zAd (OM c) a)⟩
def dJ.trans (h:dJ F w w1)(a:dJ F w1 w'):dJ F w w':=⟨a.os.trans h.os,a.tape.trans h.tape,a.output.trans h.output,zBb h.size a.size,λk c hF=>(a.block k (zAd c h.size) hF).trans (h.block k c hF),h.kp.trans a.kp⟩
def dJ.then (h:dJ F w w1)(a:dJ F' w1 w')(hF:∀x,F' x->x<w.heap.size->¬F x->w1.heap[x]?≠w.heap[x]?):dJ F w w':=⟨a.os.trans h.os,a.tape.trans h.tape,a.output.trans h.output,zBb h.size a.size,λk c d=>(a.block k (zAd c h.size) (λe=>hF k e c d (h.block k c d))).trans (h.block k c d),h.kp.trans a.kp⟩
def dJ.mono (h:dJ F w w')(hF:∀x,F x->F' x):dJ F' w w':=⟨h.os,h.tape,h.output,h.size,λk c a=>h.block k c λd=>a (hF k d),h.kp⟩
def dJ.grown {x:Nat}(h:w.grownBy w' (aA x))(d:F x)(a:¬dD w x):dJ F w w':=⟨h.os,h.tape,h.output,h.size,λk f a=>h.block k f λe=>a (by injection e with e;rw[e];exact d),.same λy c=>h.block y (OM c) λe=>a (by injection e with e;rw[<-e];exact c)⟩
end
def oN (S:List (List bJ)):List bJ:=S.getLast?.getD []
structure cQ (w:zW)(t k room b cap:Nat)(S:List (List bJ)):Prop where
 k1:1<=k
 k2:k<=32
 gK:kN w
 iH:fD w
 DJ:zq.globals.size<t
 OQ:zq.globals.size<b
 at':∃(R:Nat)(c:Int),cG w t (aC aD k) (aC aD R) (aL ⟨(dg k [0]).toArray⟩) (aK (aA ⟨b,0,aB⟩) S.length cap) (aC aD (oN S).length) c/\c+room<=R/\R<=1000000
 row:∃(C:zP)(cur:zA),w.heap[b]? =aA (aJ cur 264 (0,0))/\S.length<=cap/\cap<=maxLen/\cur.size=cap/\CS w C/\(∀x∈cur.toList,mQ C x)/\(∀(i:Nat) us,S[i]? =aA us->∃p,cur[i]? =aA (ptr p)/\eL k w p us 0)/\∃tp,cur.toList.take S.length=tp.map ptr/\tT t w C tp aB
 st:∀us∈S,GY us/\us.length<=400
 len:S.length<=1000
 one:0<S.length
section
variable {w w':zW}{t k room b cap:Nat}{S:List (List bJ)}{C:zP}
def dD.lt {x:Nat}(h:dD w x):x<w.heap.size:=OM h
def aX.same {b z o i v g hs}(h:aX w b z o i v g hs)(a:w'.heap[b]? =w.heap[b]?):aX w' b z o i v g hs:=⟨by rw[a];exact h.at'⟩
def dC.same {b}(h:dC w b)(a:w'.heap[b]? =w.heap[b]?):dC w' b:=by obtain⟨c,h⟩:=h;exact⟨c,by rw[a];exact h⟩
def dD.same {x}(h:dD w x)(c:w'.heap[x]? =w.heap[x]?):dD w' x:=by obtain⟨z,o,i,v,g,a,h⟩:=h;exact⟨z,o,i,v,g,a,h.same c⟩
def kN.kept (h:kN w)(c:∀x,x<=zq.globals.size->w'.heap[x]? =w.heap[x]?):kN w':=λx a=>by rw[c x a];exact⟨(h x a).1,⟨λd=>(h x a).2.1.1 (d.same (c x a).symm),λe=>(iN (c 0 (zBu _))).2.trans ((h x a).2.1.2 e)⟩,(h x a).2.2⟩
def kN.sound (h:kN w)(a:fD w):vE w:=⟨a.iI 0 (aC aP 1779033703) (by kernel_rfl),(h 0 (zBu _)).2.1.2 rfl⟩
def CS.cell (h:CS w C){x}(a:C x):dD w x:=by obtain⟨z,o,i,v,g,c,d,_⟩:=h x a;exact⟨z,o,i,v,g,c,d⟩
def CS.down (h:CS w C)(b)(z o)(i v g)(hs)(f:C b)(d:aX w b z o i v g hs)(c)(e:z=aA c\/o=aA c):C c:=by obtain⟨m,p,q,n,r,a,l,_,j⟩:=h b f;obtain⟨rfl,rfl,_⟩:=eC d l;exact j c e
def CS.kept (h:CS w C)(c:∀x,C x->w'.heap[x]? =w.heap[x]?):CS w' C:=λx a=>by obtain⟨z,o,i,v,g,d,j,f,e⟩:=h x a;exact⟨z,o,i,v,g,d,j.same (c x a),f.same (c x a),e⟩
def eL.kept {p:Option Nat}{us:List bJ}{d:Nat}(h:eL k w p us d)(l:CS w C)(c:∀b,p=aA b->C b)(e:∀x,C x->w'.heap[x]? =w.heap[x]?):eL k w' p us d:=
 h.stay (G:=C) l.down (λb z o i v g a j f=>⟨a,f.same (e b j)⟩) c
def fD.kept (h:fD w)(hs:w.heap.size<=w'.heap.size)(a:∀x,x<=zq.globals.size->w'.heap[x]? =w.heap[x]?):fD w':=by
 obtain⟨f,e⟩:=FV;refine⟨⟨zAd h.mF.1 hs,λj d=> ?_⟩,zAd h.lt hs,λj v c=> ?_⟩
 .rw[World.cell?_of_block (a _ e)];exact h.mF.2 j d
 .rw[World.cell?_of_block (a _ f)];exact h.iI j v c
def cQ.je (h:cQ w t k room b cap S):∃cs,w.heap[t]? =aA (aJ cs 168 (0,0)):=by obtain⟨R,c,a,_⟩:=h.at';exact⟨_,a⟩
def cQ.kv (h:cQ w t k room b cap S):∃cs,w.heap[b]? =aA (aJ cs 264 (0,0)):=by obtain⟨C,c,a,_⟩:=h.row;exact⟨_,a⟩
def cQ.Qv (h:cQ w t k room b cap S):t<w.heap.size:=by obtain⟨cs,h⟩:=h.je;exact(zAa.1 h).1
def cQ.blt (h:cQ w t k room b cap S):b<w.heap.size:=by obtain⟨cs,h⟩:=h.kv;exact(zAa.1 h).1
def cQ.tb (h:cQ w t k room b cap S):t≠b:=λe=>by obtain⟨cs,d⟩:=h.kv;obtain⟨f,a⟩:=h.je;rw[e,d]at a;injection a with a;injection a with _ c;revert c;decide
def cQ.less {room':Nat}(h:cQ w t k room b cap S)(a:room'<=room):cQ w t k room' b cap S:=by obtain⟨R,c,d1,d,d3⟩:=h.at';exact⟨h.k1,h.k2,h.gK,h.iH,h.DJ,h.OQ,⟨R,c,d1,by omega,d3⟩,h.row,h.st,h.len,h.one⟩
def cQ.kept (h:cQ w t k room b cap S)(hs:w.heap.size<=w'.heap.size)(d:∀x,x<=zq.globals.size\/x=t\/x=b\/dD w x->w'.heap[x]? =w.heap[x]?):cQ w' t k room b cap S:=by
 obtain⟨C,j,c1,c2,c3,c4,c5,c6,y,m,v,u⟩:=h.row;obtain⟨R,c,d1,s,d3⟩:=h.at';have g:∀x,C x->w'.heap[x]? =w.heap[x]? :=λx f=>d x (aI (aI (aI (c5.cell f))));refine⟨h.k1,h.k2,h.gK.kept λx f=>d x (aH f),h.iH.kept hs λx f=>d x (aH f),h.DJ,h.OQ,⟨R,c,(d t (aI (aH rfl))).trans d1,s,d3⟩,⟨C,j,by rw[d b (aI (aI (aH rfl)))];exact c1,c2,c3,c4,c5.kept g,c6,λi us hi=> ?_,m,v,u.kept g (World.cell?_of_block (a:=⟨t,5,aB⟩) (d t (aI (aH rfl))))⟩,h.st,h.len,h.one⟩;obtain⟨p,l,r⟩:=y i us hi;refine⟨p,l,r.kept c5 (λb q=> ?_) g⟩;obtain⟨n,e,o⟩:=c6 _ (by rw[zDm];exact zBj l);subst q;cases n with
 |none=>cases e
 |some z=>cases e;exact o _ rfl
def cQ.below {B:Nat}(h:cQ w t k room b cap S)(c:Below B w w')(d:w.heap.size<=B):cQ w' t k room b cap S:=
 h.kept c.size λx a=>c.block x (zAd (by
  obtain a|rfl|rfl|a:=a;{have:=h.DJ;have:=h.Qv;omega};{exact h.Qv};{exact h.blt}
  .exact a.lt) d)
def dD.ne {x y}(h:dD w x){cs ty fr}(c:w.heap[y]? =aA (aJ cs ty fr))(a:ty≠272):x≠y:=λe=>by subst e;obtain⟨_,_,_,_,_,_,h⟩:=h;obtain⟨f,h⟩:=h.at';rw[c]at h;injection h with h;injection h with _ d;exact a d
def cQ.other {x:Nat}{cs:zA}{ty:zD}{fr:Nat×Nat}(h:cQ w t k room b cap S)(f:w.grownBy w' (aA x))(g:w.heap[x]? =aA (aJ cs ty fr))(c:ty≠272/\ty≠168/\ty≠264)(hl:zq.globals.size<x):cQ w' t k room b cap S:=
 h.kept f.size λy d=>by obtain d|rfl|rfl|d:=d;{exact f.block y (by have:=h.DJ;have:=h.Qv;omega) (λe=>by injection e with e;omega)};{refine f.block _ h.Qv (λe=> ?_);injection e with e;subst e;obtain⟨j,a⟩:=h.je;rw[g]at a;injection a with a;injection a with _ i;exact c.2.1 i};{refine f.block _ h.blt (λe=> ?_);injection e with e;subst e;obtain⟨j,a⟩:=h.kv;rw[g]at a;injection a with a;injection a with _ i;exact c.2.2 i};{refine f.block _ d.lt (λe=> ?_);injection e with e;exact d.ne g c.1 e}
def MH {D a}(h:D a.block):bU (cC D) a a:=⟨⟨rfl,h⟩,rfl,rfl⟩
def WO {D v}(h:∀a,v=aA a->D a.block)(n c):bG Qw.Al (cC D) (aK v n c) (aK v n c):=by
 cases v with
 |none=>exact .slice .none n c
 |some a=>exact .slice (.some (MH (h a rfl))) n c
def EV {D p}(h:∀b,p=aA b->D b):bG Qw.Al (cC D) (ptr p) (ptr p):=by
 cases p with
 |none=>exact .pointer .none
 |some b=>exact .pointer (.some (MH (h b rfl)))
def MO {D cs}(h:∀x∈cs.toList,bG Qw.Al (cC D) x x):aZ Qw.Al (cC D) cs cs:=⟨rfl,λi v d c a=>by rw[c]at a;injection a with a;subst a;exact h v (by rw[zDm];exact zBj c)⟩
def Gx (t b:Nat)(C:zP):zP:=λx=>x<=zq.globals.size\/x=t\/x=b\/C x
def Yt {n:Nat}{x1 x4 c:Int}{cur:zA}(k1:1<=k)(k2:k<=32)(D:kN w)(J:fD w)(DJ:zq.globals.size<t)(OQ:zq.globals.size<b)(r:cG w t (aC aD k) (aC aD x1) (aL ⟨(dg k [0]).toArray⟩) (aK (aA ⟨b,0,aB⟩) n cap) (aC aD x4) c)(q:w.heap[b]? =aA (aJ cur 264 (0,0)))(H:CS w C)(s:∀x∈cur.toList,mQ C x):rF k t (Gx t b C) w:=by
 have A:∀x,x<=zq.globals.size->Gx t b C x:=λx h=>aH h;have bT:=r.lt;refine⟨k1,k2,⟨⟨λl d=>by rw[l.1,d.1],λl _=>l.1,λx h=>⟨rfl,A x h⟩⟩,by omega,λx h=> ?_⟩,λx h=> ?_,aI (aH rfl),?_,J,λx z o i v g u h E=> ?_⟩
 .by_cases pT:x<=zq.globals.size
  .obtain⟨c,ty,fr,l,d,B,K⟩|⟨o,l,d⟩:=(D x pT).2.2
   .exact aH ⟨c,ty,fr,l,d _ A,B,K⟩
   .exact aI ⟨pT,o,l,d⟩
  .left;obtain h|rfl|rfl|h:=h
   .exact absurd h pT
   .refine⟨_,_,_,r,MO λy f=> ?_,λi m hi=> ?_,zBu _⟩
    .simp only[zAg,zAr,zCd]at f;obtain rfl|rfl|rfl|rfl|rfl|rfl:=f
     .exact .int _ _
     .exact .int _ _
     .exact .string _
     .exact WO (λa G=>by injection G with G;subst G;exact aI (aI (aH rfl))) _ _
     .exact .int _ _
     .exact .int _ _
    .have:=zBj hi;simp at this
   .refine⟨_,_,_,q,MO λy f=> ?_,λi m hi=> ?_,zBu _⟩
    .obtain⟨p,rfl,I⟩:=s y f;exact EV λb q=>aI (aI (aI (I b q)))
    .obtain⟨p,e,_⟩:=s _ (by rw[zDm];exact zBj hi);cases p<;>cases e
   .obtain⟨z,o,i,v,g,u,l,⟨L,d⟩,B⟩:=H x h;obtain⟨fr,l⟩:=l.at';rw[d]at l;cases l;refine⟨_,_,_,d,MO λy f=> ?_,λj m hi=> ?_,zBu _⟩
    .simp only[jB,zAg,zAr,zCd]at f;obtain rfl|rfl|rfl|rfl|rfl|rfl:=f
     .exact EV λb q=>aI (aI (aI (B b (aH q))))
     .exact EV λb q=>aI (aI (aI (B b (aI q))))
     .exact .string _
     .exact .string _
     .exact .string _
     .exact .int _ _
    .have:=zBj hi;rw[<-zDm]at this;simp only[jB,zAg,zAr,zCd]at this;obtain e|e|e|e|e|e:=this
     .cases z<;>cases e
     .cases o<;>cases e
     all_goals cases e
 .rintro⟨y,f⟩;by_cases pT:x<=zq.globals.size
  .exact(D x pT).1 ⟨y,f⟩
  .obtain h|rfl|rfl|h:=h
   .exact absurd h pT
   .unfold cG at r;rw[f]at r;cases r
   .rw[f]at q;cases q
   .obtain⟨z,o,i,v,g,u,_,⟨L,d⟩,_⟩:=H x h;rw[f]at d;cases d
 .exact⟨bT,(bC r 0).trans rfl,(bC r 2).trans rfl⟩
 .by_cases pT:x<=zq.globals.size
  .exact absurd ⟨z,o,i,v,g,u,E⟩ (D x pT).2.1.1
  .obtain h|rfl|rfl|h:=h
   .exact absurd h pT
   .exact absurd rfl (r.ne E)
   .exact absurd rfl (dD.ne ⟨z,o,i,v,g,u,E⟩ q (by decide))
   .obtain⟨z,o,i,v,g,u,_,d,_⟩:=H x h;exact d
end
section
variable {w w1 w':zW}{t b k d lo hi:Nat}{x0 x1 x2 x3 x4:zY}{c:Int}{z o p:Option Nat}{i v g:zB}{hs:Int}{C:zP}{us:List bJ}{rows:List (Nat×ByteArray)}
def pN.hl {D all n}(m:1<=k)(l:k<=32)(h:pN k w D us all n b)(f:Hl t w w'):pN k w' D us all n b:=by obtain⟨z,o,i,v,hs,j⟩:=h.new;obtain⟨a,e⟩:=f.cell _ _ _ _ _ _ _ j;obtain⟨u,lo,hi,r,t1,t2⟩:=h.tree;exact⟨h.deep,h.Qj,⟨z,o,i,v,a,e⟩,u,lo,hi,r,t1.hl m l f,t2⟩
def Hl.other (j:Hl t w w')(h:cG w t x0 x1 x2 x3 x4 c){y:Nat}{cs ty fr}(a:w.heap[y]? =aA (aJ cs ty fr))(q:ty≠272)(m:ty≠168):w'.heap[y]? =w.heap[y]? :=by refine j.block y (zAa.1 a).1 (λe=> ?_) λz o i v g hs f=>dD.ne ⟨z,o,i,v,g,hs,f⟩ a q rfl;subst e;unfold cG at h;rw[a]at h;injection h with h;injection h with _ l;exact m l
def qA.hl {D ch}(y:1<=k)(r:k<=32)(h:qA k t D us ch w)(j:Hl t w w')(x:cG w t x0 x1 x2 x3 x4 c):qA k t D us ch w':=by
 obtain⟨q,F,cp,all,e,E,B,A,g4,g5,g6⟩:=h;have l:∀a,q=aA a->w'.heap[a.block]? =w.heap[a.block]? :=λa f=>by obtain⟨cur,s⟩:=g5 a f;exact j.other x s (by decide) (by decide)
 refine⟨q,F,cp,all,e,E,B,A,g4.kept j.size l,λa f=> ?_,λb u=> ?_⟩
 .rw[l a f];exact g5 a f
 .obtain⟨n,m⟩:=g6 b u;exact⟨n,m.hl y r j⟩
def Ao {x:zY}(a:w.cell? ⟨0,0,aB⟩=aA x)(f:aX (cS w) b z o i v g hs):b≠0:=λe=>by subst e;obtain⟨cs,ty,fr,l,j⟩:=cell0 a;obtain⟨bT,_⟩:=zAa.1 j;have h:=f.c0;unfold World.cell? cS at h;dsimp only at h;rw[jP _ _ l]at h;simp[bT]at h;cases z<;>cases h
def Hl.un (m:Fl w)(x:t≠0)(a:Hl t w w'):Hl t (cS w) (cS w'):=by
 have A:w'.heap[0]? =w.heap[0]? :=a.block 0 (kL m) (zDj x) λz o i v g hs f=>by have j:=f.c0;rw[show w.cell? ⟨0,0,aB⟩=_ from m]at j;cases z<;>cases j
 have l:(cS w').heap[0]? =(cS w).heap[0]? :=by obtain⟨cs,ty,fr,u,_⟩:=cell0 m;unfold cS;rw[jP _ _ u,jP _ _ (A.trans u)]
 refine⟨a.os,a.tape,a.output,?_,λb h r y=> ?_,λb z o i v g hs f=> ?_,λb h=> ?_⟩
 .unfold cS;rw[kV,kV];exact a.size
 .by_cases e:b=0
  .subst e;exact l
  .unfold cS at h⊢;rw[kV]at h;rw[gV _ _ e,gV _ _ e];exact a.block b h r λz o i v g hs f=>y z o i v g hs ⟨by unfold cS;rw[gV _ _ e];exact f.at'⟩
 .have e:=Ao m f;obtain⟨q,j⟩:=a.cell b z o i v g hs ⟨by rw[<-gV w _ e];exact f.at'⟩;exact⟨q,⟨by unfold cS;rw[gV _ _ e];exact j.at'⟩⟩
 .by_cases e:b=0
  .subst e;obtain⟨cs,h⟩:=h;exact⟨cs,l.trans h⟩
  .obtain⟨cs,h⟩:=h;unfold cS at h⊢;rw[gV _ _ e]at h;obtain⟨s,j⟩:=a.thaw b ⟨cs,h⟩;exact⟨s,by rw[gV _ _ e];exact j⟩
def cG.un (h:t≠0):cG (cS w) t x0 x1 x2 x3 x4 c↔cG w t x0 x1 x2 x3 x4 c:=by unfold cG cS;rw[gV _ _ h]
def qA.settle {D ch}(h:qA k t D us ch w):Go.settle (.panicking ch)= .panicking ch:=by obtain⟨q,a,cp,all,rfl,_⟩:=h;rfl
end
structure iG (k t b cap n:Nat)(C:zP)(cur:zA)(x1 x4 c:Int)(w:zW):Prop where
 gK:kN w
 iH:fD w
 tr:cG w t (aC aD k) (aC aD x1) (aL ⟨(dg k [0]).toArray⟩) (aK (aA ⟨b,0,aB⟩) n cap) (aC aD x4) c
 rW:w.heap[b]? =aA (aJ cur 264 (0,0))
 cs:CS w C
section
variable {w w':zW}{t b k cap n:Nat}{x1 x4 c c':Int}{C C':zP}{cur:zA}{all:List (Nat×ByteArray)}
def kN.hl (h:kN w)(f:Hl t w w')(j:zq.globals.size<t)(l:t<w.heap.size):kN w':=h.kept λx a=>f.block x (by omega) (by omega) λz o i v g hs e=>(h x a).2.1.1 ⟨z,o,i,v,g,hs,e⟩
def kN.noCell (h:kN w){x:Nat}(a:x<=zq.globals.size):¬dD w x:=(h x a).2.1.1
def iG.sound (h:iG k t b cap n C cur x1 x4 c w):vE w:=h.gK.sound h.iH
def iG.fg (h:iG k t b cap n C cur x1 x4 c w)(a:zq.globals.size<t):Fg t 1779033703 w:=⟨by omega,h.sound.cell⟩
def iG.hl (h:iG k t b cap n C cur x1 x4 c w)(a:Hl t w w')(f:zq.globals.size<t)(l:cG w' t (aC aD k) (aC aD x1) (aL ⟨(dg k [0]).toArray⟩) (aK (aA ⟨b,0,aB⟩) n cap) (aC aD x4) c')(m:CS w' C'):iG k t b cap n C' cur x1 x4 c' w':=
 ⟨h.gK.hl a f h.tr.lt,h.iH.kept a.size λx e=>a.block x (by have:=h.tr.lt;omega) (by omega) λz o i v g hs j=>h.gK.noCell e ⟨z,o,i,v,g,hs,j⟩,l,(a.other h.tr h.rW (by decide) (by decide)).trans h.rW,m⟩
def iG.below {B:Nat}(h:iG k t b cap n C cur x1 x4 c w)(a:Below B w w')(e:w.heap.size<=B)(f:zq.globals.size<t):iG k t b cap n C cur x1 x4 c w':=
 h.hl (.below a e) f (h.tr.below a e) (h.cs.hl (t:=t) (.below a e))
def CS.Hc (h:CS w C)(e:AG all w w'):CS w' C:=λx f=>by obtain⟨z,o,i,v,g,hs,m,l,j⟩:=h x f;obtain⟨q,a⟩:=e.cell _ _ _ _ _ _ _ m;exact⟨z,o,i,v,q,hs,a,e.thaw _ l,j⟩
def iG.Hc (h:iG k t b cap n C cur x1 x4 c w)(j:AG all w w')(s:zq.globals.size<t)(a:∀x∈all,dD w x.1):iG k t b cap n C cur x1 x4 c w':=by have q:∀x,x<=zq.globals.size->w'.heap[x]? =w.heap[x]? :=λx r=>j.block x (by have:=h.tr.lt;omega) λy f e=>h.gK.noCell r (e▸a y f);have l:=j.block t h.tr.lt λy f e=>(a y f).ne h.tr (by decide) e;have m:=j.block b (zAa.1 h.rW).1 λy f e=>(a y f).ne h.rW (by decide) e;exact⟨h.gK.kept q,h.iH.kept j.size q,l.trans h.tr,m.trans h.rW,h.cs.Hc j⟩
def iG.yh (h:iG k t b cap n C cur x1 x4 c w)(k1:1<=k)(k2:k<=32)(DJ:zq.globals.size<t)(OQ:zq.globals.size<b)(a:∀x∈cur.toList,mQ C x):rF k t (Gx t b C) w:=Yt k1 k2 h.gK h.iH DJ OQ h.tr h.rW h.cs a
end
open Go Go.RowKit
def rO (S:zY->Prop)(w:zW)(v:zY):Prop:=∀g,v.ownBlock=aA g->∀cs e fr,w.heap[g]? =aA (aJ cs e fr)->∀x∈cs.toList,S x
def rO.of {S w v g cs e fr}(d:v.ownBlock=aA g)(f:w.heap[g]? =aA (aJ cs e fr))(h:∀x∈cs.toList,S x):rO S w v:=λk c j l i b=>by rw[d]at c;injection c with c;subst c;rw[f]at b;injection b with b;injection b with h1;subst h1;exact h
def rO.kept {S w w' v}(h:rO S w v)(c:∀g,v.ownBlock=aA g->w'.heap[g]? =w.heap[g]?):rO S w' v:=λg b cs e fr d=>h g b cs e fr (by rw[<-c g b];exact d)
def pL {S:zY->Prop}{z}(h:∀x∈z.toList,S x)(n):∀x∈(Builtin.zeroCells z n).toList,S x:=by
 intro x c;simp only[Builtin.zeroCells,zFu,Array.toList_range,zBl,zCi]at c;obtain⟨i,hi,rfl⟩:=c;have b:0<z.size:=by obtain b|b:=zEe z.size;{rw[b,Nat.mul_zero]at hi;omega};{exact b}
 have bT:=zGj i b;rw[zEd z _ bT];exact h _ (by simp)
section
variable {P:zZ}(w:zW)
def sF (S:zY->Prop)(base)(t ty e)(i:TypeInfo)(z)(size bytes)(O:P.underlying t=aA (.slice e))(hi:P.info? e=aA i)(W:i.zero=aA z)
  (s:i.size=size) (U:i.bytes=bytes) (L:z.cells.size=size) (X:0<size) (M:∀x∈z.cells.toList,S x)
  (v) (n) (xs) (h:w.ownsRow base e size v n xs) (r:rO S w v)
  (a) (m c) (news) (hl:news.length=m*size) (p:∀j u,news[j]? =aA u->w.cell? (a.add j)=aA u) (h1:∀u∈news,u.oneCell'=aF) (D:∀u∈news,S u)
  (hm:0<m) (G:n+m<=maxLen) (q:(n+m)*bytes<=140737488355328) (B:base<=w.heap.size):
  ∃g cap H,(Builtin.append_ #[t,t] ty #[v,aK (aA a) m c]).run P w= .ok (aK (aA ⟨g,0,aB⟩) (n+m) cap) H/\H.ownsRow base e size (aK (aA ⟨g,0,aB⟩) (n+m) cap) (n+m) (xs++news)/\w.grownBy H v.ownBlock/\
   (v.ownBlock=aA g\/g=w.heap.size)/\rO S H (aK (aA ⟨g,0,aB⟩) (n+m) cap):=by
 subst s;subst U;have I:n+m<=9223372036854775807:=by simp only[maxLen]at G;omega
 have hlen:(xs++news).length=(n+m)*i.size:=by rw[zAc,h.1,hl,aFa]
 have N:∀x∈xs,S x:=by intro x b;obtain⟨_,h0⟩|⟨g,cap,cur,rfl,_,y,_,_,_,f⟩:=h.2;{have:=h.1;rw[h0,zFi]at this;rw[zBg this]at b;cases b};{rw[<-f]at b;exact r g rfl cur e (0,0) y x (zEm b)}
 have grown:∀(old:Nat),old<n+m->∀(row:Option Nat),
   (w.drew.alloc (aJ (xs.toArray++news.toArray++Builtin.zeroCells z.cells (grownCap w (n+m) old e-(n+m))) e)).ownsRow base e i.size
    (aK (aA ⟨w.heap.size,0,aB⟩) (n+m) (grownCap w (n+m) old e)) (n+m) (xs++news)/\
   w.grownBy (w.drew.alloc (aJ (xs.toArray++news.toArray++Builtin.zeroCells z.cells (grownCap w (n+m) old e-(n+m))) e)) row/\
   rO S (w.drew.alloc (aJ (xs.toArray++news.toArray++Builtin.zeroCells z.cells (grownCap w (n+m) old e-(n+m))) e)) (aK (aA ⟨w.heap.size,0,aB⟩) (n+m) (grownCap w (n+m) old e)):=by
  intro old ho row
  have R:=grownCap_ge w (n+m) old e
  have A:=grownCap_le_maxLen w (n+m) old e G
  refine⟨⟨hlen,aI ⟨w.heap.size,_,_,rfl,B,zGu w.drew _,R,A,?_,?_⟩⟩,⟨rfl,rfl,rfl,by simp,λk J _=>(by first|exact heap_alloc_old w.drew _ k J|exact heap_alloc_old w.drew _ J)⟩,rO.of rfl (zGu w.drew _) ?_⟩
  .simp only[zEp,zAp,size_zeroCells,L,h.1,hl,<-aFa];congr 1;omega
  .simp only[aE6,zBo];rw[<-zBo,<-hlen];exact List.take_left
  .intro x b;simp only[aE6,zAh]at b;obtain(b|b)|b:=b
   .exact N x b
   .exact D x b
   .exact pL M _ x b
 obtain⟨rfl,rfl⟩|⟨g,cap,cur,rfl,V,y,Y,A,T,f⟩:=h.2
 .have b:=zBg (by simpa using h.1);subst b;have C:=run_append_nil w t ty e i z O hi W a m c news hl p (by omega) (by omega) (by have Z:=q;simp only[zBd]at Z;omega);have d:=grown 0 (by omega) (Value.ownBlock (aK aB 0 0));simp only[zBd,zCk,zCe]at d⊢;exact⟨_,_,_,C,d.1,d.2.1,aI rfl,d.2.2⟩
 .by_cases l:n+m<=cap
  .have F:n*i.size+news.length<=cur.size:=by{rw[hl,T,<-aFa];exact aFb _ l};have C:=run_append_room w t ty e i O hi g n cap cur y a m c news hl p h1 l F;refine⟨_,_,_,C,⟨hlen,aI ⟨g,cap,_,rfl,V,setRow_heap w g cur _ e _ y,l,A,?_,?_⟩⟩,⟨rfl,rfl,rfl,by simp,λk _ J=>setRow_other w g k _ (λe=>J (by simp[Value.ownBlock,e]))⟩,aH rfl,rO.of rfl (setRow_heap w g cur _ e _ y) ?_⟩;{simp only[zAp,zAc,zBf,zCn,zDh];omega};{rw[f,<-hlen];exact List.take_left}
   .intro x b;simp only[zAh]at b;obtain(b|b)|b:=b
    .exact r g rfl cur e (0,0) y x (zEm b)
    .exact D x b
    .exact r g rfl cur e (0,0) y x (zEn b)
  .have holds:=h.cells rfl;have C:=run_append_grow w t ty e i z O hi W ⟨g,0,aB⟩ n cap xs h.1 holds a m c news hl p (by omega) (by omega) (growslice_fits (by omega) q);have d:=grown cap (by omega) (Value.ownBlock (aK (aA ⟨g,0,aB⟩) n cap));exact⟨_,_,_,C,d.1,d.2.1,aI rfl,d.2.2⟩
def IW (s ty elem)(i:TypeInfo)(z)(g o n cap)(cur)(t)
  (d:P.underlying s=aA (.slice elem)) (hi:P.info? elem=aA i) (c:i.zero=aA z) (j:0<n)
  (e:w.heap[g]? =aA (aJ cur t (0,0))) (h:o+n*z.cells.size<=cur.size) (f:∀v∈z.cells.toList,v.oneCell'=aF):
  (Builtin.clear_ #[s] ty #[aK (aA ⟨g,o,aB⟩) n cap]).run P w=
   .ok (.tuple #[]) (w.setRow g (cur.toList.take o++(Builtin.zeroCells z.cells n).toList++cur.toList.drop (o+n*z.cells.size)).toArray):=by
 have b:=run_storeCells_at P g o t (Builtin.zeroCells z.cells n).toList 0 cur w e (by simpa [size_zeroCells]using h) (pL f n);obtain⟨m,rfl⟩:∃m,n=m+1:=⟨n-1,by omega⟩;simp[Builtin.clear_,run_underlying d,zeroValue,typeInfo,hi,c,b,size_zeroCells]
end
section
variable {P:zZ}{w:zW}{ops:zQ}{rest:List Oper}{o:Oper}{a:Act}{K:Act->zW->Prop}{Q:zX}{E:Prop}
def IK (s x)(t b)(e:o.op= .call {callee:= .builtin .append,args:= #[s,x],argTypes:= #[t,b]})(v u)(hs:a.eval s=v)(c:a.eval x=u){v' w'}
  (d:(Builtin.append_ #[t,b] o.type #[v,u]).run P w= .ok v' w') (h:K (a.put o.dst v') w'):o.wp P a w K Q:=by
 unfold Oper.wp execOp;simp only[e,resolve,invoke,builtin,Sem.run_bind,Sem.run_pure,aE8,zFt,zEf,List.map_nil,hs,c,d];exact h
def AK (s x)(t b)(e:o.op= .call {callee:= .builtin .copy,args:= #[s,x],argTypes:= #[t,b]})(v u)(hs:a.eval s=v)(c:a.eval x=u){v' w'}
  (d:(Builtin.copy_ #[t,b] o.type #[v,u]).run P w= .ok v' w') (h:K (a.put o.dst v') w'):o.wp P a w K Q:=by
 unfold Oper.wp execOp;simp only[e,resolve,invoke,builtin,Sem.run_bind,Sem.run_pure,aE8,zFt,zEf,List.map_nil,hs,c,d];exact h
def Io (c:o.guard=aB)(s x:Operand)(t b:zD)(f:o.op= .call {callee:= .builtin .copy,args:= #[s,x],argTypes:= #[t,b]})(v u:zY)(hs:a.eval s=v)(d:a.eval x=u){v':zY}{w':zW}
  (e:(Builtin.copy_ #[t,b] o.type #[v,u]).run P w= .ok v' w') (h:wpList P ops Q rest (a.put o.dst v') w'):wpList P ops Q (o::rest) a w:=
 wpList_plain c λ_ g=>AK s x t b f v u hs d e (g _ _ h)
def jC (c:o.guard=aB)(s x)(t b)(g:o.op= .call {callee:= .builtin .append,args:= #[s,x],argTypes:= #[t,b]})(v u)(hs:a.eval s=v)(d:a.eval x=u){v' w'}
  (f:(Builtin.append_ #[t,b] o.type #[v,u]).run P w= .ok v' w') (h:K (a.put o.dst v') w'):if Region.wanted o (yielded ops a.tmps)=aF then Oper.wp P o a w K Q else E:=by
 have e:Region.wanted o (yielded ops a.tmps)=aF:=by simp[Region.wanted,c]
 rw[zAz e];exact IK s x t b g v u hs d f h
def Qc (c:o.guard=aB)(s x)(t b)(g:o.op= .call {callee:= .builtin .copy,args:= #[s,x],argTypes:= #[t,b]})(v u)(hs:a.eval s=v)(d:a.eval x=u){v' w'}
  (f:(Builtin.copy_ #[t,b] o.type #[v,u]).run P w= .ok v' w') (h:K (a.put o.dst v') w'):if Region.wanted o (yielded ops a.tmps)=aF then Oper.wp P o a w K Q else E:=by
 have e:Region.wanted o (yielded ops a.tmps)=aF:=by simp[Region.wanted,c]
 rw[zAz e];exact AK s x t b g v u hs d f h
end
def over (c:zV)(o:Nat)(a:zV):zV:=c.take o++a++c.drop (o+a.length)
def lQ {c o news}(h:o+news.length<=c.length):(over c o news).length=c.length:=by unfold over;simp only[zAc,zBf,zCn];omega
def Lh {c o news}(h:o+news.length<=c.length){m}(a:m<=o):(over c o news).take m=c.take m:=by unfold over;rw[zBo,zFs (by rw[zBf];omega),List.take_take,aFc a]
def Ew {c o news}(h:o+news.length<=c.length){m}(a:m=o+news.length):(over c o news).take m=c.take o++news:=by unfold over;rw[zFs (by rw[zAc,zBf];omega),zCx (by rw[zAc,zBf];omega)]
def SD {c o news x}(h:x∈over c o news):x∈c\/x∈news:=by
 obtain h|h:=zAh.1 h
 .obtain h|h:=zAh.1 h
  .exact aH (zEm h)
  .exact aI h
 .exact aH (zEn h)
def SE {c xs zs p q m}(h:c.take m=xs)(i:p+q<=m)(j:m<=c.length)(f:zs.length=q):
  (over (over c p (xs.drop (p+q))) (m-q) zs).take (m-q)=xs.take p++xs.drop (p+q):=by
 have b:xs.length=m:=by rw[<-h,zBf];omega
 have a:p+(xs.drop (p+q)).length<=c.length:=by rw[zCn];omega
 have d:m-q+zs.length<=(over c p (xs.drop (p+q))).length:=by rw[lQ a];omega
 rw[Lh d (zAb _),Ew a (by rw[zCn];omega)];congr 1;rw[<-h,List.take_take,aFc (by omega)]
def eQ (S:zY->Prop)(w:zW)(base:Nat)(e:zD)(size:Nat)(v:zY)(n:Nat)(xs:zV):Prop:=w.ownsRow base e size v n xs/\rO S w v
section
variable {S:zY->Prop}{w w':zW}{base:Nat}{e:zD}{size:Nat}{v:zY}{n g cap:Nat}{xs:zV}
def eQ.kept (h:eQ S w base e size v n xs)(b:∀g,v.ownBlock=aA g->w'.heap[g]? =w.heap[g]?):eQ S w' base e size v n xs:=by
 refine⟨?_,h.2.kept b⟩;obtain⟨⟨d,a⟩,_⟩:=h;refine⟨d,?_⟩;obtain a|⟨g,cap,cur,rfl,hb,c,r⟩:=a
 .exact aH a
 .exact aI ⟨g,cap,cur,rfl,hb,by rw[b g rfl];exact c,r⟩
def eQ.lt (h:eQ S w base e size v n xs):∀k,v.ownBlock=aA k->base<=k/\k<w.heap.size:=World.ownsRow.lt h.1
def eQ.below {B:Nat}(h:eQ S w base e size v n xs)(b:Below B w w')(c:w.heap.size<=B):eQ S w' base e size v n xs:=
 h.kept λg a=>b.block g (zAd (h.lt g a).2 c)
def eQ.alloc (h:eQ S w base e size v n xs)(o):eQ S (w.alloc o) base e size v n xs:=h.kept λg a=>by first|exact heap_alloc_old w o g (h.lt g a).2|exact heap_alloc_old w o (h.lt g a).2
def eQ.row (h:eQ S w base e size (aK (aA ⟨g,0,aB⟩) n cap) n xs):
  ∃c:zA,w.heap[g]? =aA (aJ c e (0,0))/\base<=g/\n<=cap/\cap<=maxLen/\c.size=cap*size/\c.toList.take (n*size)=xs/\∀x∈c.toList,S x:=by
 obtain⟨e,_⟩|⟨l,d,c,e,hb,b,h1,j,i,f⟩:=h.1.2
 .cases e
 .injection e with a _ k;iterate 2 (injection a with a)
  subst a k;exact⟨c,b,hb,h1,j,i,f,h.2 g rfl c _ _ b⟩
def eQ.of (cur:zA)(hh:w.heap[g]? =aA (aJ cur e (0,0)))(c:base<=g)(b:n<=cap)(f:cap<=maxLen)(a:cur.size=cap*size)(h:cur.toList.take (n*size)=xs)(d:∀x∈cur.toList,S x):
  eQ S w base e size (aK (aA ⟨g,0,aB⟩) n cap) n xs:=
 ⟨⟨by rw[<-h,zBf,zDh,a];exact aFc (aFb _ b),aI ⟨g,cap,cur,rfl,c,hh,b,f,a,h⟩⟩,rO.of rfl hh d⟩
end
def kI (w:zW)(g)(cs):w.grownBy (w.setRow g cs) (aA g):=⟨rfl,rfl,rfl,by simp,λk _ h=>setRow_other w g k _ (λe=>h (by rw[e]))⟩
def xK (w:zW)(row:Option Nat):w.grownBy w row:=⟨rfl,rfl,rfl,zAb _,λ_ _ _=>rfl⟩
def NV (w:zW)(row):w.grownBy w.drew row:=⟨rfl,rfl,rfl,zAb _,λ_ _ _=>rfl⟩
def NT {t z s b}(h:(zq.info? t).map (λi=>(i.zero,i.size,i.bytes))=aA (aA z,s,b)):∃i,zq.info? t=aA i/\i.zero=aA z/\i.size=s/\i.bytes=b:=by
 cases a:zq.info? t with
 |none=>rw[a]at h;cases h
 |some i=>rw[a]at h;simp only[zBi,aEx,aFd]at h;exact⟨i,rfl,h.1,h.2.1,h.2.2⟩
def Cf {S:zY->Prop}{ts e:zD}{it:TypeInfo}{z:zY}(d:zq.underlying ts=aA (.slice e))(ti:zq.info? e=aA it)(Q:it.zero=aA z)(C:it.size=1)(l:z.cells.size=1)(y:∀x,S x->x.oneCell'=aF)(A:∀x∈(Value.cells z).toList,S x)(base g n cap c:Nat)(xs:zV)(w:zW)(J:eQ S w base e 1 (aK (aA ⟨g,0,aB⟩) n cap) n xs)(H:1<=c)(T:c<=n):
  n<=cap/\cap<=maxLen/\∃W k,(∀ty,(Builtin.append_ #[ts,ts] ty #[aK (aA ⟨g,0,aB⟩) 0 cap,aK (if cap=c then aA ⟨g,0,aB⟩else aA ⟨g,c,aB⟩) (n-c) (cap-c)]).run zq w.drew= .ok (aK (aA ⟨g,0,aB⟩) (n-c) cap) W)/\(∀ty,(Builtin.clear_ #[ts] ty #[aK (aA ⟨g,n-c,aB⟩) c (cap-(n-c))]).run zq W= .ok (.tuple #[]) k)/\
   eQ S k base e 1 (aK (aA ⟨g,0,aB⟩) (n-c) cap) (n-c) (xs.drop c)/\w.grownBy k (aA g):=by
 obtain⟨b,F,U,O,N,M,B,L⟩:=J.row;have E:xs.length=n:=by have:=J.1.1;rw[zDw]at this;exact this
 rw[zDw]at M B;have i:b.toList.length=cap:=by rw[zDh,M]
 have t:∀x∈xs,S x:=λx f=>L x (zEm (by rw[B];exact f));have K:(xs.drop c).length=n-c:=by rw[zCn,E]
 have h:0+(xs.drop c).length<=b.toList.length:=by rw[K,i];omega
 obtain⟨W,s⟩:∃W,W=w.drew.setRow g (over b.toList 0 (xs.drop c)).toArray:=⟨_,rfl⟩;have v:W.heap[g]? =aA (aJ (over b.toList 0 (xs.drop c)).toArray e (0,0)):=by rw[s];exact setRow_heap w.drew g b _ e _ F
 have R:∀ty,(Builtin.append_ #[ts,ts] ty #[aK (aA ⟨g,0,aB⟩) 0 cap,aK (if cap=c then aA ⟨g,0,aB⟩else aA ⟨g,c,aB⟩) (n-c) (cap-c)]).run zq w.drew= .ok (aK (aA ⟨g,0,aB⟩) (n-c) cap) W:=λty=>by
  rw[s];have:=λa c' V=>run_append_room (P:=zq) w.drew ts ty e it d ti g 0 cap b F a (n-c) c' (xs.drop c) (by rw[K,C,zDw]) V (λu d=>y u (t u (zEn d))) (by omega) (by rw[zFi,<-zDh];exact h);rw[zFi,zBd]at this;by_cases I:cap=c;{rw[zAz I];refine this _ _ λj u d=> ?_;have:=(zBa.1 d).1;omega}
  .rw[zAv I];refine this _ _ λj u d=> ?_;rw[Addr.add_lit,cell_of_row w.drew g _ b e (0,0) F,<-zBs];rw[zEv,<-B,zCp]at d;split at d
   .exact d
   .cases d
 obtain⟨k,r⟩:∃k,k=W.setRow g (over (over b.toList 0 (xs.drop c)) (n-c) (Builtin.zeroCells (Value.cells z) c).toList).toArray:=⟨_,rfl⟩;have o:(Builtin.zeroCells (Value.cells z) c).toList.length=c:=by rw[zDh,size_zeroCells,l,zDw]
 have G:∀ty,(Builtin.clear_ #[ts] ty #[aK (aA ⟨g,n-c,aB⟩) c (cap-(n-c))]).run zq W= .ok (.tuple #[]) k:=λty=>by
  have:=IW (P:=zq) W ts ty e it z g (n-c) c (cap-(n-c)) _ e d ti Q H v (by rw[l,zDw,zAp,lQ h,i];omega) (λu d=>y u (A u d))
  rw[this,r];congr 2;show(List.take (n-c) _++_++_).toArray=_;unfold over;rw[o,l,zDw]
 have D:n-c+(Builtin.zeroCells (Value.cells z) c).toList.length<=(over b.toList 0 (xs.drop c)).length:=by rw[lQ h,i,o];omega
 refine⟨O,N,W,k,R,G,eQ.of _ (by rw[r];exact setRow_heap W g _ _ e _ v) U (by omega) N ?_ ?_ ?_,?_⟩
 .rw[zAp,lQ D,lQ h,i,zDw]
 .have:=SE (c:=b.toList) (xs:=xs) (zs:=(Builtin.zeroCells (Value.cells z) c).toList) (p:=0) (q:=c) (m:=n) B (by omega) (by rw[i];exact O) o;rw[zDw];simpa using this
 .intro x f;obtain f|f:=SD f
  .obtain f|f:=SD f
   .exact L x f
   .exact t x (zEn f)
  .exact pL A c x f
 .rw[r,s];exact((NV w (aA g)).trans (kI _ _ _)).trans (kI _ _ _)
def Ny {S:zY->Prop}(a:∀x,S x->x.oneCell'=aF)(d:∀x∈(Value.cells (aL ⟨#[]⟩)).toList,S x)(base g n cap c:Nat)(xs:zV)(w:zW)(i:eQ S w base 9 1 (aK (aA ⟨g,0,aB⟩) n cap) n xs)(I:n<=1000000)(m:c<=n):
  Calls zq 65 #[aK (aA ⟨g,0,aB⟩) n cap,aC aD 0,aC aD c] w λe p=>e=aM (aK (aA ⟨g,0,aB⟩) (n-c) cap)/\eQ S p base 9 1 (aK (aA ⟨g,0,aB⟩) (n-c) cap) (n-c) (xs.drop c)/\w.grownBy p (aA g):=by
 obtain⟨G,r,_,J,F,_⟩:=i.row;have i2:(n:Int)<=(cap:Int):=by omega
 have i3:(cap:Int)<=9223372036854775807:=by simp only[maxLen]at F;omega
 have C:(0:Int)<=(c:Int):=by omega
 have B:(c:Int)<=(n:Int):=by omega
 by_cases E:c=0
 .subst E;have k:Hid (eQ S w base 9 1 (aK (aA ⟨g,0,aB⟩) n cap) n xs):=i;clear i a d r;go_enter (Qz.fn func65),ntmps65;go_wp2;go_ret;exact⟨rfl,k.out,xK w _⟩
 .obtain⟨it,ti,q,f,l⟩:=NT (t:=9) (z:=(aL ⟨#[]⟩)) (s:=1) (b:=16) (by kernel_rfl);obtain⟨_,_,K,W,y,D,j,H⟩:=Cf ((Qz.fH 82).trans underlying82) ti q f rfl a d base g n cap c xs w i (by omega) m;have k:Hid (eQ S W base 9 1 (aK (aA ⟨g,0,aB⟩) (n-c) cap) (n-c) (xs.drop c)):=j;have v:Hid (w.grownBy W (aA g)):=H;have A:c<=cap:=by{omega};have o:¬((0:Int)=(c:Int)):=by{omega};have u:((0:Int)==(c:Int))=aG:=by{simpa using o};have i5:n-(n-c)=c:=by{omega};have i6:¬(cap=n-c):=by{omega};have i7:(0:Int)<=((n-c:Nat):Int):=by{omega};have i8:((n-c:Nat):Int)<=(n:Int):=by{omega};have i9:((n-c:Nat):Int).toNat=n-c:=by{omega};clear i a d q f l ti j H r;go_enter (Qz.fn func65),ntmps65;go_wp2_with fail;go_region_law (refine jC rfl _ _ 82 82 rfl _ _ (by simp[Act.eval,Act.put]) (by simp[Act.eval,Act.put]) (y _) ?_);go_wp2;{rename_i h;subst h;go_ret;exact⟨rfl,k.out,v.out⟩};{go_ret;exact⟨rfl,k.out,v.out⟩}
def Nz {S:zY->Prop}(a:∀x,S x->x.oneCell'=aF)(d:∀x∈(Value.cells (.pointer aB)).toList,S x)(base g n cap c:Nat)(xs:zV)(w:zW)(i:eQ S w base 264 1 (aK (aA ⟨g,0,aB⟩) n cap) n xs)(I:n<=1000000)(m:c<=n):
  Calls zq 220 #[aK (aA ⟨g,0,aB⟩) n cap,aC aD 0,aC aD c] w λe p=>e=aM (aK (aA ⟨g,0,aB⟩) (n-c) cap)/\eQ S p base 264 1 (aK (aA ⟨g,0,aB⟩) (n-c) cap) (n-c) (xs.drop c)/\w.grownBy p (aA g):=by
 obtain⟨G,r,_,J,F,_⟩:=i.row;have i2:(n:Int)<=(cap:Int):=by omega
 have i3:(cap:Int)<=9223372036854775807:=by simp only[maxLen]at F;omega
 have C:(0:Int)<=(c:Int):=by omega
 have B:(c:Int)<=(n:Int):=by omega
 by_cases E:c=0
 .subst E;have k:Hid (eQ S w base 264 1 (aK (aA ⟨g,0,aB⟩) n cap) n xs):=i;clear i a d r;go_enter (Qz.fn func220),ntmps220;go_wp2;go_ret;exact⟨rfl,k.out,xK w _⟩
 .obtain⟨it,ti,q,f,l⟩:=NT (t:=264) (z:=(.pointer aB)) (s:=1) (b:=8) (by kernel_rfl);obtain⟨_,_,K,W,y,D,j,H⟩:=Cf ((Qz.fH 166).trans underlying166) ti q f rfl a d base g n cap c xs w i (by omega) m;have k:Hid (eQ S W base 264 1 (aK (aA ⟨g,0,aB⟩) (n-c) cap) (n-c) (xs.drop c)):=j;have v:Hid (w.grownBy W (aA g)):=H;have A:c<=cap:=by{omega};have o:¬((0:Int)=(c:Int)):=by{omega};have u:((0:Int)==(c:Int))=aG:=by{simpa using o};have i5:n-(n-c)=c:=by{omega};have i6:¬(cap=n-c):=by{omega};have i7:(0:Int)<=((n-c:Nat):Int):=by{omega};have i8:((n-c:Nat):Int)<=(n:Int):=by{omega};have i9:((n-c:Nat):Int).toNat=n-c:=by{omega};clear i a d q f l ti j H r;go_enter (Qz.fn func220),ntmps220;go_wp2_with fail;go_region_law (refine jC rfl _ _ 166 166 rfl _ _ (by simp[Act.eval,Act.put]) (by simp[Act.eval,Act.put]) (y _) ?_);go_wp2;{rename_i h;subst h;go_ret;exact⟨rfl,k.out,v.out⟩};{go_ret;exact⟨rfl,k.out,v.out⟩}
def NJ {p q:Option Nat}(h:ptr p=ptr q):p=q:=by cases p<;>cases q<;>first|rfl|(cases h;rfl)|cases h
def iW (w:zW)(t b:Nat):zP:=λx=>x=t\/x=b\/dD w x
section
variable {w w1 w':zW}{t k room b cap n:Nat}{S:List (List bJ)}{C C':zP}{cur:zA}{x1 x4 c:Int}{p:Option Nat}{all:List (Nat×ByteArray)}{F:zP}
def dJ.hl (a:Hl t w w'):dJ (iW w t b) w w':=⟨a.os,a.tape,a.output,a.size,λx m l=>a.block x m (λe=>l (aH e)) λz o i v g f j=>l (aI (aI ⟨z,o,i,v,g,f,j⟩)),λb z o i v g f j=>⟨by obtain⟨d,h⟩:=a.cell b z o i v g f j;exact⟨g,d,h,λ_=>rfl⟩,a.thaw b⟩⟩
def dJ.Hc (a:AG all w w')(d:∀x∈all,∃z o i v hs,aX w x.1 z o i v [] hs):dJ (iW w t b) w w':=⟨a.os,a.tape,a.output,a.size,λx j r=>a.block x j λy m e=>r (aI (aI (by obtain⟨z,o,i,v,hs,f⟩:=d y m;exact e▸⟨z,o,i,v,[],hs,f⟩))),λb z o i v g hs f=>⟨by
 obtain⟨u,h⟩:=a.cell b z o i v g hs f;refine⟨u,hs,h,λs=> ?_⟩;have e:=a.block b f.lt λx j e=>by obtain⟨A,D,E,B,q,l⟩:=d x j;subst e;exact s (eC f l).2.2.2.2.1
 exact(eC h (f.same e)).2.2.2.2.1,a.thaw b⟩⟩
def dJ.step {b'}(h:dJ (iW w t b) w w1)(g:dJ (iW w1 t b') w1 w')(d:b'=b\/w.heap.size<=b'):dJ (iW w t b) w w':=h.then g λx a bT f e=>by
 obtain a|a|a:=a
 .exact f (aH a)
 .obtain d|d:=d
  .exact f (aI (aH (a.trans d)))
  .omega
 .exact f (aI (aI (a.same e.symm)))
def Ld {x}(h:mQ C x):x.oneCell'=aF:=by obtain⟨p,rfl,_⟩:=h;cases p<;>rfl
def KN:∀x∈(Value.cells (.pointer aB)).toList,mQ C x:=λx h=>by simp[Value.cells]at h;subst h;exact⟨aB,rfl,λb e=>by cases e⟩
def De (v:w.heap[b]? =aA (aJ cur 264 (0,0)))(G:n<=cap)(g:cap<=maxLen)(D:cur.size=cap)(h:∀x∈cur.toList,mQ C x)(hl:n<1000)(E:∀b,p=aA b->C b){vb}(B:w.heap[vb]? =aA (aJ #[ptr p] 264 (0,0))):
  ∃f a W d,(∀ty,(Builtin.append_ #[166,166] ty #[aK (aA ⟨b,0,aB⟩) n cap,aK (aA ⟨vb,0,aB⟩) 1 1]).run zq w= .ok (aK (aA ⟨f,0,aB⟩) (n+1) a) W)/\w.grownBy W (aA b)/\(f=b\/f=w.heap.size)/\
   W.heap[f]? =aA (aJ d 264 (0,0))/\n+1<=a/\a<=maxLen/\d.size=a/\(∀x∈d.toList,mQ C x)/\d.toList.take (n+1)=cur.toList.take n++[ptr p]:=by
 obtain⟨it,ti,A,i,l⟩:=RY;have y:eQ (mQ C) w b 264 1 (aK (aA ⟨b,0,aB⟩) n cap) n (cur.toList.take n):=by have:=eQ.of cur v (zAb _) G g (size:=1) (by omega) (by rw[zDw]) h;exact this
 have s:=(zAa.1 v).1;have H:=λty=>sF w (mQ C) b 166 ty 264 it _ 1 8 ((Qz.fH 166).trans underlying166) ti A i l rfl (by omega) KN _ n _ y.1 y.2 ⟨vb,0,aB⟩ 1 1 [ptr p] rfl (λj u I=>by rw[addr_add,zBd,cell_of_row w vb j _ 264 (0,0) B];simpa using I) (λu m=>by rw[zAm.1 m];cases p<;>rfl) (λu m=>by rw[zAm.1 m];exact⟨p,rfl,E⟩) (Nat.succ_pos _) (by simp only[maxLen];omega) (by omega) (by omega)
 obtain⟨f,a,W,M,L,r,q,J⟩:=H 0;have K:=r;have o:eQ (mQ C) W b 264 1 (aK (aA ⟨f,0,aB⟩) (n+1) a) (n+1) (cur.toList.take n++[ptr p]):=⟨L,J⟩;obtain⟨d,Q,T,P,O,R,z,N⟩:=o.row;refine⟨f,a,W,d,λty=>M,K,?_,Q,P,O,by omega,N,by rw[zDw]at z;exact z⟩;obtain e|e:=q
 .exact aH (zAk e).symm
 .exact aI e
def PQ (k:Nat)(w:zW)(cur:zA)(S:List (List bJ)):Prop:=∀(i:Nat) us,S[i]? =aA us->∃p,cur[i]? =aA (ptr p)/\eL k w p us 0
def Lc {cur:zA}(a:∀x∈cur.toList,mQ C x){i:Nat}{p}(h:cur[i]? =aA (ptr p)):∀b,p=aA b->C b:=λb g=>by
 obtain⟨d,e,f⟩:=a _ (by rw[zDm];exact zBj h);subst g;cases d with
 |none=>cases e
 |some j=>cases e;exact f _ rfl
def PQ.hl (e:1<=k)(a:k<=32)(h:PQ k w cur S)(d:Hl t w w'):PQ k w' cur S:=λi us hi=>by obtain⟨p,g,f⟩:=h i us hi;exact⟨p,g,f.hl e a d⟩
def PQ.kept (h:PQ k w cur S)(f:CS w C)(a:∀x∈cur.toList,mQ C x)(d:∀x,C x->w'.heap[x]? =w.heap[x]?):PQ k w' cur S:=λi us hi=>by obtain⟨p,e,g⟩:=h i us hi;exact⟨p,e,g.kept f (Lc a e) d⟩
def Jg {a us}(h:PQ k w cur S)(hl:S.length<=cur.size)(g:a.toList.take (S.length+1)=cur.toList.take S.length++[ptr p])(l:eL k w p us 0):PQ k w a (S++[us]):=λi u hi=>by
 have d:∀(j:Nat),j<S.length+1->a[j]? =(cur.toList.take S.length++[ptr p])[j]? :=λj o=>by rw[<-g,zCp,zAz (by omega),zBs]
 have f:(cur.toList.take S.length).length=S.length:=by rw[zBf,show cur.toList.length=cur.size from zDh ..];omega
 by_cases e:i<S.length
 .rw[zCj e]at hi;obtain⟨q,d1,m⟩:=h i u hi;refine⟨q,?_,m⟩;rw[d i (by omega),zCj (by omega),zCp,zAz e,zBs];exact d1
 .have bT:=(zBa.1 hi).1;rw[zAc]at bT;simp only[zEg]at bT;obtain rfl:i=S.length:=by{omega};rw[zBn (zAb _),zFn]at hi;simp only[zCu,aEx]at hi;subst hi;refine⟨p,?_,l⟩;rw[d _ (by omega),zBn (by omega),f,zFn];rfl
def cQ.mem (h:cQ w t k room b cap S):∃C cur R c,iG k t b cap S.length C cur (R:Nat) (oN S).length c w/\(∀x∈cur.toList,mQ C x)/\PQ k w cur S/\S.length<=cap/\cap<=maxLen/\cur.size=cap/\c+room<=R/\R<=1000000/\0<=c/\∃a,cur.toList.take S.length=a.map ptr/\tT t w C a aB:=by obtain⟨C,cur,c1,c2,c3,c4,c5,c6,g,a,f,d⟩:=h.row;obtain⟨R,c,d1,e,d3⟩:=h.at';exact⟨C,cur,R,c,⟨h.gK,h.iH,d1,c1,c5⟩,c6,g,c2,c3,c4,e,d3,d.len d1,a,f,d⟩
def iG.GC {R:Nat}(h:iG k t b cap S.length C cur (R:Nat) (oN S).length c w)(a:∀x∈cur.toList,mQ C x)(i:PQ k w cur S)(hl:S.length<=cap)(d:cap<=maxLen)(f:cur.size=cap)(j:c+room<=R)(d3:R<=1000000){tp:List (Option Nat)}(e:cur.toList.take S.length=tp.map ptr)(g:tT t w C tp aB)(k1:1<=k)(k2:k<=32)(DJ:zq.globals.size<t)(OQ:zq.globals.size<b)(st:∀us∈S,GY us/\us.length<=400)(len:S.length<=1000)(one:0<S.length):cQ w t k room b cap S:=
 ⟨k1,k2,h.gK,h.iH,DJ,OQ,⟨R,c,h.tr,j,d3⟩,⟨C,cur,h.rW,hl,d,f,h.cs,a,i,tp,e,g⟩,st,len,one⟩
def iG.BO {b' cap' n':Nat}{i:zA}{W:zW}(h:iG k t b cap n C cur x1 x4 c w)(D:zq.globals.size<t)(E:zq.globals.size<b)(j:w.grownBy W (aA b))(q:W.heap[b']? =aA (aJ i 264 (0,0))):
  iG k t b' cap' n' C i x1 x4 c (W.setCell ⟨t,3,aB⟩ (aK (aA ⟨b',0,aB⟩) n' cap'))/\(∀x,dD w x->(W.setCell ⟨t,3,aB⟩ (aK (aA ⟨b',0,aB⟩) n' cap')).heap[x]? =w.heap[x]?)/\dJ (iW w t b) w (W.setCell ⟨t,3,aB⟩ (aK (aA ⟨b',0,aB⟩) n' cap')):=by
 have u:=h.tr.lt;have v:t≠b:=λe=>by have l:=h.rW;have s:=h.tr;unfold cG at s;rw[<-e,s]at l;injection l with l;injection l with _ A;revert A;decide
 have r:cG W t (aC aD k) (aC aD x1) (aL ⟨(dg k [0]).toArray⟩) (aK (aA ⟨b,0,aB⟩) n cap) (aC aD x4) c:=(j.block t u (λe=>v (zAk e))).trans h.tr;have y:b'≠t:=λe=>by unfold cG at r;rw[e,r]at q;injection q with q;injection q with _ A;revert A;decide
 obtain⟨V,g⟩:∃V,V=W.setCell ⟨t,3,aB⟩ (aK (aA ⟨b',0,aB⟩) n' cap'):=⟨_,rfl⟩;have m:V.heap.size=W.heap.size:=by rw[g];simp[World.setCell]
 have d:∀x,x<w.heap.size->x≠b->x≠t->V.heap[x]? =w.heap[x]? :=λx f l s=>by rw[g,zGr _ _ _ _ s];exact j.block x f (λe=>l (zAk e))
 have a:∀x,dD w x->V.heap[x]? =w.heap[x]? :=λx f=>d x f.lt (f.ne h.rW (by decide)) (f.ne h.tr (by decide));have o:∀x,x<=zq.globals.size->V.heap[x]? =w.heap[x]? :=λx f=>d x (by omega) (by omega) (by omega);have z:cG V t (aC aD k) (aC aD x1) (aL ⟨(dg k [0]).toArray⟩) (aK (aA ⟨b',0,aB⟩) n' cap') (aC aD x4) c:=by rw[g];unfold cG at r⊢;rw[cY r 3];rfl
 rw[<-g];refine⟨⟨h.gK.kept o,h.iH.kept (by rw[m];exact j.size) o,z,by rw[g,zGr _ _ _ _ y];exact q,h.cs.kept λx f=>a x (h.cs.cell f)⟩,a,?_⟩;refine⟨?_,?_,?_,by rw[m];exact j.size,λx f B=>d x f (λe=>B (aI (aH e))) (λe=>B (aH e)),.same a⟩
 .rw[g];exact j.os
 .rw[g];exact j.tape
 .rw[g];exact j.output
def iG.sized (h:iG k t b cap n C cur x1 x4 c w)(y:zq.globals.size<t)(a:Int):
  iG k t b cap n C cur x1 a c (w.setCell ⟨t,4,aB⟩ (aC aD a))/\(∀x,dD w x->(w.setCell ⟨t,4,aB⟩ (aC aD a)).heap[x]? =w.heap[x]?)/\dJ (iW w t b) w (w.setCell ⟨t,4,aB⟩ (aC aD a)):=by
 have s:=h.tr.lt;have f:∀x,x≠t->(w.setCell ⟨t,4,aB⟩ (aC aD a)).heap[x]? =w.heap[x]? :=λx l=>zGr _ _ _ _ l;have g:(w.setCell ⟨t,4,aB⟩ (aC aD a)).heap.size=w.heap.size:=by simp[World.setCell]
 have d:∀x,dD w x->(w.setCell ⟨t,4,aB⟩ (aC aD a)).heap[x]? =w.heap[x]? :=λx j=>f x (j.ne h.tr (by decide));have i:∀x,x<=zq.globals.size->(w.setCell ⟨t,4,aB⟩ (aC aD a)).heap[x]? =w.heap[x]? :=λx j=>f x (by omega);have q:cG (w.setCell ⟨t,4,aB⟩ (aC aD a)) t (aC aD k) (aC aD x1) (aL ⟨(dg k [0]).toArray⟩) (aK (aA ⟨b,0,aB⟩) n cap) (aC aD a) c:=by have r:=h.tr;unfold cG at r⊢;rw[cY r 4];rfl
 have o:b≠t:=λe=>by have m:=h.rW;have l:=h.tr;unfold cG at l;rw[e,l]at m;injection m with m;injection m with _ v;revert v;decide
 exact⟨⟨h.gK.kept i,h.iH.kept (by rw[g];exact zAb _) i,q,(f b o).trans h.rW,h.cs.kept λx j=>d x (h.cs.cell j)⟩,d,⟨rfl,rfl,rfl,by rw[g];exact zAb _,λx _ u=>f x λe=>u (aH e),.same d⟩⟩
def FJ (S)(us):oN (S++[us])=us:=by unfold oN;rw[List.getLast?_concat];rfl
end
section
variable {w:zW}{t k room b cap n:Nat}{S:List (List bJ)}
def YX (h:cQ w t k (room+n) b cap S)(hS:n<S.length):
  Calls zq 214 #[aO (aA ⟨t,0,aB⟩),aC aD n] w λe s=>e=aM (.tuple #[])/\cQ s t k room b cap (S.drop n)/\dJ (iW w t b) w s:=by
 obtain⟨C,d,R,c,hM,g,H,g1,g2,g3,g4,g5,g6,f,o,E⟩:=h.mem;have Z:f.length=S.length:=by have:=congrArg List.length o;rw[zBf,zCl]at this;have e:d.toList.length=d.size:=zDh ..;omega
 have h1:=h.k1;have hk:=h.k2;have T:=h.DJ;have hb:=h.OQ;have hlen:=h.len;have B:=h.st;have htb:t≠b:=h.tb;have V:Hid (∀W c' (j:Nat),iG k t b cap S.length C d R (oN S).length c' W->PQ k W d S->dJ (iW w t b) w W->tT t W C (f.drop j) aB->c'<=c->j<n->∃X,W.cell? ⟨b,j,aB⟩=aA X/\W.cell? ⟨t,3,aB⟩=aA (aK (aA ⟨b,0,aB⟩) S.length cap)/\Calls zq 219 #[aO (aA ⟨t,0,aB⟩),X] W λe s=>e=aM (.tuple #[])/\∃c2,iG k t b cap S.length C d R (oN S).length c2 s/\PQ k s d S/\dJ (iW w t b) w s/\tT t s C (f.drop (j+1)) aB/\c2<=c):=λW c' j a r v Q l2 hj=>by
  obtain⟨us,Y⟩:∃us,S[j]? =aA us:=⟨_,zAi (by omega)⟩;obtain⟨p,D,hr⟩:=r j us Y;have hdr:f.drop j=p::f.drop (j+1):=by
   have F:j<f.length:=by omega
   have h0:(f.map ptr)[j]? =aA (ptr p):=by rw[<-o,zCp,zAz (by omega),zBs];exact D
   rw[zDi,zAi F]at h0;rw[zGh F,NJ (zAk h0)]
  rw[hdr]at Q;exact⟨ptr p,by rw[bC a.rW];exact D,(bC a.tr 3).trans rfl,(Q.let (a.fg T) (by omega) a.tr (by omega)).1.mono λe s ⟨e1,hH,c2,hT',k1,k2,k3,_⟩=>⟨e1,c2,a.hl hH T hT' (a.cs.hl hH),r.hl h1 hk hH,v.step (.hl hH) (aH rfl),k1,by omega⟩⟩
 have O:Hid (∀W c',iG k t b cap S.length C d R (oN S).length c' W->PQ k W d S->dJ (iW w t b) w W->tT t W C (f.drop n) aB->c'<=c->W.cell? ⟨t,3,aB⟩=aA (aK (aA ⟨b,0,aB⟩) S.length cap)/\Calls zq 220 #[aK (aA ⟨b,0,aB⟩) S.length cap,aC aD 0,aC aD n] W λe N=>e=aM (aK (aA ⟨b,0,aB⟩) (S.length-n) cap)/\(∃x,N.cell? ⟨t,3,aB⟩=aA x)/\N.frozen? ⟨t,3,aB⟩=aG/\cQ (N.setCell ⟨t,3,aB⟩ (aK (aA ⟨b,0,aB⟩) (S.length-n) cap)) t k room b cap (S.drop n)/\dJ (iW w t b) w (N.setCell ⟨t,3,aB⟩ (aK (aA ⟨b,0,aB⟩) (S.length-n) cap))):=λW c' a r v Q l2=>by
  refine⟨(bC a.tr 3).trans rfl,?_⟩;have hO:eQ (mQ C) W b 264 1 (aK (aA ⟨b,0,aB⟩) S.length cap) S.length (d.toList.take S.length):=by have:=eQ.of (S:=mQ C) (n:=S.length) d a.rW (zAb _) g1 g2 (size:=1) (by omega) (by rw[zDw]) g;exact this
  refine(Nz (S:=mQ C) (λx z=>Ld z) KN b b S.length cap n _ W hO (by omega) (by omega)).mono ?_;rintro e N ⟨rfl,h2,h3⟩;obtain⟨m,e1,e2,e3,e4,e5,e6,e7⟩:=eQ.row h2;obtain⟨L,l,A⟩:=a.BO (cap':=cap) (n':=S.length-n) T hb h3 e1;have I:=(h3.block t a.tr.lt (λe=>htb (zAk e))).trans a.tr;have G:(S.drop n).length=S.length-n:=zCn ..;have kl:oN (S.drop n)=oN S:=by unfold oN;rw[List.getLast?_drop,zAv (by omega)]
  refine⟨rfl,⟨_,(bC I 3).trans rfl⟩,cR I 3,iG.GC (R:=R) (C:=C) (cur:=m) (c:=c') (by rw[G,kl];exact L) e7 (λi u hi=> ?_) (by omega) g2 (by omega) (by omega) g5 (tp:=f.drop n) (by rw[G,<-zDw (S.length-n),e6,o,List.map_drop]) (Q.kept (λx z=>l x (a.cs.cell z)) (L.tr.c5.trans a.tr.c5.symm)) h1 hk T hb (λu hu=>B u (zEn hu)) (by omega) (by omega),v.step A (aH rfl)⟩;rw[zEv]at hi;have bT:=(zBa.1 hi).1;obtain⟨q,d1,d2⟩:=r (n+i) u hi;refine⟨q,?_,d2.kept a.cs (Lc g d1) λx z=>l x (a.cs.cell z)⟩;have y:m[i]? =(m.toList.take ((S.length-n)*1))[i]? :=by{rw[zCp,zAz (by omega),zBs]};rw[y,e6,zEv,zCp,zAz bT,zBs];exact d1
 have c3:w.cell? ⟨t,3,aB⟩=aA (aK (aA ⟨b,0,aB⟩) S.length cap):=(bC hM.tr 3).trans rfl;have HM:Hid (iG k t b cap S.length C d R (oN S).length c w):=hM;have HTS:Hid (PQ k w d S):=H;have HLV:Hid (tT t w C f aB):=E;obtain⟨S',K⟩:∃S',S'=S.drop n:=⟨_,rfl⟩;rw[<-K]at O⊢;have eF:n<=cap:=by omega
 have xi:(n:Int)<=(cap:Int):=by omega
 have wh:(0:Int)<=(n:Int):=by omega
 have pf:n<=1000:=by omega
 obtain⟨LU,M⟩:∃LU:Int,LU=((oN S).length:Int):=⟨_,rfl⟩;rw[<-M]at V O HM;clear K hM g h M B H E o Z;generalize S.length=ns at*;go_enter (Qz.fn func214),ntmps214;go_wp2_with fail;go_loopg [13] n (λq i wr=>∃(j:Nat)(c':Int),j+q=n/\i=aC aD (j:Int)/\iG k t b cap ns C d R LU c' wr/\PQ k wr d S/\dJ (iW w t b) w wr/\tT t wr C (f.drop j) aB/\c'<=c);case atStart=>exact⟨0,c,by omega,rfl,HM.out,HTS.out,.refl _ _,HLV.out,by omega⟩
 case round=>
  obtain⟨j,c',hj,rfl,U,a2,a3,a4,a5⟩:=hrel
  by_cases bT:j<n
  .obtain⟨X,d1,t3,P⟩:=V.out wr c' j U a2 a3 a4 a5 bT;have Mo:¬((j:Int)<0):=by{omega};have Ve:(j:Int)<(n:Int):=by{omega};clear V O U a2 a3 a4 t3;go_wp2_with fail;refine P.mono ?_;clear P;rintro e w1 ⟨rfl,c2,b1,b2,b3,b4,b5⟩;go_wp2;go_roundg (n-(j+1));case measure=>omega
   case rel=>go_light;exact⟨j+1,c2,by omega,by go_num,b1,b2,b3,b4,b5⟩
  .obtain rfl:j=n:=by{omega};have Ve:¬((j:Int)<(j:Int)):=by{omega};obtain⟨t3,P⟩:=O.out wr c' U a2 a3 a4 a5;clear O U a2 a3 a4 V;go_wp2_with fail;refine P.mono ?_;clear P t3;rintro e w2 ⟨rfl,⟨x,t3⟩,f3,hE,J⟩;have HE:Hid (cQ (w2.setCell ⟨t,3,aB⟩ (aK (aA ⟨b,0,aB⟩) (ns-j) cap)) t k room b cap S'):=hE;have HSv:Hid (dJ (iW w t b) w (w2.setCell ⟨t,3,aB⟩ (aK (aA ⟨b,0,aB⟩) (ns-j) cap))):=J;clear hE J;go_wp2;go_end0;exact⟨rfl,HE.out,HSv.out⟩
def Ko (h:cQ w t k room b cap S){i:Nat}{us:List bJ}(hi:S[i]? =aA us):
  Calls zq 217 #[aO (aA ⟨t,0,aB⟩),aC aD i] w (RF λx j=>x=aL ⟨(mE k (bF us) 0).toArray⟩/\zb w j):=by
 obtain⟨C,r,R,c,a,f,g,y,u,s,g4,g5,_⟩:=h.mem;obtain⟨p,d,l⟩:=g i us hi;have H:Hid (Calls zq 226 #[aO (aA ⟨t,0,aB⟩),ptr p] w λe j=>e=aM (aL ⟨(mE k (bF us) 0).toArray⟩)/\j=w):=FL ⟨a.tr.lt,(bC a.tr 0).trans rfl,(bC a.tr 2).trans rfl⟩ l;have c3:w.cell? ⟨t,3,aB⟩=aA (aK (aA ⟨b,0,aB⟩) S.length cap):=(bC a.tr 3).trans rfl;have d1:w.cell? ⟨b,i,aB⟩=aA (ptr p):=by rw[bC a.rW];exact d
 have m:=(zBa.1 hi).1;have q:¬((i:Int)<0):=by omega
 have o:(i:Int)<(S.length:Int):=by omega
 generalize ptr p=v at*;clear h hi a f g l d;generalize S.length=n at*;go_enter (Qz.fn func217),ntmps217;go_wp2_with fail;refine H.out.mono ?_;rintro e w1 ⟨rfl,rfl⟩;go_wp2;go_ret;exact .of ⟨rfl,zGo _ _⟩
end
open Go
@[simp]theorem mh:zq.stoodInHeld 76=aG:=by kernel_rfl
@[simp]theorem so:zq.eqGuardType zq.depth 76=aG:=by kernel_rfl
@[simp]theorem mi:zq.stoodInHeld 53=aG:=by kernel_rfl
@[simp]theorem sq:zq.eqGuardType zq.depth 53=aG:=by kernel_rfl
def Ys (e:oW):bJ:=⟨e.1,e.2,aG⟩
def bz (s:St)(k:Nat):Nat:=((List.range k).filterMap (fG s)).length
def Kt (s):bz s 64=(lZ s).length:=rfl
def Ry (s):∀k,bz s k<=k:=λk=>by have:=List.length_filterMap_le (fG s) (List.range k);rw[List.length_range]at this;exact this
def cH.len {w base v l}(h:cH w base v l):∃a c,v=aK a l.length c/\(0<l.length->∃g,a=aA ⟨g,0,aB⟩/\base<=g/\g<w.heap.size):=by
 obtain⟨rfl,d⟩|⟨g,cap,cur,rfl,hb,b,_⟩:=h.2
 .exact⟨aB,0,by rw[d],λe=>by omega⟩
 .exact⟨_,cap,rfl,λ_=>⟨g,rfl,hb,(zAa.1 b).1⟩⟩
def cH.cellAt {w base g c l}(h:cH w base (aK (aA ⟨g,0,aB⟩) l.length c) l)(i)(u)(a:l[i]? =aA u)(j)(b:j<3):w.cell? ⟨g,i*3+j,aB⟩=u.cells[j]? :=by have hi:=(zBa.1 a).1;rw[World.ownsRow.cellAt h (i*3+j) (by omega)];exact qD l i u a j b
def reaches {name f}(h:(zq.info? 146).bind (λi=>(i.methods.find? (·.name==name)).map λm=>(m.path,m.func))=aA (#[],aA (f,aF)))(a)(w):
  (method (zq.types.size+100) 146 (.pointer a) name).run zq w= .ok (f,.pointer a) w:=by
 cases hi:zq.info? 146 with
 |none=>rw[hi]at h;cases h
 |some i=>
  rw[hi]at h;simp only[zEb]at h;cases hm:i.methods.find? (·.name==name)with
  |none=>rw[hm]at h;cases h
  |some m=>rw[hm]at h;simp only[zBi,aEx,aFd]at h;rw[show zq.types.size+100=(zq.types.size+99)+1 from rfl];have c:=run_underlying ((Qz.fH 146).trans underlying146);have b:(typeInfo 146).run zq w= .ok i w:=by{simp[typeInfo,hi]};unfold method;simp only[Sem.run_bind,b,aE8,hm,h.1,h.2];simp[follow,receiverAt,c,Place.get]
def gU (S:zLL):zV:=S.map λx=>aL ⟨x.toArray⟩
def OV (x:zY):Prop:=∃s,x=aL s
structure dO (w:zW)(d k win first hb eF t room b cap:Nat)(S:List (List bJ))(H:zLL):Prop where
 GC:cQ w t k room b cap S
 Nw:zq.globals.size<d
 pT:zq.globals.size<hb
 at':w.heap[d]? =aA (aJ #[aC aD k,aC aD win,aC aD first,aK (aA ⟨hb,0,aB⟩) S.length eF,.iface 146 (aO (aA ⟨t,0,aB⟩))] 86 (0,0))
 hlen:H.length=S.length
 Vf:∀h∈H,h.length<=32
 gD:eQ OV w hb 9 1 (aK (aA ⟨hb,0,aB⟩) S.length eF) S.length (gU H)
 f1:first<=1000000
section
variable {w w':zW}{d k win first hb eF t room b cap:Nat}{S:List (List bJ)}{H:zLL}
def dO.lt (h:dO w d k win first hb eF t room b cap S H):d<w.heap.size:=(zAa.1 h.at').1
def dO.cell (h:dO w d k win first hb eF t room b cap S H)(i:Nat):w.cell? ⟨d,i,aB⟩=(#[aC aD k,aC aD win,aC aD first,aK (aA ⟨hb,0,aB⟩) S.length eF,.iface 146 (aO (aA ⟨t,0,aB⟩))]:zA)[i]? :=cell_of_row w d i _ _ (0,0) h.at'
def dO.below {B:Nat}(h:dO w d k win first hb eF t room b cap S H)(a:Below B w w')(c:w.heap.size<=B):dO w' d k win first hb eF t room b cap S H:=⟨h.GC.below a c,h.Nw,h.pT,by rw[a.block d (zAd h.lt c)];exact h.at',h.hlen,h.Vf,h.gD.below a c,h.f1⟩
def Mi (h:dO w d k win first hb eF t room b cap S H):
  Calls zq 23 #[aO (aA ⟨d,0,aB⟩)] w λe w'=>e=aM (.tuple #[aC aD first,aC aD ((first:Int)+(S.length:Int)-1)])/\zb w w':=by
 have g:=eZ ((h.cell 2).trans (rfl:_=aA (Value.int aD first))) h.lt;have f:=eZ ((h.cell 3).trans (rfl:_=aA (Value.slice (aA ⟨hb,0,aB⟩) S.length eF))) h.lt;have i:=h.f1;have hl:=h.GC.len;clear h;generalize S.length=n at*;go_enter (Qz.fn func23),ntmps23;go_upto_region 1 with(fail)
 refine wp_region_quiet_below (by kernel_rfl) (by kernel_rfl) ?_;repeat (any_goals(first|go_big_quiet_step (fail)|quiet_step (fail)))
 refine wpQuiet_nil ?_;intro W a;obtain⟨q,c⟩:=a;have hb:Hid (zb w W):=by rw[c];exact zGv w q.d q.os
 clear c g f;go_wp2;go_ret2;exact⟨rfl,hb.out⟩
def Gb (h:dO w d k win first hb eF t room b cap S H){i:Nat}(hi:i<S.length):
  Calls zq 36 #[aO (aA ⟨d,0,aB⟩),aC aD ((first:Int)+(i:Int))] w λe w'=>e=aM (.bool aF)/\zb w w':=by
 have a:=Mi h;have f:(first:Int)<=(first:Int)+(i:Int):=by omega
 have c:(first:Int)+(i:Int)<=(first:Int)+(S.length:Int)-1:=by omega
 clear h hi;generalize(first:Int)+(S.length:Int)-1=l at*;generalize(first:Int)+(i:Int)=g at*;go_enter (Qz.fn func36),ntmps36;go_wp2_with fail;refine a.mono ?_;clear a;rintro e w2 ⟨rfl,hb⟩;have B:Hid (zb w w2):=hb;clear hb;dsimp only;go_wp2;go_ret;exact⟨by simp[f,c],B.out⟩
end
structure Base (w:zW):Prop where
 gK:kN w
 iH:fD w
 low:zq.globals.size<w.heap.size
def Base.below {w w':zW}{B:Nat}(h:Base w)(a:Below B w w')(b:w.heap.size<=B):Base w':=
 ⟨h.gK.kept λx c=>a.block x (by have:=h.low;omega),h.iH.below a b,zAd h.low a.size⟩
def Ua {w:zW}(h:Base w)(k room t d:Nat)(l:1<=k)(j:k<=32)(g:room<=1000000)(n:cG w t (aC aD k) (aC aD room) (aL ⟨(dg k [0]).toArray⟩) (aK (aA ⟨d,0,aB⟩) 1 1) (aC aD 0) 0)(p:w.heap[d]? =aA (aJ #[.pointer aB] 264 (0,0)))(f:zq.globals.size<t)(m:zq.globals.size<d):cQ w t k room d 1 [[]]:=by
 refine⟨l,j,h.gK,h.iH,f,m,⟨room,0,n,by omega,g⟩,⟨λ_=>False,_,p,zAb _,by simp only[maxLen];omega,rfl,λx a=>a.elim,λx a=> ?_,λi us hi=> ?_,[aB],rfl,[],⟨λx=>zBu _,⟨.nil,λk c=>(by cases c),λk c=>(by cases c),λx _=>rfl,λk c=>(by cases c)⟩,λx a=>a,n.c5⟩,λk c=>(by cases c),λx a=>(by cases a),λb e=>(by cases e)⟩,λus o=> ?_,by simp,by simp⟩
 .simp only[zAg,zAr,zCd]at a;subst a;exact⟨aB,rfl,λb e=>by cases e⟩
 .match i,hi with
  |0,hi=>simp at hi;subst hi;exact⟨aB,rfl,.nil 0⟩
 .rw[zAm.1 o];exact⟨GY.nil,zBu _⟩
def Sn (k room:Nat)(w)(h:Base w)(c:1<=k)(b:k<=32)(f:room<=1000000):
  Calls zq 87 #[aC aD k,aC aD room] w λe g=>∃t i,e=aM (aO (aA ⟨t,0,aB⟩))/\cQ g t k room i 1 [[]]/\w.heap.size<=t/\w.heap.size<=i/\zb w g:=by
 have H:=hid h;go_enter (Qz.fn func87),ntmps87;go_wp2_with fail;refine(ML k w c b H.out.iH).mono ?_;rintro e w1 ⟨rfl,d⟩;have B:=hid d;have H1:=hid (H.out.below d (zAb _));go_wp2_with fail;have a:∀(v:zW)(o:Obj),(v.alloc o).heap.size=v.heap.size+1:=λv o=>zBw ..;have k1:Hid (cL ((w1.alloc (aJ #[.pointer aB] 264)).alloc (aJ #[aC aD (k:Int),aC aD (room:Int),aL ⟨(dg k [0]).toArray⟩,aK (aA ⟨w1.heap.size,0,aB⟩) 1 1,aC aD 0,aC aD 0] 168)) w1.heap.size 264 #[.pointer aB]):=(cL.new _ _ _).alloc _;have k2:Hid (cL ((w1.alloc (aJ #[.pointer aB] 264)).alloc (aJ #[aC aD (k:Int),aC aD (room:Int),aL ⟨(dg k [0]).toArray⟩,aK (aA ⟨w1.heap.size,0,aB⟩) 1 1,aC aD 0,aC aD 0] 168)) (w1.heap.size+1) 168 #[aC aD (k:Int),aC aD (room:Int),aL ⟨(dg k [0]).toArray⟩,aK (aA ⟨w1.heap.size,0,aB⟩) 1 1,aC aD 0,aC aD 0]):=by have:=cL.new (w1.alloc (aJ #[.pointer aB] 264)) 168 #[aC aD (k:Int),aC aD (room:Int),aL ⟨(dg k [0]).toArray⟩,aK (aA ⟨w1.heap.size,0,aB⟩) 1 1,aC aD 0,aC aD 0];rw[a]at this;exact this
 have j:Hid (zb w1 ((w1.alloc (aJ #[.pointer aB] 264)).alloc (aJ #[aC aD (k:Int),aC aD (room:Int),aL ⟨(dg k [0]).toArray⟩,aK (aA ⟨w1.heap.size,0,aB⟩) 1 1,aC aD 0,aC aD 0] 168))):=((zGo _ _).alloc (zAb _) _).alloc (by rw[a];omega) _;generalize(w1.alloc (aJ #[.pointer aB] 264)).alloc (aJ #[aC aD (k:Int),aC aD (room:Int),aL ⟨(dg k [0]).toArray⟩,aK (aA ⟨w1.heap.size,0,aB⟩) 1 1,aC aD 0,aC aD 0] 168)=w2 at*;have n:=hid (bR B.out j.out B.out.size);have hl:=H1.out.low;have l:=B.out.size;have m:=hid (Ua (H1.out.below j.out (zAb _)) k room _ _ c b f k2.out k1.out (by omega) hl);go_ret;exact⟨w1.heap.size+1,w1.heap.size,rfl,m.out,by omega,l,n.out⟩
def NS (k a cells:Nat)(w)(g:1<=k)(f:k<=32)(d:1<=a)(h:a<=50)(j:1<=cells)(i:cells<=100000):
  Calls zq 57 #[.agg #[aC aD 0,aC aD k,aC aD a,aC aD cells]] w λe c=>e=aM (.bool aF)/\zb w c:=by
 have r:Hid (zb w (w.alloc (aJ #[aC aD 0,aC aD (k:Int),aC aD (a:Int),aC aD (cells:Int)] 23))):=(zGo _ _).alloc (zAb _) _;have b:Hid (cL (w.alloc (aJ #[aC aD 0,aC aD (k:Int),aC aD (a:Int),aC aD (cells:Int)] 23)) w.heap.size 23 #[aC aD 0,aC aD (k:Int),aC aD (a:Int),aC aD (cells:Int)]):=cL.new _ _ _;have q:(1:Int)<=(k:Int):=by omega
 have p:(k:Int)<=32:=by omega
 have o:(1:Int)<=(a:Int):=by omega
 have n:(a:Int)<=50:=by omega
 have m:(1:Int)<=(cells:Int):=by omega
 have l:(cells:Int)<=100000:=by omega
 go_enter (Qz.fn func57),ntmps57;go_upto_region 1 with(fail)
 generalize w.alloc (aJ #[aC aD 0,aC aD (k:Int),aC aD (a:Int),aC aD (cells:Int)] 23)=w0 at*;have c0:=(b.out.cell 0).trans rfl;have c1:=(b.out.cell 1).trans rfl;have c2:=(b.out.cell 2).trans rfl;have c3:=(b.out.cell 3).trans rfl;go_wp2;go_ret;exact⟨by simp[q,p,o,n,m,l],r.out⟩
def OC (k a room:Nat)(w)(h:Base w)(i:1<=k)(g:k<=32)(f:room<=1000000):
  Calls zq 59 #[.agg #[aC aD 0,aC aD k,aC aD a,aC aD room]] w λe l=>∃t b,e=aM (.iface 146 (aO (aA ⟨t,0,aB⟩)))/\cQ l t k room b 1 [[]]/\w.heap.size<=t/\w.heap.size<=b/\zb w l:=by
 have c:Hid (zb w (w.alloc (aJ #[aC aD 0,aC aD (k:Int),aC aD (a:Int),aC aD (room:Int)] 23))):=(zGo _ _).alloc (zAb _) _;have d:Hid (cL (w.alloc (aJ #[aC aD 0,aC aD (k:Int),aC aD (a:Int),aC aD (room:Int)] 23)) w.heap.size 23 #[aC aD 0,aC aD (k:Int),aC aD (a:Int),aC aD (room:Int)]):=cL.new _ _ _;have H:=hid h;go_enter (Qz.fn func59),ntmps59;go_upto_region 1 with(fail)
 generalize w.alloc (aJ #[aC aD 0,aC aD (k:Int),aC aD (a:Int),aC aD (room:Int)] 23)=w0 at*;have c0:=(d.out.cell 0).trans rfl;have c1:=(d.out.cell 1).trans rfl;have c3:=(d.out.cell 3).trans rfl;go_wp2_with fail;refine(Sn k room w0 (H.out.below c.out (zAb _)) i g f).mono ?_;rintro e w1 ⟨t,b,rfl,m,h1,o,j⟩;have B:=hid (bR c.out j c.out.size);have E:=hid m;have n:=c.out.size;go_wp2;go_ret;exact⟨t,b,rfl,E.out,by omega,by omega,B.out⟩
def JF (k:Nat)(w)(d:fD w)(a:1<=k)(h:k<=32):
  Calls zq 58 #[aC aD k] w λe c=>e=aM (aL ⟨(dg k [3]).toArray⟩)/\zb w c:=by
 have f:=tC k ⟨#[3]⟩ w a h (by decide) d;have H:=hid f;go_enter (Qz.fn func58),ntmps58;go_wp2_with fail;refine H.out.mono ?_;rintro e w1 ⟨rfl,b⟩;have B:=hid b;go_wp2;go_ret;exact⟨rfl,B.out⟩
def Ce {w:zW}{d k a e t room b:Nat}{h:zB}(g:cQ w t k room b 1 [[]])(f:w.heap[d]? =aA (aJ #[aC aD k,aC aD a,aC aD 0,aK (aA ⟨e,0,aB⟩) 1 1,.iface 146 (aO (aA ⟨t,0,aB⟩))] 86 (0,0)))(hh:w.heap[e]? =aA (aJ #[aL ⟨h.toArray⟩] 9 (0,0)))(hl:h.length<=32)(j:zq.globals.size<d)(i:zq.globals.size<e):
  dO w d k a 0 e 1 t room b 1 [[]] [h]:=
 ⟨g,j,i,f,rfl,λx c=>by rw[zAm.1 c];exact hl,eQ.of _ hh (zAb _) (zAb _) (by simp only[maxLen];omega) rfl rfl (λx c=>by simp only[zAg,zAr,zCd]at c;exact⟨_,c⟩),zBu _⟩
def ZD (k a room:Nat)(w:zW)(h:Base w)(r:1<=k)(n:k<=32)(G:1<=a)(F:a<=50)(J:1<=room)(I:room<=100000):
  Calls zq 35 #[.agg #[aC aD 0,aC aD k,aC aD a,aC aD room]] w λe l=>∃d S t j,e=aM (.tuple #[aO (aA ⟨d,0,aB⟩),aC aD 0])/\dO l d k a 0 S 1 t room j 1 [[]] [dg k [3]]/\w.heap.size<=d/\w.heap.size<=S/\w.heap.size<=t/\w.heap.size<=j/\zb w l:=by
 have L:Hid (zb w (w.alloc (aJ #[aC aD 0,aC aD (k:Int),aC aD (a:Int),aC aD (room:Int)] 23))):=(zGo _ _).alloc (zAb _) _;have A:Hid (cL (w.alloc (aJ #[aC aD 0,aC aD (k:Int),aC aD (a:Int),aC aD (room:Int)] 23)) w.heap.size 23 #[aC aD 0,aC aD (k:Int),aC aD (a:Int),aC aD (room:Int)]):=cL.new _ _ _;have HB:Hid (Base w):=h;have pT:=h.low;clear h;go_enter (Qz.fn func35),ntmps35;go_upto_region 1 with(fail)
 generalize w.alloc (aJ #[aC aD 0,aC aD (k:Int),aC aD (a:Int),aC aD (room:Int)] 23)=w0 at*;go_wp2_with (refine zGw rfl 23 _ rfl w.heap.size rfl 23 _ (0,0) _ A.out ((Qz.fH 23).trans underlying23) rfl (by kernel_rfl) ?_);refine(NS k a room w0 r n G F J I).mono ?_;rintro e w1 ⟨rfl,u⟩;have C:Hid (zb w w1):=bR L.out u L.out.size;have K1:Hid (cL w1 w.heap.size 23 #[aC aD 0,aC aD (k:Int),aC aD (a:Int),aC aD (room:Int)]):=A.out.below u A.out.lt;have H1:Hid (Base w1):=HB.out.below C.out (zAb _);have R:=C.out.size;clear u L A HB;dsimp only;go_upto_region 3 with(fail)
 have M:Hid (∀W,zb w1 W->W.cell? ⟨w.heap.size,0,aB⟩=aA (aC aD 0)/\W.cell? ⟨w.heap.size,1,aB⟩=aA (aC aD (k:Int))/\W.cell? ⟨w.heap.size,2,aB⟩=aA (aC aD (a:Int))/\W.cell? ⟨w.heap.size,3,aB⟩=aA (aC aD (room:Int))/\w.heap.size<W.heap.size):=λW o=>⟨((K1.out.below o K1.out.lt).cell 0).trans rfl,((K1.out.below o K1.out.lt).cell 1).trans rfl,((K1.out.below o K1.out.lt).cell 2).trans rfl,((K1.out.below o K1.out.lt).cell 3).trans rfl,(K1.out.below o K1.out.lt).lt⟩;obtain⟨c0,c1,c2,c3,c4⟩:=M.out w1 (zGo _ _);have y:(dg k [3]).length<=32:=by have:=tP k [3] n;omega
 have z:Hid ((dg k [3]).length<=32):=y;have Z:Hid (∀W,zb w1 W->Calls zq 58 #[aC aD k] W λe l=>e=aM (aL ⟨(dg k [3]).toArray⟩)/\zb W l):=λW o=>JF k W (H1.out.below o (zAb _)).iH r n;have N:Hid (∀W,zb w1 W->Calls zq 59 #[.agg #[aC aD 0,aC aD k,aC aD a,aC aD room]] W λe l=>∃t j,e=aM (.iface 146 (aO (aA ⟨t,0,aB⟩)))/\cQ l t k room j 1 [[]]/\W.heap.size<=t/\W.heap.size<=j/\zb W l):=λW o=>OC k a room W (H1.out.below o (zAb _)) r n (by omega);generalize H3:dg k [3]=i at*;have E3:Hid (dg k [3]=i):=H3;clear H3;clear y K1 H1;go_region_held3 (λl=>l.cell? ⟨w.heap.size,0,aB⟩=aA (aC aD 0)/\l.cell? ⟨w.heap.size,1,aB⟩=aA (aC aD (k:Int))/\l.cell? ⟨w.heap.size,2,aB⟩=aA (aC aD (a:Int))/\l.cell? ⟨w.heap.size,3,aB⟩=aA (aC aD (room:Int))) (go_keep) (first
  |(go_at_call 58;
    first
    |(refine(Z.out _ (rB (zGo _ w1))).mono ?_;rintro e wf ⟨rfl,m⟩;have c:Hid (zb w1 wf):=MQ m)
    |(refine(Z.out _ f.out).mono ?_;rintro e wf ⟨rfl,m⟩;have c:Hid (zb w1 wf):=bR f.out m f.out.size);
    obtain⟨f0,f1,f2,f3,f4⟩:=M.out wf c.out;dsimp only)
  |(go_at_call 59;
    first
    |(refine(N.out _ (rB (zGo _ w1))).mono ?_;rintro e b ⟨t,j,rfl,B,x,v,g⟩;have f:Hid (zb w1 b):=MQ g)
    |(refine(N.out _ c.out).mono ?_;rintro e b ⟨t,j,rfl,B,x,v,g⟩;have f:Hid (zb w1 b):=bR c.out g c.out.size)
    |(refine(N.out _ (c.out.alloc c.out.size _)).mono ?_;rintro e b ⟨t,j,rfl,B,x,v,g⟩;have f:Hid (zb w1 b):=bR (c.out.alloc c.out.size _) g (c.out.alloc c.out.size _).size);
    obtain⟨g0,V,U,T,g4⟩:=M.out b f.out;have H:Hid (cQ b t k room j 1 [[]]):=B;have s:=g;clear B;dsimp only))
 .have q:cL (wf.alloc (aJ #[aL ⟨i.toArray⟩] 9)) wf.heap.size 9 #[aL ⟨i.toArray⟩]:=cL.new _ _ _;have Y:Hid (cL b wf.heap.size 9 #[aL ⟨i.toArray⟩]):=q.below s q.lt;have D:=c.out.size;have p:(wf.alloc (aJ #[aL ⟨i.toArray⟩] 9)).heap.size=wf.heap.size+1:=zBw ..;have E:=f.out.size;have P:Hid (zb w (b.alloc (aJ #[aC aD (k:Int),aC aD (a:Int),aC aD 0,aK (aA ⟨wf.heap.size,0,aB⟩) 1 1,.iface 146 (aO (aA ⟨t,0,aB⟩))] 86))):=(bR C.out f.out R).out.alloc (by omega) _;have K:Hid (cL (b.alloc (aJ #[aC aD (k:Int),aC aD (a:Int),aC aD 0,aK (aA ⟨wf.heap.size,0,aB⟩) 1 1,.iface 146 (aO (aA ⟨t,0,aB⟩))] 86)) b.heap.size 86 #[aC aD (k:Int),aC aD (a:Int),aC aD 0,aK (aA ⟨wf.heap.size,0,aB⟩) 1 1,.iface 146 (aO (aA ⟨t,0,aB⟩))]):=cL.new _ _ _;have O:Hid (dO (b.alloc (aJ #[aC aD (k:Int),aC aD (a:Int),aC aD 0,aK (aA ⟨wf.heap.size,0,aB⟩) 1 1,.iface 146 (aO (aA ⟨t,0,aB⟩))] 86)) b.heap.size k a 0 wf.heap.size 1 t room j 1 [[]] [i]):=Ce (H.out.below ((zGo _ _).alloc (zAb _) _) (zAb _)) K.out (Y.out.alloc _) z.out (by omega) (by omega);generalize b.alloc (aJ #[aC aD (k:Int),aC aD (a:Int),aC aD 0,aK (aA ⟨wf.heap.size,0,aB⟩) 1 1,.iface 146 (aO (aA ⟨t,0,aB⟩))] 86)=w9 at*;clear q s g m c0 c1 c2 c3 f0 f1 f2 f3 g0 V U T Y K;go_wp2;go_ret2;exact⟨b.heap.size,wf.heap.size,t,j,rfl,by rw[E3.out];exact O.out,by omega,by omega,by omega,by omega,P.out⟩
 .have D:=c.out.size;have E:=f.out.size;have p:∀Q,(b.alloc Q).heap.size=b.heap.size+1:=λQ=>zBw ..;have X:Hid (cL ((b.alloc (aJ #[aL ⟨i.toArray⟩] 9)).alloc (aJ #[aC aD (k:Int),aC aD (a:Int),aC aD 0,aK (aA ⟨b.heap.size,0,aB⟩) 1 1,.iface 146 (aO (aA ⟨t,0,aB⟩))] 86)) b.heap.size 9 #[aL ⟨i.toArray⟩]):=(cL.new _ _ _).alloc _;have K:Hid (cL ((b.alloc (aJ #[aL ⟨i.toArray⟩] 9)).alloc (aJ #[aC aD (k:Int),aC aD (a:Int),aC aD 0,aK (aA ⟨b.heap.size,0,aB⟩) 1 1,.iface 146 (aO (aA ⟨t,0,aB⟩))] 86)) (b.heap.size+1) 86 #[aC aD (k:Int),aC aD (a:Int),aC aD 0,aK (aA ⟨b.heap.size,0,aB⟩) 1 1,.iface 146 (aO (aA ⟨t,0,aB⟩))]):=by
   have:=cL.new (b.alloc (aJ #[aL ⟨i.toArray⟩] 9)) 86 #[aC aD (k:Int),aC aD (a:Int),aC aD 0,aK (aA ⟨b.heap.size,0,aB⟩) 1 1,.iface 146 (aO (aA ⟨t,0,aB⟩))];rw[p]at this;exact this
  have be:zb b ((b.alloc (aJ #[aL ⟨i.toArray⟩] 9)).alloc (aJ #[aC aD (k:Int),aC aD (a:Int),aC aD 0,aK (aA ⟨b.heap.size,0,aB⟩) 1 1,.iface 146 (aO (aA ⟨t,0,aB⟩))] 86)):=((zGo _ _).alloc (zAb _) _).alloc (by rw[p];omega) _;have P:Hid (zb w ((b.alloc (aJ #[aL ⟨i.toArray⟩] 9)).alloc (aJ #[aC aD (k:Int),aC aD (a:Int),aC aD 0,aK (aA ⟨b.heap.size,0,aB⟩) 1 1,.iface 146 (aO (aA ⟨t,0,aB⟩))] 86))):=bR (bR C.out f.out R).out be (by omega);have O:Hid (dO ((b.alloc (aJ #[aL ⟨i.toArray⟩] 9)).alloc (aJ #[aC aD (k:Int),aC aD (a:Int),aC aD 0,aK (aA ⟨b.heap.size,0,aB⟩) 1 1,.iface 146 (aO (aA ⟨t,0,aB⟩))] 86)) (b.heap.size+1) k a 0 b.heap.size 1 t room j 1 [[]] [i]):=Ce (H.out.below be (zAb _)) K.out X.out z.out (by omega) (by omega);generalize(b.alloc (aJ #[aL ⟨i.toArray⟩] 9)).alloc (aJ #[aC aD (k:Int),aC aD (a:Int),aC aD 0,aK (aA ⟨b.heap.size,0,aB⟩) 1 1,.iface 146 (aO (aA ⟨t,0,aB⟩))] 86)=w9 at*;clear s g m c0 c1 c2 c3 f0 f1 f2 f3 g0 V U T X K be;go_wp2;go_ret2;exact⟨b.heap.size+1,b.heap.size,t,j,rfl,by rw[E3.out];exact O.out,by omega,by omega,by omega,by omega,P.out⟩
def JD (i wo:Int)(k b:Nat)(w:zW)(h:Base w)(P: -9223372036854775808<=i)(O:i<=9223372036854775807)(N: -9223372036854775808<=wo)(M:wo<=9223372036854775807)(A:(k:Int)=1+fE i 32)(v:(b:Int)=1+fE wo 20):
  Calls zq 14 #[aC aD 0,aC aD i,aC aD wo] w λe j=>∃d f t g,e=aM (aO (aA ⟨d,0,aB⟩))/\dO j d k b 0 f 1 t 100000 g 1 [[]] [dg k [3]]/\w.heap.size<=d/\w.heap.size<=f/\w.heap.size<=t/\w.heap.size<=g/\zb w j:=by
 obtain⟨a,E,K⟩:=mW i 32 (by omega);obtain⟨c,D,J⟩:=mW wo 20 (by omega);have p:fE i 32=(a:Int):=E;have n:fE wo 20=(c:Int):=D;have q:=λW=>wS i 32 W P O (by omega) (by omega);have H:=λW=>wS wo 20 W N M (by omega) (by omega);rw[p]at q A;rw[n]at H v;have z:k=a+1:=by omega
 have u:b=c+1:=by omega
 have y:1<=k:=by omega
 have x:k<=32:=by omega
 have s:1<=b:=by omega
 have r:b<=50:=by omega
 have T:Hid (Base w):=h;have C:(1:Int)+(a:Int)=(k:Int):=A.symm;have B:(1:Int)+(c:Int)=(b:Int):=v.symm;have I:Hid ((1:Int)+(a:Int)=(k:Int)):=C;have G:Hid ((1:Int)+(c:Int)=(b:Int)):=B;clear h E D p n A v z u C B;have S:Hid (∀W,W=w->Calls zq 35 #[.agg #[aC aD 0,aC aD k,aC aD b,aC aD 100000]] W λe j=>∃d f t g,e=aM (.tuple #[aO (aA ⟨d,0,aB⟩),aC aD 0])/\dO j d k b 0 f 1 t 100000 g 1 [[]] [dg k [3]]/\W.heap.size<=d/\W.heap.size<=f/\W.heap.size<=t/\W.heap.size<=g/\zb W j):=λW L=>by subst L;exact ZD k b 100000 W T.out y x s r (by omega) (by omega)
 go_enter (Qz.fn func14),ntmps14;go_wp2_with fail;refine(q _).mono ?_;rintro e w1 ⟨rfl,m⟩;subst m;dsimp only;go_wp2_with fail;refine(H _).mono ?_;rintro e w2 ⟨rfl,l⟩;subst l;dsimp only;have Q:IntKind.i64.wrap ((1:Int)+(a:Int))=(k:Int):=by rw[zGt,I.out];omega
 have R:IntKind.i64.wrap ((1:Int)+(c:Int))=(b:Int):=by rw[zGt,G.out];omega
 have C:=I.out;have B:=G.out;go_wp2_with fail;refine(S.out _ rfl).mono ?_;rintro e w3 ⟨d,f,t,g,rfl,F,g1,g2,g3,g4,o⟩;have U:Hid (zb w2 w3):=o;have D3:Hid (dO w3 d k b 0 f 1 t 100000 g 1 [[]] [dg k [3]]):=F;clear o F;dsimp only;go_wp2;go_ret;exact⟨d,f,t,g,rfl,D3.out,g1,g2,g3,g4,U.out⟩
def Mr (k a:Nat)(h r:zB)(w:zW)(l:fD w)(i:1<=k)(g:k<=32)(hh:h.length<=32)(x:r.length<=32)(o:a<=2000000):
  Calls zq 40 #[aC aD k,aL ⟨h.toArray⟩,aC aD a,aL ⟨r.toArray⟩] w λe w'=>e=aM (aL ⟨(dg k (3::(h++eight a++r))).toArray⟩)/\zb w w':=by
 have s:Hid (fD w):=l;have u:Hid (∀W (m:ByteArray),m.size<=1000->fD W->Calls zq 53 #[aC aD k,aL m] W λe w'=>e=aM (aL ⟨(dg k m.data.toList).toArray⟩)/\zb W w'):=λW m y q=>tC k m W i g (by omega) q;have p:(eight a).length=8:=by simp[eight]
 clear l;go_enter (Qz.fn func40),ntmps40;go_wp2_with fail;refine(sT a w).mono ?_;rintro e w1 ⟨rfl,f⟩;have B:Hid (zb w w1):=f;clear f;generalize n:eight a=E at*;have j:Hid (eight a=E):=n;clear n;dsimp only;go_wp2_with fail;refine(u.out w1 _ ?_ (s.out.below B.out (zAb _))).mono ?_
 .simp only[ByteArray.size_append];show 1+h.toArray.size+E.toArray.size+r.toArray.size<=1000;simp only[zAp];omega
 rintro e w2 ⟨rfl,c⟩;have v:Hid (zb w w2):=bR B.out c B.out.size;clear c;dsimp only;go_wp2;go_ret;exact⟨by rw[j.out];congr 5,v.out⟩
def kJ (w:zW)(d hb t b:Nat):zP:=λx=>x=d\/x=hb\/iW w t b x
def dJ.four {w w1 w' d hb c t b b'}(h:dJ (kJ w d hb t b) w w1)(j:dJ (kJ w1 d c t b') w1 w')(i:c=hb\/w.heap.size<=c)(g:b'=b\/w.heap.size<=b'):dJ (kJ w d hb t b) w w':=h.then j λx a bT f e=>by
 obtain a|a|a|a|a:=a
 .exact f (aH a)
 .obtain i|i:=i
  .exact f (aI (aH (a.trans i)))
  .omega
 .exact f (aI (aI (aH a)))
 .obtain g|g:=g
  .exact f (aI (aI (aI (aH (a.trans g)))))
  .omega
 .exact f (aI (aI (aI (aI (a.same e.symm)))))
section
variable {w w':zW}{d k win first hb eF t room b cap:Nat}{S:List (List bJ)}{H:zLL}
def EK {x y:Nat}{cs cs' c ty j i}(g:w.heap[x]? =aA (aJ cs c j))(h:w.heap[y]? =aA (aJ cs' ty i))(a:c≠ty):x≠y:=λe=>by subst e;rw[g]at h;injection h with h;injection h with _ f;exact a f
def dO.ne (h:dO w d k win first hb eF t room b cap S H):d≠hb/\d≠t/\d≠b/\hb≠t/\hb≠b:=by obtain⟨a,c1⟩:=h.GC.kv;obtain⟨ct,t1⟩:=h.GC.je;obtain⟨c,e,_⟩:=eQ.row h.gD;exact⟨EK h.at' e (by decide),EK h.at' t1 (by decide),EK h.at' c1 (by decide),EK e t1 (by decide),EK e c1 (by decide)⟩
def dO.two (h:dO w d k win first hb eF t room b cap S H):¬iW w t b d/\¬iW w t b hb:=by
 obtain⟨i,f,n3,e,n⟩:=h.ne;obtain⟨c,g,_⟩:=eQ.row h.gD;refine⟨λa=> ?_,λa=> ?_⟩
 .obtain a|a|a:=a
  .exact f a
  .exact n3 a
  .exact a.ne h.at' (by decide) rfl
 .obtain a|a|a:=a
  .exact e a
  .exact n a
  .exact a.ne g (by decide) rfl
def dO.less {room':Nat}(h:dO w d k win first hb eF t room b cap S H)(a:room'<=room):dO w d k win first hb eF t room' b cap S H:=⟨h.GC.less a,h.Nw,h.pT,h.at',h.hlen,h.Vf,h.gD,h.f1⟩
def dO.bT (h:dO w d k win first hb eF t room b cap S H):hb<w.heap.size:=by obtain⟨c,e,_⟩:=eQ.row h.gD;exact(zAa.1 e).1
def uN {c:Nat}(h:dO w d k win first hb eF t (room+c) b cap S H)(J:c<S.length):
  Calls zq 41 #[aO (aA ⟨d,0,aB⟩),aC aD c] w λe w'=>e=aM (.tuple #[])/\(first+c<=1000000->dO w' d k win (first+c) hb eF t room b cap (S.drop c) (H.drop c))/\dJ (kJ w d hb t b) w w':=by
 obtain⟨A,P,n3,N,M⟩:=h.ne;have u:=YX h.GC J;have I:∀W,(method (zq.types.size+100) 146 (aO (aA ⟨t,0,aB⟩)) "Forget").run zq W= .ok (214,aO (aA ⟨t,0,aB⟩)) W:=λW=>reaches (by kernel_rfl) _ W;have F:w.cell? ⟨d,4,aB⟩=aA (.iface 146 (aO (aA ⟨t,0,aB⟩))):=h.cell 4;have a:Hid (dO w d k win first hb eF t (room+c) b cap S H):=h;have hlen:=h.GC.len;have Q:=h.f1;clear h;go_enter (Qz.fn func41),ntmps41;go_wp2_with fail;refine u.mono ?_;clear u;rintro e w1 ⟨rfl,r,i⟩;have E:Hid (cQ w1 t k room b cap (S.drop c)):=r;have V:Hid (dJ (iW w t b) w w1):=i;have D1:Hid (cL w1 d 86 #[aC aD k,aC aD win,aC aD first,aK (aA ⟨hb,0,aB⟩) S.length eF,.iface 146 (aO (aA ⟨t,0,aB⟩))]):=(i.block d a.out.lt a.out.two.1).trans a.out.at';have q:=a.out.gD;have O:Hid (eQ OV w1 hb 9 1 (aK (aA ⟨hb,0,aB⟩) S.length eF) S.length (gU H)):=q.kept λg v=>by have e:hb=g:=zAk v;subst e;exact i.block hb a.out.bT a.out.two.2
 clear r i q F I;dsimp only;have G:w1.cell? ⟨d,3,aB⟩=aA (aK (aA ⟨hb,0,aB⟩) S.length eF):=(D1.out.cell 3).trans rfl;have D:=Ny (S:=OV) (λx j=>by obtain⟨s,rfl⟩:=j;rfl) (λx j=>by simp[Value.cells]at j;exact⟨_,j⟩) hb hb S.length eF c (gU H) w1 O.out (by omega) (by omega);go_wp2_with fail;refine D.mono ?_;clear D;rintro e w2 ⟨rfl,m,f⟩;have D2:Hid (cL w2 d 86 #[aC aD k,aC aD win,aC aD first,aK (aA ⟨hb,0,aB⟩) S.length eF,.iface 146 (aO (aA ⟨t,0,aB⟩))]):=D1.out.grown f (λe=>by injection e with e;exact A e);obtain⟨B,n,_⟩:=eQ.row O.out;have L:Hid (cQ w2 t k room b cap (S.drop c)):=E.out.other f n (by decide) a.out.pT;have K:Hid (dJ (kJ w d hb t b) w w2):=(V.out.mono λx j=>aI (aI j)).trans (dJ.grown f (aI (aH rfl)) λz=>z.ne n (by decide) rfl);have C:Hid (eQ OV w2 hb 9 1 (aK (aA ⟨hb,0,aB⟩) (S.length-c) eF) (S.length-c) (gU (H.drop c))):=by have e:List.drop c (gU H)=gU (H.drop c):=by{simp[gU]};rw[e]at m;exact m
 have p3:w2.cell? ⟨d,3,aB⟩=aA (aK (aA ⟨hb,0,aB⟩) S.length eF):=(D2.out.cell 3).trans rfl;have p2:w2.cell? ⟨d,2,aB⟩=aA (aC aD first):=(D2.out.cell 2).trans rfl;have f3:=D2.out.frozen 3;have f2:=D2.out.frozen 2;clear m f n G E V O D1;dsimp only;go_wp2_with fail;go_end0;have o:(w2.setCell ⟨d,3,aB⟩ (aK (aA ⟨hb,0,aB⟩) (S.length-c) eF)).setCell ⟨d,2,aB⟩ (aC aD ((first:Int)+(c:Int)))=w2.setRow d (#[aC aD k,aC aD win,aC aD ((first:Int)+(c:Int)),aK (aA ⟨hb,0,aB⟩) (S.length-c) eF,.iface 146 (aO (aA ⟨t,0,aB⟩))]:zA):=by rw[setCell_eq_setRow w2 d 3 _ _ (0,0) _ D2.out,setCell_eq_setRow _ d 2 _ _ (0,0) _ (D2.out.fN _),setRow_setRow];rfl
 have l:=kI w2 d (#[aC aD k,aC aD win,aC aD ((first:Int)+(c:Int)),aK (aA ⟨hb,0,aB⟩) (S.length-c) eF,.iface 146 (aO (aA ⟨t,0,aB⟩))]:zA);have p:=D2.out.fN (#[aC aD k,aC aD win,aC aD ((first:Int)+(c:Int)),aK (aA ⟨hb,0,aB⟩) (S.length-c) eF,.iface 146 (aO (aA ⟨t,0,aB⟩))]:zA);rw[o];refine⟨rfl,λy=>⟨L.out.other l D2.out (by decide) a.out.Nw,a.out.Nw,a.out.pT,by rw[zCn];exact p,by rw[zCn,zCn,a.out.hlen],λx j=>a.out.Vf x (zEn j),?_,y⟩,K.out.trans (dJ.grown l (aH rfl) λz=>z.ne D2.out (by decide) rfl)⟩;rw[zCn];exact C.out.kept λg v=>by have e:hb=g:=zAk v;subst e;exact l.block hb ((eQ.lt C.out hb rfl).2) (λe=>by injection e with e;exact A e.symm)
end
end Go.Proofs.Zq
