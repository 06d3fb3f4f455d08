import Derived.Lib.AppendZerosOnto
import Derived.Lib.Overlaps
import Derived.Laws.Externs
import Derived.Test.YtghpcgagijhlaaaGreatDoorP34
set_option linter.all false
set_option maxRecDepth 100000
set_option maxHeartbeats 16000000
open Option renaming some->aA,none->aB
open Bool renaming true->aE,false->aF
open Go.Ending renaming returned->aL
open Go.Obj renaming cells->aI
open Go.IntKind renaming i64->aD
open Go.Value renaming slice->aJ,string->aK,int->aC
open Go.Addr renaming add_lit->aDO
open Go.Lib renaming compareBytes->aDw
open Nat renaming sub_mul->aDP,min->aDM
namespace Go.Proofs.Zq
open Go Go.RowKit
def cN (w:zW)(g:Nat)(cs:zA):w.grownBy (w.setRow g cs) (aA g):=⟨rfl,rfl,rfl,by simp,λk _ h=>setRow_other w g k _ (λe=>h (by rw[e]))⟩
def nJ (w:zW)(row:Option Nat):w.grownBy w.drew row:=⟨rfl,rfl,rfl,zAa _,λ_ _ _=>rfl⟩
def uL {t:zD}{z:zY}{s b:Nat}(h:(zq.info? t).map (λi=>(i.zero,i.size,i.bytes))=aA (aA z,s,b)):∃i,zq.info? t=aA i/\i.zero=aA z/\i.size=s/\i.bytes=b:=by
 cases a:zq.info? t with
 |none=>rw[a]at h;cases h
 |some i=>rw[a]at h;simp only[zAx,Option.some.injEq,Prod.mk.injEq]at h;exact⟨i,rfl,h.1,h.2.1,h.2.2⟩
def Lw {S:zY->Prop}(E:∀x,S x->x.oneCell'=aE)(F:∀x∈(Value.cells (.agg #[aK ⟨#[]⟩,aK ⟨#[]⟩,.bool aF])).toList,S x)(base g n cap i:Nat)(xs:zV)(w:zW)(O:cT S w base 53 3 (aJ (aA ⟨g,0,aB⟩) n cap) n xs)(hn:n<=1000000)(hi:i<n):
  Calls zq 165 #[aJ (aA ⟨g,0,aB⟩) n cap,aC aD i,aC aD ((i:Int)+1)] w λe R=>e=aL (aJ (aA ⟨g,0,aB⟩) (n-1) cap)/\cT S R base 53 3 (aJ (aA ⟨g,0,aB⟩) (n-1) cap) (n-1) (xs.take (i*3)++xs.drop ((i+1)*3))/\w.grownBy R (aA g):=by
 obtain⟨d,J,hb,Z,Y,X,L,Q⟩:=O.row
 obtain⟨it,ti,T,r,M⟩:=uL (t:=53) (z:=(.agg #[aK ⟨#[]⟩,aK ⟨#[]⟩,.bool aF])) (s:=3) (b:=40) (by kernel_rfl)
 have H:xs.length=n*3:=O.1.1
 have k:d.toList.length=cap*3:=by rw[zBn,X]
 have C:∀x∈xs,S x:=λx l=>Q x (zCg (by rw[L];exact l))
 have K:(xs.drop ((i+1)*3)).length=(n-(i+1))*3:=by rw[zBa,H,<-aDP]
 have f:i*3+(xs.drop ((i+1)*3)).length<=d.toList.length:=by rw[K,k,<-zFd];exact zCi _ (by omega)
 obtain⟨W,A⟩:∃W,W=w.drew.setRow g (over d.toList (i*3) (xs.drop ((i+1)*3))).toArray:=⟨_,rfl⟩
 have D:W.heap[g]? =aA (aI (over d.toList (i*3) (xs.drop ((i+1)*3))).toArray 53 (0,0)):=by rw[A];exact zHf w.drew g d _ 53 _ J
 have U:∀ty,(Builtin.append_ #[48,48] ty #[aJ (aA ⟨g,0,aB⟩) i cap,aJ (if cap=i+1 then aA ⟨g,0,aB⟩else aA ⟨g,(i+1)*3,aB⟩) (n-(i+1)) (cap-(i+1))]).run zq w.drew= .ok (aJ (aA ⟨g,0,aB⟩) (i+(n-(i+1))) cap) W:=λty=>by
  rw[A];have:=λa c ha=>run_append_room (P:=zq) w.drew 48 ty 53 it ((Qz.cO 48).trans Tryz.underlying48) ti g i cap d J a (n-(i+1)) c (xs.drop ((i+1)*3)) (by rw[K,r]) ha (λu o=>E u (C u (zCb o))) (by omega) (by rw[r,<-zBn];exact f);rw[r]at this;by_cases V:cap=i+1
  .rw[zAk V];refine this _ _ λj u o=> ?_;have:=(zAi.1 o).1;rw[K,show n-(i+1)=0 by omega]at this;omega
  .rw[zAh V];refine this _ _ λj u o=> ?_;rw[aDO,zGy w.drew g _ d 53 (0,0) J,<-zBo];rw[zDv,<-L,zBy]at o;split at o
   .exact o
   .cases o
 obtain⟨G,y⟩:∃G,G=W.setRow g (over (over d.toList (i*3) (xs.drop ((i+1)*3))) (n*3-3) (Builtin.zeroCells (Value.cells (.agg #[aK ⟨#[]⟩,aK ⟨#[]⟩,.bool aF])) 1).toList).toArray:=⟨_,rfl⟩
 have v:(Builtin.zeroCells (Value.cells (.agg #[aK ⟨#[]⟩,aK ⟨#[]⟩,.bool aF])) 1).toList.length=3:=by rw[zBn,zHl];rfl
 have Hl:∀ty,(Builtin.clear_ #[48] ty #[aJ (aA ⟨g,(n-1)*3,aB⟩) 1 (cap-(n-1))]).run zq W= .ok (.tuple #[]) G:=λty=>by
  have:=pQ (P:=zq) W 48 ty 53 it (.agg #[aK ⟨#[]⟩,aK ⟨#[]⟩,.bool aF]) g ((n-1)*3) 1 (cap-(n-1)) _ 53 ((Qz.cO 48).trans Tryz.underlying48) ti T (zEj _) D (by
   show(n-1)*3+1*3<=(List.toArray _).size
   rw[zAl,bY f,k]
   rw[<-zFd]
   exact zCi _ (by omega)) (λu o=>E u (F u o))
  rw[this,y]
  congr 2
  show(List.take ((n-1)*3) _++_++_).toArray=_
  unfold over
  rw[show(n-1)*3=n*3-3 by omega,v]
  rfl
 have B:cT S G base 53 3 (aJ (aA ⟨g,0,aB⟩) (n-1) cap) (n-1) (xs.take (i*3)++xs.drop ((i+1)*3)):=by
  have N:n*3-3+(Builtin.zeroCells (Value.cells (.agg #[aK ⟨#[]⟩,aK ⟨#[]⟩,.bool aF])) 1).toList.length<=(over d.toList (i*3) (xs.drop ((i+1)*3))).length:=by rw[bY f,k,v];have:=zCi 3 Z;omega
  refine cT.of _ (by rw[y];exact zHf W g _ _ 53 _ D) hb (by omega) Y ?_ ?_ ?_
  .rw[zAl,bY N,bY f,k]
  .have:=tC (c:=d.toList) (xs:=xs) (zs:=(Builtin.zeroCells (Value.cells (.agg #[aK ⟨#[]⟩,aK ⟨#[]⟩,.bool aF])) 1).toList) (p:=i*3) (q:=3) (m:=n*3) L (by omega) (by rw[k];exact zCi _ Z) v;rw[show(n-1)*3=n*3-3 by omega,show(i+1)*3=i*3+3 by omega];exact this
  .intro x l;obtain l|l:=jR l
   .obtain l|l:=jR l
    .exact Q x l
    .exact C x (zCb l)
   .exact gH F 1 x l
 have I:w.grownBy G (aA g):=by rw[y,A];exact((nJ w (aA g)).trans (cN _ _ _)).trans (cN _ _ _)
 have HF:Hid (cT S G base 53 3 (aJ (aA ⟨g,0,aB⟩) (n-1) cap) (n-1) (xs.take (i*3)++xs.drop ((i+1)*3))):=B
 have HG:Hid (w.grownBy G (aA g)):=I
 have e1:i+(n-(i+1))=n-1:=by omega
 rw[e1]at U
 have i1:(i:Int)<(n:Int):=by omega
 have i2:(n:Int)<=(cap:Int):=by omega
 have i3:(cap:Int)<=9223372036854775807:=by simp only[maxLen]at Y;omega
 have i4:(0:Int)<=(i:Int):=by omega
 have i5:n-(n-1)=1:=by omega
 have oi:i<=cap:=by omega
 have oh:i+1<=cap:=by omega
 have iv:i+1<=n:=by omega
 have Qq:(0:Int)<=(i:Int)+1:=by omega
 have bs:(i:Int)+1<=(n:Int):=by omega
 have i6:¬(cap=n-1):=by omega
 clear B I O J L Q E F H k C K f A D y v ti T r M X e1
 go_enter Qz.func165,Tryz.ntmps165
 go_wp2_with fail
 go_region_law (refine jX rfl _ _ 48 48 rfl _ _ (by simp[Act.eval,Act.put]) (by simp[Act.eval,Act.put]) (U _) ?_)
 go_wp2
 .rename_i h;subst h;go_ret;exact⟨rfl,HF.out,HG.out⟩
 .go_ret;exact⟨rfl,HF.out,HG.out⟩
def Lz {S:zY->Prop}(E:∀x,S x->x.oneCell'=aE)(F:∀x∈(Value.cells (aJ aB 0 0)).toList,S x)(base g n cap i:Nat)(xs:zV)(w:zW)(R:cT S w base 48 1 (aJ (aA ⟨g,0,aB⟩) n cap) n xs)(hn:n<=1000000)(hi:i<n):
  Calls zq 156 #[aJ (aA ⟨g,0,aB⟩) n cap,aC aD i,aC aD ((i:Int)+1)] w λe V=>e=aL (aJ (aA ⟨g,0,aB⟩) (n-1) cap)/\cT S V base 48 1 (aJ (aA ⟨g,0,aB⟩) (n-1) cap) (n-1) (xs.take (i*1)++xs.drop ((i+1)*1))/\w.grownBy V (aA g):=by
 obtain⟨d,J,hb,h1,h2,Z,L,T⟩:=R.row
 obtain⟨it,ti,X,r,M⟩:=uL (t:=48) (z:=(aJ aB 0 0)) (s:=1) (b:=24) (by kernel_rfl)
 have H:xs.length=n*1:=R.1.1
 have k:d.toList.length=cap*1:=by rw[zBn,Z]
 have C:∀x∈xs,S x:=λx l=>T x (zCg (by rw[L];exact l))
 have K:(xs.drop ((i+1)*1)).length=(n-(i+1))*1:=by rw[zBa,H,<-aDP]
 have f:i*1+(xs.drop ((i+1)*1)).length<=d.toList.length:=by rw[K,k,<-zFd];exact zCi _ (by omega)
 obtain⟨W,A⟩:∃W,W=w.drew.setRow g (over d.toList (i*1) (xs.drop ((i+1)*1))).toArray:=⟨_,rfl⟩
 have D:W.heap[g]? =aA (aI (over d.toList (i*1) (xs.drop ((i+1)*1))).toArray 48 (0,0)):=by rw[A];exact zHf w.drew g d _ 48 _ J
 have O:∀ty,(Builtin.append_ #[163,163] ty #[aJ (aA ⟨g,0,aB⟩) i cap,aJ (if cap=i+1 then aA ⟨g,0,aB⟩else aA ⟨g,(i+1)*1,aB⟩) (n-(i+1)) (cap-(i+1))]).run zq w.drew= .ok (aJ (aA ⟨g,0,aB⟩) (i+(n-(i+1))) cap) W:=λty=>by
  rw[A];have:=λa c ha=>run_append_room (P:=zq) w.drew 163 ty 48 it ((Qz.cO 163).trans Tryz.underlying163) ti g i cap d J a (n-(i+1)) c (xs.drop ((i+1)*1)) (by rw[K,r]) ha (λu o=>E u (C u (zCb o))) (by omega) (by rw[r,<-zBn];exact f);rw[r]at this;by_cases Y:cap=i+1
  .rw[zAk Y];refine this _ _ λj u o=> ?_;have:=(zAi.1 o).1;rw[K,show n-(i+1)=0 by omega]at this;omega
  .rw[zAh Y];refine this _ _ λj u o=> ?_;rw[aDO,zGy w.drew g _ d 48 (0,0) J,<-zBo];rw[zDv,<-L,zBy]at o;split at o
   .exact o
   .cases o
 obtain⟨G,y⟩:∃G,G=W.setRow g (over (over d.toList (i*1) (xs.drop ((i+1)*1))) (n*1-1) (Builtin.zeroCells (Value.cells (aJ aB 0 0)) 1).toList).toArray:=⟨_,rfl⟩
 have v:(Builtin.zeroCells (Value.cells (aJ aB 0 0)) 1).toList.length=1:=by rw[zBn,zHl];rfl
 have Q:∀ty,(Builtin.clear_ #[163] ty #[aJ (aA ⟨g,(n-1)*1,aB⟩) 1 (cap-(n-1))]).run zq W= .ok (.tuple #[]) G:=λty=>by
  have:=pQ (P:=zq) W 163 ty 48 it (aJ aB 0 0) g ((n-1)*1) 1 (cap-(n-1)) _ 48 ((Qz.cO 163).trans Tryz.underlying163) ti X (zEj _) D (by
   show(n-1)*1+1*1<=(List.toArray _).size
   rw[zAl,bY f,k]
   rw[<-zFd]
   exact zCi _ (by omega)) (λu o=>E u (F u o))
  rw[this,y]
  congr 2
  show(List.take ((n-1)*1) _++_++_).toArray=_
  unfold over
  rw[show(n-1)*1=n*1-1 by omega,v]
  rfl
 have B:cT S G base 48 1 (aJ (aA ⟨g,0,aB⟩) (n-1) cap) (n-1) (xs.take (i*1)++xs.drop ((i+1)*1)):=by
  have N:n*1-1+(Builtin.zeroCells (Value.cells (aJ aB 0 0)) 1).toList.length<=(over d.toList (i*1) (xs.drop ((i+1)*1))).length:=by rw[bY f,k,v];have:=zCi 1 h1;omega
  refine cT.of _ (by rw[y];exact zHf W g _ _ 48 _ D) hb (by omega) h2 ?_ ?_ ?_
  .rw[zAl,bY N,bY f,k]
  .have:=tC (c:=d.toList) (xs:=xs) (zs:=(Builtin.zeroCells (Value.cells (aJ aB 0 0)) 1).toList) (p:=i*1) (q:=1) (m:=n*1) L (by omega) (by rw[k];exact zCi _ h1) v;rw[show(n-1)*1=n*1-1 by omega,show(i+1)*1=i*1+1 by omega];exact this
  .intro x l;obtain l|l:=jR l
   .obtain l|l:=jR l
    .exact T x l
    .exact C x (zCb l)
   .exact gH F 1 x l
 have I:w.grownBy G (aA g):=by rw[y,A];exact((nJ w (aA g)).trans (cN _ _ _)).trans (cN _ _ _)
 have U:Hid (cT S G base 48 1 (aJ (aA ⟨g,0,aB⟩) (n-1) cap) (n-1) (xs.take (i*1)++xs.drop ((i+1)*1))):=B
 have HG:Hid (w.grownBy G (aA g)):=I
 have e1:i+(n-(i+1))=n-1:=by omega
 rw[e1]at O
 have i1:(i:Int)<(n:Int):=by omega
 have i2:(n:Int)<=(cap:Int):=by omega
 have i3:(cap:Int)<=9223372036854775807:=by simp only[maxLen]at h2;omega
 have i4:(0:Int)<=(i:Int):=by omega
 have i5:n-(n-1)=1:=by omega
 have oi:i<=cap:=by omega
 have oh:i+1<=cap:=by omega
 have iv:i+1<=n:=by omega
 have Qq:(0:Int)<=(i:Int)+1:=by omega
 have bs:(i:Int)+1<=(n:Int):=by omega
 have i6:¬(cap=n-1):=by omega
 clear B I R J L T E F H k C K f A D y v ti X r M Z e1
 simp only[zFr]at O Q U⊢
 go_enter Qz.func156,Tryz.ntmps156
 go_wp2_with fail
 go_region_law (refine jX rfl _ _ 163 163 rfl _ _ (by simp[Act.eval,Act.put]) (by simp[Act.eval,Act.put]) (O _) ?_)
 go_wp2
 .rename_i h;subst h;go_ret;exact⟨rfl,U.out,HG.out⟩
 .go_ret;exact⟨rfl,U.out,HG.out⟩
def Lx {S:zY->Prop}(E:∀x,S x->x.oneCell'=aE)(F:∀x∈(Value.cells (aK ⟨#[]⟩)).toList,S x)(base g n cap i:Nat)(xs:zV)(w:zW)(R:cT S w base 9 1 (aJ (aA ⟨g,0,aB⟩) n cap) n xs)(hn:n<=1000000)(hi:i<n):
  Calls zq 65 #[aJ (aA ⟨g,0,aB⟩) n cap,aC aD i,aC aD ((i:Int)+1)] w λe V=>e=aL (aJ (aA ⟨g,0,aB⟩) (n-1) cap)/\cT S V base 9 1 (aJ (aA ⟨g,0,aB⟩) (n-1) cap) (n-1) (xs.take (i*1)++xs.drop ((i+1)*1))/\w.grownBy V (aA g):=by
 obtain⟨d,J,hb,h1,h2,Z,L,T⟩:=R.row
 obtain⟨it,ti,X,r,M⟩:=uL (t:=9) (z:=(aK ⟨#[]⟩)) (s:=1) (b:=16) (by kernel_rfl)
 have H:xs.length=n*1:=R.1.1
 have k:d.toList.length=cap*1:=by rw[zBn,Z]
 have C:∀x∈xs,S x:=λx l=>T x (zCg (by rw[L];exact l))
 have K:(xs.drop ((i+1)*1)).length=(n-(i+1))*1:=by rw[zBa,H,<-aDP]
 have f:i*1+(xs.drop ((i+1)*1)).length<=d.toList.length:=by rw[K,k,<-zFd];exact zCi _ (by omega)
 obtain⟨W,A⟩:∃W,W=w.drew.setRow g (over d.toList (i*1) (xs.drop ((i+1)*1))).toArray:=⟨_,rfl⟩
 have D:W.heap[g]? =aA (aI (over d.toList (i*1) (xs.drop ((i+1)*1))).toArray 9 (0,0)):=by rw[A];exact zHf w.drew g d _ 9 _ J
 have O:∀ty,(Builtin.append_ #[82,82] ty #[aJ (aA ⟨g,0,aB⟩) i cap,aJ (if cap=i+1 then aA ⟨g,0,aB⟩else aA ⟨g,(i+1)*1,aB⟩) (n-(i+1)) (cap-(i+1))]).run zq w.drew= .ok (aJ (aA ⟨g,0,aB⟩) (i+(n-(i+1))) cap) W:=λty=>by
  rw[A];have:=λa c ha=>run_append_room (P:=zq) w.drew 82 ty 9 it ((Qz.cO 82).trans Tryz.underlying82) ti g i cap d J a (n-(i+1)) c (xs.drop ((i+1)*1)) (by rw[K,r]) ha (λu o=>E u (C u (zCb o))) (by omega) (by rw[r,<-zBn];exact f);rw[r]at this;by_cases Y:cap=i+1
  .rw[zAk Y];refine this _ _ λj u o=> ?_;have:=(zAi.1 o).1;rw[K,show n-(i+1)=0 by omega]at this;omega
  .rw[zAh Y];refine this _ _ λj u o=> ?_;rw[aDO,zGy w.drew g _ d 9 (0,0) J,<-zBo];rw[zDv,<-L,zBy]at o;split at o
   .exact o
   .cases o
 obtain⟨G,y⟩:∃G,G=W.setRow g (over (over d.toList (i*1) (xs.drop ((i+1)*1))) (n*1-1) (Builtin.zeroCells (Value.cells (aK ⟨#[]⟩)) 1).toList).toArray:=⟨_,rfl⟩
 have v:(Builtin.zeroCells (Value.cells (aK ⟨#[]⟩)) 1).toList.length=1:=by rw[zBn,zHl];rfl
 have Q:∀ty,(Builtin.clear_ #[82] ty #[aJ (aA ⟨g,(n-1)*1,aB⟩) 1 (cap-(n-1))]).run zq W= .ok (.tuple #[]) G:=λty=>by
  have:=pQ (P:=zq) W 82 ty 9 it (aK ⟨#[]⟩) g ((n-1)*1) 1 (cap-(n-1)) _ 9 ((Qz.cO 82).trans Tryz.underlying82) ti X (zEj _) D (by
   show(n-1)*1+1*1<=(List.toArray _).size
   rw[zAl,bY f,k]
   rw[<-zFd]
   exact zCi _ (by omega)) (λu o=>E u (F u o))
  rw[this,y]
  congr 2
  show(List.take ((n-1)*1) _++_++_).toArray=_
  unfold over
  rw[show(n-1)*1=n*1-1 by omega,v]
  rfl
 have B:cT S G base 9 1 (aJ (aA ⟨g,0,aB⟩) (n-1) cap) (n-1) (xs.take (i*1)++xs.drop ((i+1)*1)):=by
  have N:n*1-1+(Builtin.zeroCells (Value.cells (aK ⟨#[]⟩)) 1).toList.length<=(over d.toList (i*1) (xs.drop ((i+1)*1))).length:=by rw[bY f,k,v];have:=zCi 1 h1;omega
  refine cT.of _ (by rw[y];exact zHf W g _ _ 9 _ D) hb (by omega) h2 ?_ ?_ ?_
  .rw[zAl,bY N,bY f,k]
  .have:=tC (c:=d.toList) (xs:=xs) (zs:=(Builtin.zeroCells (Value.cells (aK ⟨#[]⟩)) 1).toList) (p:=i*1) (q:=1) (m:=n*1) L (by omega) (by rw[k];exact zCi _ h1) v;rw[show(n-1)*1=n*1-1 by omega,show(i+1)*1=i*1+1 by omega];exact this
  .intro x l;obtain l|l:=jR l
   .obtain l|l:=jR l
    .exact T x l
    .exact C x (zCb l)
   .exact gH F 1 x l
 have I:w.grownBy G (aA g):=by rw[y,A];exact((nJ w (aA g)).trans (cN _ _ _)).trans (cN _ _ _)
 have U:Hid (cT S G base 9 1 (aJ (aA ⟨g,0,aB⟩) (n-1) cap) (n-1) (xs.take (i*1)++xs.drop ((i+1)*1))):=B
 have HG:Hid (w.grownBy G (aA g)):=I
 have e1:i+(n-(i+1))=n-1:=by omega
 rw[e1]at O
 have i1:(i:Int)<(n:Int):=by omega
 have i2:(n:Int)<=(cap:Int):=by omega
 have i3:(cap:Int)<=9223372036854775807:=by simp only[maxLen]at h2;omega
 have i4:(0:Int)<=(i:Int):=by omega
 have i5:n-(n-1)=1:=by omega
 have oi:i<=cap:=by omega
 have oh:i+1<=cap:=by omega
 have iv:i+1<=n:=by omega
 have Qq:(0:Int)<=(i:Int)+1:=by omega
 have bs:(i:Int)+1<=(n:Int):=by omega
 have i6:¬(cap=n-1):=by omega
 clear B I R J L T E F H k C K f A D y v ti X r M Z e1
 simp only[zFr]at O Q U⊢
 go_enter Qz.func65,Tryz.ntmps65
 go_wp2_with fail
 go_region_law (refine jX rfl _ _ 82 82 rfl _ _ (by simp[Act.eval,Act.put]) (by simp[Act.eval,Act.put]) (O _) ?_)
 go_wp2
 .rename_i h;subst h;go_ret;exact⟨rfl,U.out,HG.out⟩
 .go_ret;exact⟨rfl,U.out,HG.out⟩
def NJ:∃i,zq.info? 53=aA i/\i.zero=aA (.agg #[aK ⟨#[]⟩,aK ⟨#[]⟩,.bool aF])/\i.size=3/\i.bytes=40:=uL (by kernel_rfl)
section
variable {S:zY->Prop}{base g n cap i vb vc:Nat}{xs vs:zV}{v:zY}{w:zW}
def Km (B:∀x,S x->x.oneCell'=aE)(T:cT S w base 53 3 (aJ (aA ⟨g,0,aB⟩) n cap) n xs)(hn:n<=1000000)(hi:i<n)(N:n+1<=cap)
  (G:w.heap[vb]? =aA (aI vs.toArray 53 (0,0))) (k:vs.length=3) (y:∀x∈vs,S x) (H:vb≠g):
  Calls zq 166 #[aJ (aA ⟨g,0,aB⟩) n cap,aC aD i,aJ (aA ⟨vb,0,aB⟩) 1 vc] w λe Y=>e=aL (aJ (aA ⟨g,0,aB⟩) (n+1) cap)/\cT S Y base 53 3 (aJ (aA ⟨g,0,aB⟩) (n+1) cap) (n+1) (xs.take (i*3)++vs++xs.drop (i*3))/\w.grownBy Y (aA g):=by
 obtain⟨a,J,hb,h1,h2,Z,K,V⟩:=T.row
 obtain⟨it,ti,tz,t,L⟩:=NJ
 have E:xs.length=n*3:=T.1.1
 have l:a.toList.length=cap*3:=by rw[zBn,Z]
 have s:∀x∈xs,S x:=λx b=>V x (zCg (by rw[K];exact b))
 have U:(xs.drop (i*3)).length=(n-i)*3:=by rw[zBa,E,<-aDP]
 have h:(i+1)*3+(xs.drop (i*3)).length<=a.toList.length:=by rw[U,l];omega
 have O:∀M X,(callFunc 177 #[aJ (aA ⟨vb,0,aB⟩) 1 vc,aJ (aA ⟨g,(i+1)*3,aB⟩) M X]).run zq w= .ok (.value (.bool aF)) w:=λM X=>by
  rw[run_callFunc_extern Qz.func177 (by kernel_rfl) (by kernel_rfl) (by kernel_rfl) (e:=Extern.SlicesOverlaps.overlaps #[48,48] #[4]) (by kernel_rfl),
   Lib.run_overlaps_apart w 48 4 53 ((Qz.cO 48).trans Tryz.underlying48) 3 (λw=>(Qz.sizeOf w 53).trans (Tryz.sizeOf53 w)) ⟨vb,0,aB⟩ ⟨g,(i+1)*3,aB⟩ 1 vc M X H 53 53 vs.length a.size (by simp[World.shape?,G]) (by simp[World.shape?,J]) (by omega) (by simp[World.frozen?,G]) (by simp[World.frozen?,G])]
  rfl
 obtain⟨W,d⟩:∃W,W=w.drew.setRow g (over a.toList ((i+1)*3) (xs.drop (i*3))).toArray:=⟨_,rfl⟩
 have A:W.heap[g]? =aA (aI (over a.toList ((i+1)*3) (xs.drop (i*3))).toArray 53 (0,0)):=by rw[d];exact zHf w.drew g a _ 53 _ J
 have F:W.heap[vb]? =aA (aI vs.toArray 53 (0,0)):=by rw[d,setRow_other _ _ _ _ H];exact G
 have R:∀ty C sc,(Builtin.copy_ #[48,48] ty #[aJ (aA ⟨g,(i+1)*3,aB⟩) (n-i) C,aJ (aA ⟨g,i*3,aB⟩) (n+1-i) sc]).run zq w.drew= .ok (goInt ((n-i:Nat):Int)) W:=λty C sc=>by
  have I:aDM (n+1-i) (n-i)=n-i:=by show min _ _=_;omega
  have:=nH (P:=zq) w.drew 48 48 ty 53 it g ((i+1)*3) (n-i) C ⟨g,i*3,aB⟩ (n+1-i) sc a 53 (xs.drop (i*3)) ((Qz.cO 48).trans Tryz.underlying48) ti J (by rw[I,U,t]) (λj u f=>by
   rw[aDO,zGy w.drew g _ a 53 (0,0) J,<-zBo];rw[zDv,<-K,zBy]at f;split at f
   .exact f
   .cases f) (by rw[<-zBn];exact h) (λu f=>B u (s u (zCb f)))
  rw[this,I,d]
  rfl
 have z:i*3+vs.length<=(over a.toList ((i+1)*3) (xs.drop (i*3))).length:=by rw[bY h,l,k];omega
 obtain⟨D,o⟩:∃D,D=W.setRow g (over (over a.toList ((i+1)*3) (xs.drop (i*3))) (i*3) vs).toArray:=⟨_,rfl⟩
 have Q:∀ty C,(Builtin.copy_ #[48,48] ty #[aJ (aA ⟨g,i*3,aB⟩) (n+1-i) C,aJ (aA ⟨vb,0,aB⟩) 1 vc]).run zq W= .ok (goInt 1) D:=λty C=>by
  have I:aDM 1 (n+1-i)=1:=by show min _ _=_;omega
  have:=nH (P:=zq) W 48 48 ty 53 it g (i*3) (n+1-i) C ⟨vb,0,aB⟩ 1 vc _ 53 vs ((Qz.cO 48).trans Tryz.underlying48) ti A (by rw[I,k,t]) (λj u f=>by rw[aDO,zGy W vb _ vs.toArray 53 (0,0) F,zAv];simpa using f) (by rw[zAl];exact z) (λu f=>B u (y u f))
  rw[this,I,o]
  rfl
 have r:cT S D base 53 3 (aJ (aA ⟨g,0,aB⟩) (n+1) cap) (n+1) (xs.take (i*3)++vs++xs.drop (i*3)):=by
  refine cT.of _ (by rw[o];exact zHf W g _ _ 53 _ A) hb (by omega) h2 ?_ ?_ ?_
  .rw[zAl,bY z,bY h,l]
  .have:=SR (c:=a.toList) (xs:=xs) (vs:=vs) (p:=i*3) (q:=3) (m:=n*3) K (by omega) k (by omega);rw[show(n+1)*3=n*3+3 by omega,show(i+1)*3=i*3+3 by omega];exact this
  .intro x b;obtain b|b:=jR b
   .obtain b|b:=jR b
    .exact V x b
    .exact s x (zCb b)
   .exact y x b
 have HF:Hid (cT S D base 53 3 (aJ (aA ⟨g,0,aB⟩) (n+1) cap) (n+1) (xs.take (i*3)++vs++xs.drop (i*3))):=r
 have HG:Hid (w.grownBy D (aA g)):=by
  show w.grownBy D (aA g)
  rw[o,d]
  exact((nJ w (aA g)).trans (cN _ _ _)).trans (cN _ _ _)
 have i1:(i:Int)<(n:Int):=by omega
 have i2:(n:Int)+1<=(cap:Int):=by omega
 have i3:(cap:Int)<=9223372036854775807:=by simp only[maxLen]at h2;omega
 have i4:(0:Int)<=(i:Int):=by omega
 have xf:i<=n:=by omega
 have mi:¬((i:Int)=(n:Int)):=by omega
 have Hm:(0:Int)<=(i:Int)+1:=by omega
 have VT:¬(cap=i+1):=by omega
 have cj:(i:Int)<=(n:Int)+1:=by omega
 have cg:¬(cap=i):=by omega
 have Ur:(i:Int)+1<=(n:Int)+1:=by omega
 have Zb:i+1<=n+1:=by omega
 have yu:i<=n+1:=by omega
 have Wk:IntKind.i64.wrap ((i:Int)+1)=(i:Int)+1:=by rw[zGw];omega
 have gh:((i:Int)+1).toNat=i+1:=by omega
 clear r T J K V B E l s U h d A o ti tz t L Z G y k z F
 go_enter Qz.func166,Tryz.ntmps166
 go_wp2_with (simp only[O])
 go_region_law (refine vN rfl _ _ 48 48 rfl _ _ (by simp[Act.eval,Act.put]) (by simp[Act.eval,Act.put]) (R _ _ _) ?_)
 go_wp2_with (at_builtin;refine rY rfl _ _ 48 48 rfl _ _ rfl rfl (Q _ _) ?_)
 go_ret
 exact⟨rfl,HF.out,HG.out⟩
def Kn (U:∀x,S x->x.oneCell'=aE)(V:∀x∈(Value.cells (.agg #[aK ⟨#[]⟩,aK ⟨#[]⟩,.bool aF])).toList,S x)(hO:cT S w base 53 3 (aJ (aA ⟨g,0,aB⟩) n cap) n xs)(hn:n<=1000000)(hi:i<n)(J:cap<n+1)
  (hv:w.heap[vb]? =aA (aI vs.toArray 53 (0,0))) (A:vs.length=3) (I:∀x∈vs,S x) (T:base<=w.heap.size):
  Calls zq 166 #[aJ (aA ⟨g,0,aB⟩) n cap,aC aD i,aJ (aA ⟨vb,0,aB⟩) 1 vc] w λe w'=>∃G,e=aL (aJ (aA ⟨w.heap.size,0,aB⟩) (n+1) G)/\cT S w' base 53 3 (aJ (aA ⟨w.heap.size,0,aB⟩) (n+1) G) (n+1) (xs.take (i*3)++vs++xs.drop (i*3))/\w.grownBy w' (aA g):=by
 obtain⟨cur,hh,hb,h1,h2,h3,h4,h5⟩:=hO.row
 obtain⟨it,ti,tz,y,F⟩:=NJ
 have r:xs.length=n*3:=hO.1.1
 have Ku:cur.toList.length=cap*3:=by rw[zBn,h3]
 have z:∀x∈xs,S x:=λx a=>h5 x (zCg (by rw[h4];exact a))
 have hD:(xs.drop (i*3)).length=(n-i)*3:=by rw[zBa,r,<-aDP]
 have oq:g<w.heap.size:=(zAb.1 hh).1
 have gd:vb<w.heap.size:=(zAb.1 hv).1
 have H:∀(W:zW),W.heap[g]? =w.heap[g]?->∀j u,xs[j]? =aA u->W.cell? ⟨g,j,aB⟩=aA u:=λW hW j u o=>by
  rw[zGy W g _ cur 53 (0,0) (hW.trans hh),<-zBo];rw[<-h4,zBy]at o;split at o
  .exact o
  .cases o
 obtain⟨G,hG⟩:∃G,G=grownCap w (n+1) cap 53:=⟨_,rfl⟩
 have zv:n+1<=G:=by rw[hG];exact grownCap_ge w _ _ _
 have qg:G<=maxLen:=by rw[hG];exact grownCap_le_maxLen w _ _ _ (by unfold maxLen;omega)
 obtain⟨R,l⟩:∃R:zA,R=(xs.take (i*3)).toArray++Builtin.zeroCells (Value.cells (.agg #[aK ⟨#[]⟩,aK ⟨#[]⟩,.bool aF])) (n+1-i)++Builtin.zeroCells (Value.cells (.agg #[aK ⟨#[]⟩,aK ⟨#[]⟩,.bool aF])) (G-(n+1)):=⟨_,rfl⟩
 have C:R.toList.length=G*3:=by
  rw[l,zBn,zEb,zEb,zHl,zHl,zAl,zAn,r];show min (i*3) (n*3)+(n+1-i)*3+(G-(n+1))*3=G*3
  omega
 have qa:R.toList.take (i*3)=xs.take (i*3):=by
  rw[l,zEa,zEa,zBu];rw[zCn (by show i*3<=(xs.take (i*3)).length;rw[zAn];omega)];show(xs.take (i*3)).take (i*3)=_
  rw[List.take_take,Nat.min_self]
 have qb:∀x∈R.toList,S x:=by
  intro x a;rw[l,zEa,zEa]at a;obtain a|a:=zCh.1 a
  .obtain a|a:=zCh.1 a
   .exact z x (zCg a)
   .exact gH V _ x a
  .exact gH V _ x a
 obtain⟨t,f⟩:∃t,t=w.drew.alloc (aI R 53):=⟨_,rfl⟩
 have Q:t.heap[w.heap.size]? =aA (aI R 53 (0,0)):=by rw[f];exact zHh w.drew _
 have L:∀k,k<w.heap.size->t.heap[k]? =w.heap[k]? :=λk Y=>by rw[f];first|exact heap_alloc_old w.drew _ Y|exact heap_alloc_old w.drew _ k Y
 have D:(Builtin.firstCells it.size i (aJ (aA ⟨g,0,aB⟩) i cap)).run zq w.drew= .ok (xs.take (i*3)).toArray w.drew:=by
  rw[y];exact run_firstCells_some w.drew 3 i ⟨g,0,aB⟩ i cap (xs.take (i*3)) (by rw[zAn,r];omega) (λj u hj=>by
   rw[aDO,zAv];rw[zBy]at hj;split at hj
   .exact H w.drew rfl j u hj
   .cases hj)
 have N:i+(n+1-i)=n+1:=by omega
 have oe:(n:Int)+1-(i:Int)=((n+1-i:Nat):Int):=by omega
 have ve:∀ty,(Builtin.append_ #[48,3] ty #[aJ (aA ⟨g,0,aB⟩) i cap,aC aD ((n:Int)+1-(i:Int))]).run zq w= .ok (aJ (aA ⟨w.heap.size,0,aB⟩) (n+1) G) t:=λty=>by have h:=Lib.run_append_grow_zeros w 48 3 ty 53 it _ aD aD ((Qz.cO 48).trans Tryz.underlying48) ((Qz.cO 3).trans Tryz.underlying3) ti tz (aA ⟨g,0,aB⟩) i cap (xs.take (i*3)) D (n+1-i) (by omega) (by omega) (by omega) (by omega) (by rw[F];omega) (by rw[F,N];exact growslice_fits J (by omega));rw[N,<-hG,<-l]at h;rw[oe,f];exact h
 have B:i*3+vs.length<=R.toList.length:=by rw[C,A];omega
 obtain⟨s,d⟩:∃s,s=t.setRow w.heap.size (over R.toList (i*3) vs).toArray:=⟨_,rfl⟩
 have O:s.heap[w.heap.size]? =aA (aI (over R.toList (i*3) vs).toArray 53 (0,0)):=by rw[d];exact zHf t _ _ _ 53 _ Q
 have K:∀k,k<w.heap.size->s.heap[k]? =w.heap[k]? :=λk Y=>by rw[d,setRow_other _ _ _ _ (by omega)];exact L k Y
 have Za:∀ty X,(Builtin.copy_ #[48,48] ty #[aJ (aA ⟨w.heap.size,i*3,aB⟩) (n+1-i) X,aJ (aA ⟨vb,0,aB⟩) 1 vc]).run zq t= .ok (goInt 1) s:=λty X=>by
  have hm:aDM 1 (n+1-i)=1:=by show min _ _=_;omega
  have:=nH (P:=zq) t 48 48 ty 53 it w.heap.size (i*3) (n+1-i) X ⟨vb,0,aB⟩ 1 vc _ 53 vs ((Qz.cO 48).trans Tryz.underlying48) ti Q (by rw[hm,A,y]) (λj u o=>by rw[aDO,zGy t vb _ vs.toArray 53 (0,0) ((L vb gd).trans hv),zAv];simpa using o) (by rw[<-zBn];exact B) (λu o=>U u (I u o))
  rw[this,hm,d]
  rfl
 have M:(i+1)*3+(xs.drop (i*3)).length<=(over R.toList (i*3) vs).length:=by rw[bY B,C,hD];omega
 obtain⟨Z,b⟩:∃Z,Z=s.drew.setRow w.heap.size (over (over R.toList (i*3) vs) ((i+1)*3) (xs.drop (i*3))).toArray:=⟨_,rfl⟩
 have Yz:∀ty X sc,(Builtin.copy_ #[48,48] ty #[aJ (aA ⟨w.heap.size,(i+1)*3,aB⟩) (n-i) X,aJ (aA ⟨g,i*3,aB⟩) (n-i) sc]).run zq s.drew= .ok (goInt ((n-i:Nat):Int)) Z:=λty X sc=>by
  have hm:aDM (n-i) (n-i)=n-i:=by show min _ _=_;omega
  have:=nH (P:=zq) s.drew 48 48 ty 53 it w.heap.size ((i+1)*3) (n-i) X ⟨g,i*3,aB⟩ (n-i) sc _ 53 (xs.drop (i*3)) ((Qz.cO 48).trans Tryz.underlying48) ti O (by rw[hm,hD,y]) (λj u o=>by rw[aDO];rw[zDv]at o;exact H s.drew (K g oq) _ u o) (by rw[zAl];exact M) (λu o=>U u (z u (zCb o)))
  rw[this,hm,b]
  rfl
 have E:cT S Z base 53 3 (aJ (aA ⟨w.heap.size,0,aB⟩) (n+1) G) (n+1) (xs.take (i*3)++vs++xs.drop (i*3)):=by
  refine cT.of _ (by rw[b];exact zHf s.drew _ _ _ 53 _ O) T zv qg ?_ ?_ ?_
  .rw[zAl,bY M,bY B,C]
  .have:=Jp (c:=R.toList) (xs:=xs) (vs:=vs) (p:=i*3) (q:=3) (m:=n*3) qa r (by omega) A (by omega);rw[show(n+1)*3=n*3+3 by omega,show(i+1)*3=i*3+3 by omega];exact this
  .intro x a;obtain a|a:=jR a
   .obtain a|a:=jR a
    .exact qb x a
    .exact I x a
   .exact z x (zCb a)
 have HF:Hid (cT S Z base 53 3 (aJ (aA ⟨w.heap.size,0,aB⟩) (n+1) G) (n+1) (xs.take (i*3)++vs++xs.drop (i*3))):=E
 have HG:Hid (w.grownBy Z (aA g)):=by
  refine⟨?_,?_,?_,?_,λk Y _=> ?_⟩
  .rw[b,d,f];rfl
  .rw[b,d,f];rfl
  .rw[b,d,f];rfl
  .rw[b,d,f];simp
  .rw[b,setRow_other _ _ _ _ (by omega)];exact K k Y
 have i1:(i:Int)<(n:Int):=by omega
 have i2:(n:Int)<=(cap:Int):=by omega
 have i22:(cap:Int)<(n:Int)+1:=by omega
 have i3:(cap:Int)<=9223372036854775807:=by simp only[maxLen]at h2;omega
 have i33:(G:Int)<=9223372036854775807:=by simp only[maxLen]at qg;omega
 have i34:(n:Int)+1<=(G:Int):=by omega
 have i4:(0:Int)<=(i:Int):=by omega
 have xf:i<=n:=by omega
 have mi:¬((i:Int)=(n:Int)):=by omega
 have Hm:(0:Int)<=(i:Int)+1:=by omega
 have VT:¬(G=i+1):=by omega
 have cj:(i:Int)<=(n:Int)+1:=by omega
 have cg:¬(cap=i):=by omega
 have yv:¬(G=i):=by omega
 have Ur:(i:Int)+1<=(n:Int)+1:=by omega
 have Zb:i+1<=n+1:=by omega
 have yu:i<=n+1:=by omega
 have cf:i<=cap:=by omega
 have Wk:IntKind.i64.wrap ((i:Int)+1)=(i:Int)+1:=by rw[zGw];omega
 have gh:((i:Int)+1).toNat=i+1:=by omega
 clear E hO hh h4 h5 U V r Ku z hD f Q d O b ti tz y F h3 hv I A B M L K D l C qa qb hG H oe N
 go_enter Qz.func166,Tryz.ntmps166
 go_wp2_with (at_builtin;first|refine wpList_append_run rfl _ _ 48 3 rfl _ _ rfl rfl (ve _) ?_|refine rY rfl _ _ 48 48 rfl _ _ rfl rfl (Za _ _) ?_)
 go_region_law (refine vN rfl _ _ 48 48 rfl _ _ (by simp[Act.eval,Act.put]) (by simp[Act.eval,Act.put]) (Yz _ _ _) ?_)
 go_wp2
 go_ret
 exact⟨G,rfl,HF.out,HG.out⟩
end
open Go.RowKit Sha
def eL {l:List gL}{a:gL}{I:zB}:fS (a::l) I=if a.1=I then aA a.2 else fS l I:=by
 unfold fS;by_cases h:a.1=I
 .rw[List.find?_cons_of_pos (by simpa using h),zAk h];rfl
 .rw[List.find?_cons_of_neg (by simpa using h),zAh h]
def LU:∀{l m:List gL},fJ l->fJ m->(∀I,fS l I=fS m I)->l=m
 |[],[],_,_,_=>rfl
 |[],b::m,_,_,h=>by have:=h b.1;rw[eL,zAk rfl]at this;cases this
 |a::l,[],_,_,h=>by have:=h a.1;rw[eL,zAk rfl]at this;cases this
 |a::l,b::m,i,hm,h=>by
  unfold fJ at i hm;rw[zDh]at i hm;have g:∀{x:gL}{r:List gL},(∀e∈r,aDw x.1 e.1= -1)->∀e∈r,e.1≠x.1:=λo e f d=>by have:=o e f;rw[d,eD]at this;cases this
  have j:a.1=b.1:=by
   obtain c|c|c:=iA a.1 b.1
   .exfalso;have:=h a.1;rw[eL,zAk rfl,eL,zAh (λe=>by rw[e,eD]at c;cases c),gQ]at this
    .cases this
    .intro e f d;have n:=hm.1 e f;rw[d]at n;have:=iW b.1 a.1;omega
   .exact mU c
   .exfalso;have c':aDw b.1 a.1= -1:=by have:=iW a.1 b.1;omega
    have:=h b.1;rw[eL (a:=b),zAk rfl,eL,zAh (λe=>by rw[e,eD]at c;cases c),gQ]at this
    .cases this
    .intro e f d;have n:=i.1 e f;rw[d]at n;have:=iW a.1 b.1;omega
  have p:a.2=b.2:=by have:=h a.1;rw[eL,zAk rfl,eL,zAk j.symm]at this;exact zAm this
  have f:a=b:=Prod.ext j p
  subst f
  rw[LU i.2 hm.2 λI=> ?_]
  have:=h I
  rw[eL,eL]at this
  by_cases k:a.1=I
  .subst k;rw[gQ (g i.1),gQ (g hm.1)]
  .rw[zAh k,zAh k]at this;exact this
def get_append (l m:List gL)(I:zB):fS (l++m) I=(fS l I).or (fS m I):=by unfold fS;rw[List.find?_append];cases h:l.find? λe=>e.1==I<;>rfl
def get_filter {l:List gL}{q:gL->Bool}{I:zB}(h:∀e,e.1=I->q e=aE):fS (l.filter q) I=fS l I:=by
 induction l with
 |nil=>rfl
 |cons a l i=>
  by_cases b:a.1=I
  .rw[zBj (h a b),eL,eL,zAk b,zAk b]
  .rw[eL,zAh b];cases c:q a with
   |true=>rw[zBj c,eL,zAh b,i]
   |false=>rw[zAu (by rw[c];decide),i]
def get_put (l:List gL)(u:bK)(I:zB):fS (BE l u) I=if u.idx=I then(if u.gone then aB else aA u.val)else fS l I:=by
 unfold BE;rw[get_append,get_append];by_cases h:u.idx=I
 .subst h;rw[zAk rfl,gQ (λe b a=>by
   have:=of_decide_eq_true (zBz.1 b).2;rw[a,eD]at this;cases this),gQ (l:=l.filter λe=>decide (aDw e.1 u.idx=1)) (λe b a=>by
   have:=of_decide_eq_true (zBz.1 b).2
   rw[a,eD]at this;cases this)]
  cases u.gone
  .simp[eL]
  .simp[fS]
 .rw[zAh h];have d:fS (if u.gone then []else [(u.idx,u.val)]) I=aB:=by
   split
   .rfl
   .rw[eL,zAh h];rfl
  rw[d];obtain c|c|c:=iA I u.idx
  .rw[get_filter (l:=l) (q:=λe=>decide (aDw e.1 u.idx= -1)) (λe b=>by rw[b,c];rfl),gQ (l:=l.filter λe=>decide (aDw e.1 u.idx=1)) (λe b a=>by
    have:=of_decide_eq_true (zBz.1 b).2;rw[a,c]at this;cases this)]
   cases fS l I<;>rfl
  .exact absurd (mU c).symm h
  .rw[get_filter (l:=l) (q:=λe=>decide (aDw e.1 u.idx=1)) (λe b=>by rw[b,c];rfl),gQ (l:=l.filter λe=>decide (aDw e.1 u.idx= -1)) (λe b a=>by
    have:=of_decide_eq_true (zBz.1 b).2;rw[a,c]at this;cases this)]
   rfl
end Go.Proofs.Zq
