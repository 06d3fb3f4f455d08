import Derived.Deep.AppendLies
import Derived.Deep.RegionLaw
import Derived.Test.YtghpcgagijhlaaaGreatDoorP26
set_option linter.all false
set_option maxRecDepth 100000
set_option maxHeartbeats 16000000
open Option renaming some->aA,none->aB
open Bool renaming true->aE,false->aF
open Go.Ending renaming returned->aL
open Go.Obj renaming cells->aI
open Go.IntKind renaming i64->aD,u8->aP
open Go.Value renaming slice->aJ,string->aK,pointer->aN,int->aC
open ByteArray renaming size->aDo
namespace Go.Proofs.Zq
open Go.RowKit Sha
def Ml (y r:Nat)(h:y<256)(a:r<8):(bits .and aP ((y:Int)*2^r%256) 128 !=0)=decide (y/2^(7-r)%2=1):=by
 have H:∀y:Fin 256,∀r:Fin 8,(bits .and aP ((y.val:Int)*2^r.val%256) 128 !=0)=decide (y.val/2^(7-r.val)%2=1):=by decide+kernel
 exact H ⟨y,h⟩ ⟨r,a⟩
def oG (s:ByteArray)(k:Nat)(w:zW)(b:k/8<s.size)(hs:s.size<=9223372036854775807)(h:k<=4611686018427387904):
  Calls zq 82 #[aK s,aC aD k] w λe a=>e=aL (.bool (decide (bQ s.data.toList k=1)))/\a=w:=by
 go_enter Qz.func82,Tryz.ntmps82
 go_wp2
 have c:Hid (decide (bQ s.data.toList k=1)=(bits .and aP ((s[k/8].toNat:Int)*2^(k%8)%256) 128 !=0)):=by
  show _=_
  rw[Ml _ _ s[k/8].toNat_lt (zFu _ (by omega)),byte_at s (k/8) b,bQ]
 rw[c.out]
 go_ret
 exact⟨rfl,rfl⟩
def tX (d:Nat)(w:zW)(h:d<=65536):Calls zq 80 #[aC aD d] w λe a=>e=aL (aC aD (((d+7)/8:Nat):Int))/\a=w:=by go_enter Qz.func80,Tryz.ntmps80;go_wp2;go_ret;exact⟨by rw[Int.natCast_ediv];rfl,rfl⟩
def wB (w:zW):Calls zq 98 #[] w λe a=>e=aL (aK ⟨#[0]⟩)/\a=w:=by go_enter Qz.func98,Tryz.ntmps98;go_wp2;go_ret;exact⟨rfl,rfl⟩
def KV (a:ByteArray)(w:zW)(h:a.size<=1000):Calls zq 133 #[aK a] w λe b=>e=aL (aK ⟨(4::a.data.toList).toArray⟩)/\b=w:=by
 have e:Hid ((⟨#[4]⟩:ByteArray)++a=⟨(4::a.data.toList).toArray⟩):=by apply zDw;apply zCx.1;simp[zEw]
 go_enter Qz.func133,Tryz.ntmps133
 go_wp2
 rw[e.out]
 go_ret
 exact⟨rfl,rfl⟩
def rX (a b:ByteArray)(w:zW)(h:a.size<=1000)(d:b.size<=1000):Calls zq 127 #[aK a,aK b] w λe c=>e=aL (aK ⟨(1::(a.data.toList++b.data.toList)).toArray⟩)/\c=w:=by
 have e:Hid ((⟨#[1]⟩:ByteArray)++a++b=⟨(1::(a.data.toList++b.data.toList)).toArray⟩):=by apply zDw;apply zCx.1;simp[zEw]
 go_enter Qz.func127,Tryz.ntmps127
 go_wp2
 rw[e.out]
 go_ret
 exact⟨rfl,rfl⟩
def rV (a b:ByteArray)(w:zW)(h:a.size<=1000)(d:b.size<=1000):Calls zq 118 #[aK a,aK b] w λe c=>e=aL (aK ⟨(2::(a.data.toList++b.data.toList)).toArray⟩)/\c=w:=by
 have e:Hid ((⟨#[2]⟩:ByteArray)++a++b=⟨(2::(a.data.toList++b.data.toList)).toArray⟩):=by apply zDw;apply zCx.1;simp[zEw]
 go_enter Qz.func118,Tryz.ntmps118
 go_wp2
 rw[e.out]
 go_ret
 exact⟨rfl,rfl⟩
def XZ (s:ByteArray)(d:Nat)(w:zW)(hs:s.size<=65536):
  Calls zq 81 #[aK s,aC aD d] w λe n=>n=w/\∃b:Bool,e=aL (.bool b)/\(b=aE->∃i,d<=i/\i<8*s.size/\bQ s.data.toList i=1)/\(b=aF->∀i,d<=i->i<8*s.size->bQ s.data.toList i=0):=by
 go_enter Qz.func81,Tryz.ntmps81
 go_wp2_with fail
 go_loopg [5] (8*s.size-d) (λq i wr=>∃j:Nat,(8*s.size-j)=q/\d<=j/\i=aC aD (j:Int)/\(∀i,d<=i->i<j->bQ s.data.toList i=0)/\wr=w)
 case atStart=>exact⟨d,rfl,zAa _,rfl,λi f l=>by omega,rfl⟩
 case round=>
  obtain⟨j,p,o,rfl,m,rfl⟩:=hrel
  have C:Hid (∀i,d<=i->i<j->bQ s.data.toList i=0):=m
  clear m
  by_cases bU:j<8*s.size
  .go_wp2_with fail;refine(oG s j wr (by omega) (by omega) (by omega)).mono ?_;rintro e w2 ⟨rfl,a⟩;obtain rfl:wr=w2:=a.symm;clear a;have k:=mF s.data.toList j;generalize c:bQ s.data.toList j=b at*;have H:Hid (bQ s.data.toList j=b):=c;clear c;obtain rfl|rfl:=k
   .go_wp2;go_roundg (8*s.size-(j+1));case measure=>omega
    case rel=>
     go_light
     refine⟨j+1,rfl,by omega,by go_num,λi f l=> ?_,rfl⟩
     by_cases g:i=j
     .rw[g];exact H.out
     .exact C.out i f (by omega)
   .go_wp2;go_ret;exact⟨rfl,aE,rfl,λ_=>⟨j,o,bU,H.out⟩,(λh=>by cases h)⟩
  .go_wp2;go_ret;exact⟨rfl,aF,rfl,(λh=>by cases h),λ_ i f l=>C.out i f (by omega)⟩
def KG (s t:ByteArray)(d:Nat)(w:zW)(hs:s.size=32)(y:t.size=32)(A:d<=256):
  Calls zq 83 #[aK s,aK t,aC aD d] w λe u=>u=w/\∃b:Bool,e=aL (.bool b)/\(b=aE↔∀i,i<d->bQ s.data.toList i=bQ t.data.toList i):=by
 go_enter Qz.func83,Tryz.ntmps83
 go_wp2_with fail
 go_loopg [9] d (λq i wr=>∃j:Nat,j+q=d/\i=aC aD (j:Int)/\(∀i,i<j->bQ s.data.toList i=bQ t.data.toList i)/\wr=w)
 case atStart=>exact⟨0,by omega,rfl,λi h=>by omega,rfl⟩
 case round=>
  obtain⟨j,z,rfl,r,rfl⟩:=hrel
  have C:Hid (∀i,i<j->bQ s.data.toList i=bQ t.data.toList i):=r
  clear r
  by_cases bU:j<d
  .go_wp2_with fail;refine(oG s j wr (by omega) (by omega) (by omega)).mono ?_;rintro e w2 ⟨rfl,a⟩;obtain rfl:wr=w2:=a.symm;clear a;have p:=mF s.data.toList j;generalize k:bQ s.data.toList j=b at*;have n:Hid (bQ s.data.toList j=b):=k;clear k;go_wp2_with fail;refine(oG t j wr (by omega) (by omega) (by omega)).mono ?_;rintro e w2 ⟨rfl,a⟩;obtain rfl:wr=w2:=a.symm;clear a;have l:=mF t.data.toList j;generalize g:bQ t.data.toList j=c at*;have H:Hid (bQ t.data.toList j=c):=g;clear g;by_cases f:b=c
   .subst f;go_wp2;go_roundg (d-(j+1));case measure=>omega
    case rel=>
     go_light
     refine⟨j+1,by omega,by go_num,λi h=> ?_,rfl⟩
     by_cases o:i=j
     .rw[o,n.out,H.out]
     .exact C.out i (by omega)
   .have x:(decide (b=1)==decide (c=1))=aF:=by obtain rfl|rfl:=p<;>obtain rfl|rfl:=l<;>first|rfl|exact absurd rfl f
    have m:Hid (¬b=c):=f;have v:(decide (b=1)!=decide (c=1))=aE:=by simp only[bne,x];rfl
    clear f
    go_wp2
    go_ret
    refine⟨rfl,aF,rfl,(λh=>by cases h),λh=> ?_⟩
    have:=h j bU
    rw[n.out,H.out]at this
    exact absurd this m.out
  .go_wp2;go_ret;exact⟨rfl,aE,rfl,λ_=>λi h=>C.out i (by omega),λ_=>rfl⟩
def bE (k d:Nat)(v:zY)(a b c:zB):zA:= #[aC aD (k:Int),aC aD (d:Int),v,aK ⟨a.toArray⟩,aK ⟨b.toArray⟩,aK ⟨c.toArray⟩]
def ND (k:Nat)(w:zW)(b:1<=k)(a:k<=32)(c:dO w):
  Calls zq 79 #[aC aD k] w λe d=>e=aL (aK ⟨(dg k [0]).toArray⟩)/\zb w d:=by
 have H:Hid (dO w):=c
 clear c
 go_enter Qz.func79,Tryz.ntmps79
 go_wp2_with fail
 refine(wB w).mono ?_
 rintro e w2 ⟨rfl,h⟩
 obtain rfl:w=w2:=h.symm
 clear h
 go_wp2_with fail
 refine(rU k ⟨#[0]⟩ w b a (by decide) H.out).mono ?_
 rintro e w3 ⟨rfl,hb⟩
 have f:Hid (zb w w3):=hb
 clear hb
 go_wp2
 go_ret
 exact⟨rfl,f.out⟩
def CC (k:Nat)(a:ByteArray)(w:zW)(c:1<=k)(b:k<=32)(d:a.size<=1000)(g:dO w):
  Calls zq 128 #[aC aD k,aK a] w λe i=>e=aL (aK ⟨(dg k (4::a.data.toList)).toArray⟩)/\zb w i:=by
 have j:Hid (dO w):=g
 clear g
 go_enter Qz.func128,Tryz.ntmps128
 go_wp2_with fail
 refine(KV a w d).mono ?_
 rintro e w2 ⟨rfl,h⟩
 obtain rfl:w=w2:=h.symm
 clear h
 have m:(4::a.data.toList).length<=1001:=by simp;exact d
 generalize f:4::a.data.toList=Y at*
 have H:Hid (4::a.data.toList=Y):=f
 clear f
 go_wp2_with fail
 refine(rU k ⟨Y.toArray⟩ w c b (by show Y.length<=_;omega) j.out).mono ?_
 rintro e w3 ⟨rfl,hb⟩
 have l:Hid (zb w w3):=hb
 clear hb
 go_wp2
 go_ret
 exact⟨by rw[<-H.out];rfl,l.out⟩
def Rf (k:Nat)(idx:ByteArray)(p:PW)(v:zY)(w:zW)(m:1<=k)(j:k<=32)(y:idx.size=32)(g:p.Ok k)(r:dO w):
  Calls zq 117 #[.agg (bE k p.kind v p.value p.other p.dM),aK idx] w λe s=>e=aL (aK ⟨(p.fQ k idx.data.toList).toArray⟩)/\zb w s:=by
 obtain⟨d,S,a,b,c⟩:=p
 have A:a.length<=100:=g.value
 have x:b.length<=32:=g.other
 have z:c.length<=32:=g.dM
 have t:d<=2:=g.kind
 clear g
 have b0:Hid (zb w (w.alloc (aI (bE k d v a b c) 112))):=(zGp _ _).alloc (zAa _) _
 have f:Hid (bB (w.alloc (aI (bE k d v a b c) 112)) w.heap.size 112 (bE k d v a b c)):=bB.new _ _ _
 have t0:Hid (dO (w.alloc (aI (bE k d v a b c) 112))):=r.below b0.out (zAa _)
 clear r
 dsimp only
 go_enter Qz.func117,Tryz.ntmps117
 go_upto_region 1 with(fail)
 generalize w.alloc (aI (bE k d v a b c) 112)=w0 at*
 have F:w0.cell? ⟨w.heap.size,0,aB⟩=aA (aC aD (k:Int)):=by rw[f.out.cell];rfl
 have E:w0.cell? ⟨w.heap.size,1,aB⟩=aA (aC aD (d:Int)):=by rw[f.out.cell];rfl
 have D:w0.cell? ⟨w.heap.size,3,aB⟩=aA (aK ⟨a.toArray⟩):=by rw[f.out.cell];rfl
 have C:w0.cell? ⟨w.heap.size,4,aB⟩=aA (aK ⟨b.toArray⟩):=by rw[f.out.cell];rfl
 have B:w0.cell? ⟨w.heap.size,5,aB⟩=aA (aK ⟨c.toArray⟩):=by rw[f.out.cell];rfl
 obtain n|l|i:d=0\/d=1\/d=2:=by omega
 .subst n;go_wp2_with fail;refine(wB w0).mono ?_;rintro e w2 ⟨rfl,h⟩;obtain rfl:w0=w2:=h.symm;clear h;go_wp2;go_ret;exact⟨by rw[PW.fQ];simp,b0.out⟩
 .subst l;go_wp2_with fail;refine(CC k ⟨a.toArray⟩ w0 m j (by show a.length<=_;omega) t0.out).mono ?_;rintro e w2 ⟨rfl,h⟩;have H:Hid (zb w w2):=b0.out.trans (h.mono b0.out.size);clear h;have u:(dg k (4::(⟨a.toArray⟩:ByteArray).data.toList)).length=k:=eC k _ j;generalize q:dg k (4::(⟨a.toArray⟩:ByteArray).data.toList)=Y at*;have o:Hid (Y=dg k (4::a)):=q.symm;clear q;go_wp2_with fail;refine(rX idx ⟨Y.toArray⟩ w2 (by omega) (by show Y.length<=_;omega)).mono ?_;rintro e w3 ⟨rfl,h⟩;obtain rfl:w2=w3:=h.symm;clear h;go_wp2;go_ret;exact⟨by rw[PW.fQ];simp[o.out],H.out⟩
 .subst i;go_wp2_with fail;refine(rX ⟨b.toArray⟩ ⟨c.toArray⟩ w0 (by show b.length<=_;omega) (by show c.length<=_;omega)).mono ?_;rintro e w3 ⟨rfl,h⟩;obtain rfl:w0=w3:=h.symm;clear h;go_wp2;go_ret;exact⟨by rw[PW.fQ];simp,b0.out⟩
def aV {B:Nat}{w w1 w2:zW}(h:Below B w w1)(b:zb w1 w2)(a:B<=w1.heap.size):Hid (Below B w w2):=h.trans (b.mono a)
def uE (k:Nat)(I:zB)(p:PW)(n j:Nat)(cs:zA):Prop:=cs.size=n+1/\∀i,n-j<=i->i<=n->cs[i]? =aA (aK ⟨(p.iN k I i).toArray⟩)
def uE.step {k:Nat}{I:zB}{p:PW}{n j t:Nat}{cs:zA}(h:uE k I p n j cs)(c:n-(j+1)=t)(d:j<n){x:zB}(a:p.iN k I t=x):uE k I p n (j+1) (cs.setIfInBounds t (aK ⟨x.toArray⟩)):=by
 refine⟨by rw[zDe];exact h.1,λi f b=> ?_⟩;rw[zBt];by_cases e:t=i
 .subst e;rw[zAk rfl,zAk (by rw[h.1];omega),a]
 .rw[zAh e];exact h.2 i (by omega) b
def uE.all {k:Nat}{I:zB}{p:PW}{n:Nat}{cs:zA}(h:uE k I p n n cs):cs=((List.range (n+1)).map λi=>Value.string ⟨(p.iN k I i).toArray⟩).toArray:=by
 apply zCd;intro i;by_cases a:i<=n
 .rw[h.2 i (by omega) a];simp[show i<n+1 by omega]
 .rw[zBk (by rw[h.1];omega),zBk (by simp;omega)]
def iG (n:Nat):zA:=madeCells #[aK ⟨#[]⟩] (n+1)
def YB (n:Nat)(d:n<=256)(W:zW):(Instr.makeSlice 82 (aC aD ((n:Int)+1)) (aC aD ((n:Int)+1))).run zq W= .ok (aJ (aA ⟨W.heap.size,0,aB⟩) (n+1) (n+1)) (W.alloc (aI (iG n) 9)):=by obtain⟨i,c,b,a,h⟩:=FJ;have:=run_make (P:=zq) W 82 9 i (aK ⟨#[]⟩) ((Qz.cO 82).trans Tryz.underlying82) c b aD aD ((n:Int)+1) ((n:Int)+1) (by omega) (Int.le_refl _) (by rw[h];omega) (by omega);rw[this,a,zFr,show((n:Int)+1).toNat=n+1 from by omega];rfl
def TD (n i:Nat)(h:i<=n):(iG n)[i]? =aA (aK ⟨#[]⟩):=by rw[iG,<-zBo,toList_madeCells_one,zFw,zAk (by omega)]
def yG (n:Nat):(iG n).size=n+1:=size_madeCells _ _
def Db (k:Nat)(idx:ByteArray)(p:PW)(v:zY)(base:Nat)(w:zW)(E:1<=k)(u:k<=32)(Q:idx.size=32)(A:p.Ok k)(hT:dO w)
  (m:Own w base 9 v p.bM.length (p.bM.map λx=>aK ⟨x.toArray⟩)):
  Calls zq 99 #[.agg (bE k p.kind v p.value p.other p.dM),aK idx] w λe w'=>zb w w'/\∃g,e=aL (aJ (aA ⟨g,0,aB⟩) (p.bM.length+1) (p.bM.length+1))/\
   w.heap.size<=g/\bB w' g 9 ((List.range (p.bM.length+1)).map λi=>aK ⟨(p.iN k idx.data.toList i).toArray⟩).toArray:=by
 generalize hI:idx.data.toList=I at*
 have HI:Hid (idx.data.toList=I):=hI
 have HIl:Hid (I.length=32):=by show _=_;rw[<-hI,zBn];exact Q
 clear hI
 have H:Hid (p.Ok k):=A
 obtain⟨f,S,a,b,c⟩:=p
 have pz:S.length<=256:=A.depth
 clear A
 obtain⟨o,cap,rfl⟩:∃o cap,v=aJ o S.length cap:=by
  obtain⟨rfl,h0⟩|⟨g,cap,_,_,rfl,_⟩:=m.2
  .exact⟨aB,0,by rw[h0]⟩
  .exact⟨_,cap,rfl⟩
 have o0:Hid (Own (w.alloc (aI (bE k f (aJ o S.length cap) a b c) 112)) base 9 (aJ o S.length cap) S.length (S.map λx=>aK ⟨x.toArray⟩)):=m.alloc _
 have b0:Hid (zb w (w.alloc (aI (bE k f (aJ o S.length cap) a b c) 112))):=(zGp _ _).alloc (zAa _) _
 have P:Hid (bB (w.alloc (aI (bE k f (aJ o S.length cap) a b c) 112)) w.heap.size 112 (bE k f (aJ o S.length cap) a b c)):=bB.new _ _ _
 have HT:Hid (dO w):=hT
 have HG:Hid (∀g,(Value.slice o S.length cap).ownBlock=aA g->g<w.heap.size):=λg y=>(m.lt g y).2
 clear hT m
 have Bf:=YB S.length pz
 dsimp only
 go_enter Qz.func99,Tryz.ntmps99
 go_upto_region 1 with(fail)
 generalize w.alloc (aI (bE k f (aJ o S.length cap) a b c) 112)=w0 at*
 have hG:=P.out.lt
 have e2:w0.cell? ⟨w.heap.size,2,aB⟩=aA (aJ o S.length cap):=by rw[P.out.cell];rfl
 go_upto_region 3 with(fail)
 clear e2
 have o1:Hid (Own (w0.alloc (aI (iG S.length) 9)) base 9 (aJ o S.length cap) S.length (S.map λx=>aK ⟨x.toArray⟩)):=o0.out.alloc _
 have b1:Hid (zb w (w0.alloc (aI (iG S.length) 9))):=b0.out.alloc b0.out.size _
 have k1:Hid (bB (w0.alloc (aI (iG S.length) 9)) w.heap.size 112 (bE k f (aJ o S.length cap) a b c)):=P.out.alloc _
 have t1:Hid (bB (w0.alloc (aI (iG S.length) 9)) w0.heap.size 9 (iG S.length)):=bB.new _ _ _
 clear o0 b0 P
 generalize w0.alloc (aI (iG S.length) 9)=w1 at*
 generalize w0.heap.size=G at*
 have T1:Hid (dO w1):=HT.out.below b1.out (zAa _)
 go_wp2_with (first
  |refine zGq rfl 112 _ rfl w.heap.size rfl _ _ _ _ k1.out ((Qz.cO 112).trans Tryz.underlying112) rfl (by kernel_rfl) ?_
  |fail)
 refine(Rf k idx ⟨f,S,a,b,c⟩ (aJ o S.length cap) w1 E u Q H.out T1.out).mono ?_
 rintro e w2 ⟨rfl,r⟩
 rw[HI.out]
 have b2:=aV b1.out r b1.out.size
 have k2:Hid (bB w2 w.heap.size 112 (bE k f (aJ o S.length cap) a b c)):=k1.out.below r k1.out.lt
 have t2:Hid (bB w2 G 9 (iG S.length)):=t1.out.below r t1.out.lt
 have o2:Hid (Own w2 base 9 (aJ o S.length cap) S.length (S.map λx=>aK ⟨x.toArray⟩)):=o1.out.below r (zAa _)
 clear r b1 k1 t1 o1 T1
 have e1:w2.cell? ⟨G,S.length,aB⟩=aA (aK ⟨#[]⟩):=by rw[t2.out.cell];exact TD _ _ (zAa _)
 have f1:w2.frozen? ⟨G,S.length,aB⟩=aF:=t2.out.frozen _
 have bj:((S.length:Nat):Int)<((S.length+1:Nat):Int):=by omega
 go_upto_region 4 with(fail)
 have b3:Hid (zb w (w2.setCell ⟨G,S.length,aB⟩ (aK ⟨(PW.fQ k I ⟨f,S,a,b,c⟩).toArray⟩))):=b2.out.setCell (by simp only;omega) _
 have k3:Hid (bB (w2.setCell ⟨G,S.length,aB⟩ (aK ⟨(PW.fQ k I ⟨f,S,a,b,c⟩).toArray⟩)) w.heap.size 112 (bE k f (aJ o S.length cap) a b c)):=k2.out.bP _ _ (by simp only;omega)
 have t3:Hid (bB (w2.setCell ⟨G,S.length,aB⟩ (aK ⟨(PW.fQ k I ⟨f,S,a,b,c⟩).toArray⟩)) G 9 ((iG S.length).setIfInBounds S.length (aK ⟨(PW.fQ k I ⟨f,S,a,b,c⟩).toArray⟩))):=t2.out.cG _ _
 have o3:Hid (Own (w2.setCell ⟨G,S.length,aB⟩ (aK ⟨(PW.fQ k I ⟨f,S,a,b,c⟩).toArray⟩)) base 9 (aJ o S.length cap) S.length (S.map λx=>aK ⟨x.toArray⟩)):=o2.out.kept λg y=>zHa _ _ _ _ (by have:=HG.out g y;simp only;omega)
 have F3:Hid (uE k I ⟨f,S,a,b,c⟩ S.length 0 ((iG S.length).setIfInBounds S.length (aK ⟨(PW.fQ k I ⟨f,S,a,b,c⟩).toArray⟩))):=by
  refine⟨by rw[zDe];exact yG _,λi h1 h2=> ?_⟩;obtain rfl:i=S.length:=by omega
  rw[zBt,zAk rfl,zAk (by rw[yG];omega)]
  simp only[PW.iN,zGa]
  rfl
 clear e1 f1 bj b2 k2 t2 o2 Bf
 generalize(iG S.length).setIfInBounds S.length (aK ⟨(PW.fQ k I ⟨f,S,a,b,c⟩).toArray⟩)=cs0 at*
 generalize w2.setCell ⟨G,S.length,aB⟩ (aK ⟨(PW.fQ k I ⟨f,S,a,b,c⟩).toArray⟩)=w3 at*
 go_wp2
 go_loopg [7] S.length (λq x wr=>∃(j:Nat)(cs:zA),j+q=S.length/\x=aC aD ((S.length:Int)-1-(j:Int))/\uE k I ⟨f,S,a,b,c⟩ S.length j cs/\zb w wr/\bB wr w.heap.size 112 (bE k f (aJ o S.length cap) a b c)/\bB wr G 9 cs/\Own wr base 9 (aJ o S.length cap) S.length (S.map λx=>aK ⟨x.toArray⟩))
 case atStart=>exact⟨0,cs0,by omega,by go_num,F3.out,b3.out,k3.out,t3.out,o3.out⟩
 case round=>
  obtain⟨j,cs,hj,rfl,c0,c1,c2,c3,c4⟩:=hrel
  clear F3 b3 k3 t3 o3
  have N:Hid (uE k I ⟨f,S,a,b,c⟩ S.length j cs):=c0
  have R:Hid (zb w wr):=c1
  have M:Hid (bB wr w.heap.size 112 (bE k f (aJ o S.length cap) a b c)):=c2
  have C:Hid (bB wr G 9 cs):=c3
  have C4:Hid (Own wr base 9 (aJ o S.length cap) S.length (S.map λx=>aK ⟨x.toArray⟩)):=c4
  have CT:Hid (dO wr):=HT.out.below c1 (zAa _)
  clear c0 c1 c2 c3 c4
  by_cases bU:j<S.length
  .obtain⟨t,ht⟩:∃t:Nat,t=S.length-1-j:=⟨_,rfl⟩;have D:(S.length:Int)-1-(j:Int)=(t:Int):=by omega
   rw[D];have L:Hid (t=S.length-1-j):=ht;have s:t<S.length:=by omega
   have K:Hid ((t:Int)-1=(S.length:Int)-1-((j+1:Nat):Int)):=by show _=_;omega
   have J:Hid (PW.iN k I ⟨f,S,a,b,c⟩ (t+1)=PW.up k I ⟨f,S,a,b,c⟩ j):=by show _=_;rw[PW.iN];exact congrArg (PW.up k I ⟨f,S,a,b,c⟩) (show S.length-(t+1)=j by omega)
   have z:Hid (PW.iN k I ⟨f,S,a,b,c⟩ t=PW.up k I ⟨f,S,a,b,c⟩ (j+1)):=by show _=_;rw[PW.iN];exact congrArg (PW.up k I ⟨f,S,a,b,c⟩) (show S.length-t=j+1 by omega)
   clear ht D
   have hul:(PW.up k I ⟨f,S,a,b,c⟩ j).length<=65:=LC k I _ u HIl.out H.out j (by show j<=S.length;omega)
   have HH:Hid (∀(d:Nat)(os:zJ),Calls zq 53 #[aC aD k,aK ⟨(PW.up k I ⟨f,S,a,b,c⟩ j).toArray⟩] (Go.Sort.grow (redrawn wr d) os) λe T=>e=aL (aK ⟨(dg k (PW.up k I ⟨f,S,a,b,c⟩ j)).toArray⟩)/\∃p:Regrown,T=Go.Sort.grow (redrawn wr p.d) p.os):=λd os=>
    zHd (rU k _ _ E u (by show(PW.up k I ⟨f,S,a,b,c⟩ j).length<=_;omega) (CT.out.below (zGr wr d os) (zAa _)))
   have e0:∀(d:Nat)(os:zJ),(Go.Sort.grow (redrawn wr d) os).cell? ⟨w.heap.size,0,aB⟩=aA (aC aD (k:Int)):=λd os=>((M.out.below (zGr wr d os) M.out.lt).cell 0).trans rfl
   have eT:∀(d:Nat)(os:zJ),(Go.Sort.grow (redrawn wr d) os).cell? ⟨G,t+1,aB⟩=aA (aK ⟨(PW.up k I ⟨f,S,a,b,c⟩ j).toArray⟩):=λd os=>by rw[(C.out.below (zGr wr d os) C.out.lt).cell,N.out.2 (t+1) (by have:=L.out;omega) (by omega),J.out]
   have U0:Hid (bQ I t=0->PW.iN k I ⟨f,S,a,b,c⟩ t=2::(dg k (PW.up k I ⟨f,S,a,b,c⟩ j)++S.getD t [])):=λh=>by rw[z.out];rw[L.out]at h⊢;rw[PW.up,zAk h]
   have U1:Hid (bQ I t=1->PW.iN k I ⟨f,S,a,b,c⟩ t=2::(S.getD t []++dg k (PW.up k I ⟨f,S,a,b,c⟩ j))):=λh=>by rw[z.out];rw[L.out]at h⊢;rw[PW.up];dsimp only;rw[zAh (by omega)]
   have mw:(S.getD t []).length<=32:=by rw[zAq,zAf s];have:=H.out.Xj _ (zCr (l:=S) s);simp only[zCc];omega
   have je:(dg k (PW.up k I ⟨f,S,a,b,c⟩ j)).length=k:=eC k _ u
   clear z J
   generalize dg k (PW.up k I ⟨f,S,a,b,c⟩ j)=Y at*
   generalize PW.up k I ⟨f,S,a,b,c⟩ j=U at*
   generalize hZ:S.getD t []=Z at*
   have HZ:Hid (S.getD t []=Z):=hZ
   clear hZ
   have jl:=mF I t
   go_wp2
   refine zGv (by kernel_rfl) (by kernel_rfl) ?_
   repeat (any_goals(first|go_big_quiet_step ((exact HH.out _ _))|quiet_step ((exact HH.out _ _))))
   refine zHc ?_
   intro W V
   obtain⟨p,A⟩:=V
   have F:Hid (zb wr W):=by rw[A];exact zGr wr p.d p.os
   clear A HH e0 eT
   have B1:=aV R.out F.out R.out.size
   have K1:Hid (bB W w.heap.size 112 (bE k f (aJ o S.length cap) a b c)):=M.out.below F.out M.out.lt
   have t1:Hid (bB W G 9 cs):=C.out.below F.out C.out.lt
   have O:Hid (Own W base 9 (aJ o S.length cap) S.length (S.map λx=>aK ⟨x.toArray⟩)):=C4.out.below F.out (zAa _)
   clear R M C C4 CT F
   obtain⟨g,Mk,ho⟩:=O.out.form (by omega)
   injection ho with vr bh X
   subst vr
   subst X
   clear bh
   have e2:W.cell? ⟨w.heap.size,2,aB⟩=aA (aJ (aA ⟨g,0,aB⟩) S.length cap):=(K1.out.cell 2).trans rfl
   have eS:W.cell? ⟨g,t,aB⟩=aA (aK ⟨Z.toArray⟩):=by rw[O.out.cell t s,<-HZ.out];simp[s]
   obtain⟨_,ja,eO⟩:=O.out.base
   obtain⟨x,hx⟩:∃x,cs[t]? =aA x:=⟨_,zAs (by have:=N.out.1;omega)⟩
   have eG:W.cell? ⟨G,t,aB⟩=aA x:=by rw[t1.out.cell];exact hx
   have fG:W.frozen? ⟨G,t,aB⟩=aF:=t1.out.frozen _
   clear hx
   go_wp2_with fail
   refine(oG idx t W (by rw[Q];omega) (by rw[Q];omega) (by omega)).mono ?_
   rw[HI.out]
   rintro e w2 ⟨rfl,B⟩
   obtain rfl:W=w2:=B.symm
   clear B
   generalize bQ I t=x at*
   obtain rfl|rfl:=jl
   .have hq:decide (0=1)=aF:=by decide
    go_wp2_with fail;refine(rV ⟨Y.toArray⟩ ⟨Z.toArray⟩ W (by show _<=1000;simp only[zAl,aDo];omega) (by show _<=1000;simp only[zAl,aDo];omega)).mono ?_;rintro e w4 ⟨rfl,n⟩;obtain rfl:W=w4:=n.symm;clear n;go_wp2;go_roundg (S.length-(j+1));case measure=>omega
    case rel=>
     go_light
     refine⟨j+1,_,by omega,by rw[<-K.out],N.out.step (t:=t) (by have:=L.out;omega) bU (U0.out (by first|trivial|rfl)),B1.out.setCell (by simp only;omega) _,K1.out.bP _ _ (by simp only;omega),t1.out.cG _ _,O.out.kept λg y=>zHa _ _ _ _ (by have:=HG.out g y;simp only;omega)⟩
   .have hq:decide (1=1)=aE:=rfl;go_wp2_with fail;refine(rV ⟨Z.toArray⟩ ⟨Y.toArray⟩ W (by show _<=1000;simp only[zAl,aDo];omega) (by show _<=1000;simp only[zAl,aDo];omega)).mono ?_;rintro e w4 ⟨rfl,n⟩;obtain rfl:W=w4:=n.symm;clear n;go_wp2;go_roundg (S.length-(j+1));case measure=>omega
    case rel=>
     go_light
     refine⟨j+1,_,by omega,by rw[<-K.out],N.out.step (t:=t) (by have:=L.out;omega) bU (U1.out (by first|trivial|rfl)),B1.out.setCell (by simp only;omega) _,K1.out.bP _ _ (by simp only;omega),t1.out.cG _ _,O.out.kept λg y=>zHa _ _ _ _ (by have:=HG.out g y;simp only;omega)⟩
  .obtain rfl:j=S.length:=by omega
   go_wp2;go_ret;refine⟨R.out,G,rfl,by omega,?_⟩;have:=C.out;rw[N.out.all]at this;exact this
def BF (k:Nat)(idx:ByteArray)(p:PW)(v:zY)(base:Nat)(w:zW)(f:1<=k)(c:k<=32)(q:idx.size=32)(n:p.Ok k)(r:dO w)
  (h:Own w base 9 v p.bM.length (p.bM.map λx=>aK ⟨x.toArray⟩)):
  Calls zq 84 #[.agg (bE k p.kind v p.value p.other p.dM),aK idx] w λe s=>e=aL (aK ⟨(p.root k idx.data.toList).toArray⟩)/\zb w s:=by
 have H:Hid (p.Ok k):=n
 have l:Hid (dO w):=r
 have G:Hid (Own w base 9 v p.bM.length (p.bM.map λx=>aK ⟨x.toArray⟩)):=h
 clear n r h
 have a:Hid (bB (w.alloc (aI (bE k p.kind v p.value p.other p.dM) 112)) w.heap.size 112 (bE k p.kind v p.value p.other p.dM)):=bB.new _ _ _
 have b0:Hid (zb w (w.alloc (aI (bE k p.kind v p.value p.other p.dM) 112))):=(zGp _ _).alloc (zAa _) _
 have A:Hid (Own (w.alloc (aI (bE k p.kind v p.value p.other p.dM) 112)) base 9 v p.bM.length (p.bM.map λx=>aK ⟨x.toArray⟩)):=G.out.alloc _
 go_enter Qz.func84,Tryz.ntmps84
 go_upto_region 1 with(fail)
 generalize w.alloc (aI (bE k p.kind v p.value p.other p.dM) 112)=w0 at*
 have P:Hid (dO w0):=l.out.below b0.out (zAa _)
 have O:w0.cell? ⟨w.heap.size,0,aB⟩=aA (aC aD (k:Int)):=by rw[a.out.cell];rfl
 have bU:=a.out.lt
 have D:idx.data.toList.length=32:=by rw[zBn];exact q
 have B:(p.iN k idx.data.toList 0).length<=65:=LC k _ p c D H.out _ (by omega)
 have b:Hid (p.root k idx.data.toList=dg k (p.iN k idx.data.toList 0)):=rfl
 have N:w0.cell? ⟨w.heap.size,1,aB⟩=aA (aC aD (p.kind:Int)):=by rw[a.out.cell];rfl
 have M:w0.cell? ⟨w.heap.size,2,aB⟩=aA v:=by rw[a.out.cell];rfl
 have L:w0.cell? ⟨w.heap.size,3,aB⟩=aA (aK ⟨p.value.toArray⟩):=by rw[a.out.cell];rfl
 have K:w0.cell? ⟨w.heap.size,4,aB⟩=aA (aK ⟨p.other.toArray⟩):=by rw[a.out.cell];rfl
 have J:w0.cell? ⟨w.heap.size,5,aB⟩=aA (aK ⟨p.dM.toArray⟩):=by rw[a.out.cell];rfl
 have T:Hid (dO w0.drew):=l.out.below b0.out.drew (zAa _)
 have o:Hid (Own w0.drew base 9 v p.bM.length (p.bM.map λx=>aK ⟨x.toArray⟩)):=A.out.kept λ_ _=>rfl
 have i:Hid (zb w w0.drew):=b0.out.drew
 have j:Hid (bB w0.drew w.heap.size 112 (bE k p.kind v p.value p.other p.dM)):=a.out
 go_region_with (first
   |(go_at_call 99;refine(Db k idx p v base w0.drew f c q H.out T.out o.out).mono ?_;rintro e w1 ⟨hb,g,rfl,C,m⟩;
     have k1:Hid (bB w1 w.heap.size 112 (bE k p.kind v p.value p.other p.dM)):=j.out.below hb bU;
     have b1:Hid (zb w w1):=i.out.trans (hb.mono i.out.size);
     have F:Hid (dO w1):=l.out.below b1.out (zAa _);
     have I:w1.cell? ⟨g,0,aB⟩=aA (aK ⟨(p.iN k idx.data.toList 0).toArray⟩):=(m.cell 0).trans (by simp);
     clear hb C m;
     have q0:w1.cell? ⟨w.heap.size,0,aB⟩=aA (aC aD (k:Int)):=(k1.out.cell 0).trans rfl;
     have q1:w1.cell? ⟨w.heap.size,1,aB⟩=aA (aC aD (p.kind:Int)):=(k1.out.cell 1).trans rfl;
     have z:w1.cell? ⟨w.heap.size,2,aB⟩=aA v:=(k1.out.cell 2).trans rfl;
     have y:w1.cell? ⟨w.heap.size,3,aB⟩=aA (aK ⟨p.value.toArray⟩):=(k1.out.cell 3).trans rfl;
     have u:w1.cell? ⟨w.heap.size,4,aB⟩=aA (aK ⟨p.other.toArray⟩):=(k1.out.cell 4).trans rfl;
     have t:w1.cell? ⟨w.heap.size,5,aB⟩=aA (aK ⟨p.dM.toArray⟩):=(k1.out.cell 5).trans rfl)
   |(go_at_call 53;refine(rU k ⟨(p.iN k idx.data.toList 0).toArray⟩ _ f c (by show(p.iN k idx.data.toList 0).length<=_;omega) F.out).mono ?_;rintro e w2 ⟨rfl,d⟩;
     have k2:Hid (bB w2 w.heap.size 112 (bE k p.kind v p.value p.other p.dM)):=k1.out.below d k1.out.lt;
     have E:Hid (zb w w2):=b1.out.trans (d.mono b1.out.size);
     clear d;
     have q0:w2.cell? ⟨w.heap.size,0,aB⟩=aA (aC aD (k:Int)):=(k2.out.cell 0).trans rfl;
     have q1:w2.cell? ⟨w.heap.size,1,aB⟩=aA (aC aD (p.kind:Int)):=(k2.out.cell 1).trans rfl;
     have z:w2.cell? ⟨w.heap.size,2,aB⟩=aA v:=(k2.out.cell 2).trans rfl;
     have y:w2.cell? ⟨w.heap.size,3,aB⟩=aA (aK ⟨p.value.toArray⟩):=(k2.out.cell 3).trans rfl;
     have u:w2.cell? ⟨w.heap.size,4,aB⟩=aA (aK ⟨p.other.toArray⟩):=(k2.out.cell 4).trans rfl;
     have t:w2.cell? ⟨w.heap.size,5,aB⟩=aA (aK ⟨p.dM.toArray⟩):=(k2.out.cell 5).trans rfl))
 all_goals
  go_wp2
  go_ret
  exact⟨by rw[b.out];rfl,E.out⟩
def fH {P:zZ}{fn:Func}{p q:Tmp}{ty:zD}(h:fn.results= #[.cell p ty,.tmp q])(tmps:zA)(w:zW)(g:Nat)(t:zD)(cs:zA)(fr:Nat×Nat)(d:TypeDesc)
  (f:tmps.getD p undef=aN (aA ⟨g,0,aB⟩)) (j:w.heap[g]? =aA (aI cs t fr))
  (e:P.underlying ty=aA d) (k:(match d with| .struct _| .array _ _=>aE|_=>aF)=aE) (i:(P.info? ty).map (·.size)=aA cs.size) (v:zY) (c:tmps.getD q undef=v):
  (results fn tmps).run P w= .ok (.tuple #[.agg cs,v]) w:=by
 have b:tmps[p]?.getD undef=aN (aA ⟨g,0,aB⟩):=by simpa using f
 have a:tmps[q]?.getD undef=v:=by simpa using c
 simp[results,h,b,a,asAddr,run_loadVar_row w g t ty cs fr d j e k i]
def ID (s:ByteArray)(i:Nat)(h:i<s.size)(W:zW):(Instr.index 9 (aK s) (aC aD (i:Int))).run zq W= .ok (aC aP ((s.data.toList.getD i 0).toNat:Int)) W:=by rw[run_index_string W 9 s aD i ((Qz.cO 9).trans Tryz.underlying9),dif_pos ⟨by omega,by omega⟩];have e:((i:Int).toNat)=i:=zFl i;simp only[e];rw[byte_at s i h]
def Lv (l:zB):dT l<65536:=by have a:=(l.getD 1 0).toNat_lt;have h:=(l.getD 2 0).toNat_lt;unfold dT;omega
def Own.lower {w:zW}{base b:Nat}{e:zD}{v:zY}{n:Nat}{xs:zV}(h:Own w base e v n xs)(a:b<=base):Own w b e v n xs:=by refine⟨h.1,h.2.imp id ?_⟩;rintro⟨g,cap,c,j,i,f,d⟩;exact⟨g,cap,c,j,i,zBl a f,d⟩
def Ez {a:ByteArray}{l:zB}(h:¬a=⟨l.toArray⟩):(a.toList==l)=aF:=by rw[zCf];intro e;apply h;rw[zGz]at e;subst e;rfl
def ZQ {B:Nat}{w w1 w2:zW}(h:Below B w w1)(b:zb w1 w2)(a:B<=w1.heap.size:=by first|exact h.size|assumption):Hid (Below B w w2):=h.trans (b.mono a)
def bT (root idx s:zB):Nat:=
 if root.length<1\/32<root.length\/idx.length≠32 then 1
 else match parse root.length idx s with
  |none=>2
  |some p=>if p.root root.length idx=root then 0 else 3
def dV {root idx s:zB}(h:¬(root.length<1\/32<root.length\/idx.length≠32))(a:parse root.length idx s=aB):bT root idx s=2:=by rw[bT,zAh h,a]
def rE {root idx s:zB}{p:PW}(h:¬(root.length<1\/32<root.length\/idx.length≠32))(b:parse root.length idx s=aA p)(a:p.root root.length idx≠root):bT root idx s=3:=by rw[bT,zAh h,b];exact zAh a
def rF {root idx s:zB}{p:PW}(h:¬(root.length<1\/32<root.length\/idx.length≠32))(b:parse root.length idx s=aA p)(a:p.root root.length idx=root):bT root idx s=0:=by rw[bT,zAh h,b];exact zAk a
def cK:zA:= #[aC aD 0,aK ⟨#[]⟩]
def gV (n:Nat)(l:zB):zA:= #[aC aD (n:Int),aK ⟨l.toArray⟩]
def QM {root idx s:zB}(h:bT root idx s≠0):verdict root idx s=(0,[],bT root idx s):=by
 unfold bT verdict at*;by_cases a:root.length<1\/32<root.length\/idx.length≠32
 .rw[zAk a,zAk a]
 .rw[zAh a]at h;rw[zAh a,zAh a];cases c:parse root.length idx s with
  |none=>rfl
  |some p=>
   rw[c]at h;dsimp only at h⊢;by_cases b:p.root root.length idx=root
   .rw[zAk b]at h;exact absurd rfl h
   .rw[zAh b,zAh b]
def FC {root idx s:zB}{p:PW}(h:bT root idx s=0)(b:parse root.length idx s=aA p)(a:p.root root.length idx=root):verdict root idx s=(p.said.1,p.said.2,0):=by
 unfold bT verdict at*;split
 .rename_i c;rw[zAk c]at h;cases h
 .rw[b];exact zAk a
def YC (root idx s:zB):bT root idx s<=3:=by
 unfold bT;split
 .omega
 .split
  .omega
  .split<;>omega
end Go.Proofs.Zq
