import Derived.LaidMore
import Derived.Lib.LaidTab
import Derived.OpenShut
import Derived.Stop.Joined
import Derived.Deep.SlicePairs
import Derived.ChangeSlices
import Derived.Test.YtghpcgagijhlaaaGreatDoorCards
import Derived.Test.YtghpcgagijhlaaaGreatDoorTie
import Derived.SevenTiedAt
import Derived.SizedLaws
import Derived.Conc.LeavingOf
import Derived.Test.YtghpcgagijhlaaaGreatDoorP43
set_option linter.all false
set_option maxRecDepth 100000
set_option maxHeartbeats 16000000
open Option renaming some->aA,none->aB
open Bool renaming true->aE,false->aF
open Or renaming inl->aG,inr->aH
open Go.Obj renaming cells->aI
open Go.IntKind renaming i64->aD,u32->aO,u8->aP
open Go.Value renaming slice->aJ,int->aC
namespace Go.Proofs.Zq
open Go Go.RowKit Sha Go.Ga Go.Ren
def Mo (va:zO)(vc:Nat)(E:List (zII))(b wo:Int)(f:zO)(ac:Nat)(L:List Int)(w:zW)(l:Base w)(k:AK w va E)(d:E.length<=4611686018427387904)(j:JU w f L)(h:L.length<=4611686018427387904)(q: -9223372036854775808<=b)(p:b<=9223372036854775807)(o: -9223372036854775808<=wo)(n:wo<=9223372036854775807):
  Calls zq 9 #[aJ va E.length vc,aC aD b,aC aD wo,aJ f L.length ac] w (RF λx m=>x= .bool aE/\zb w m):=by
 obtain⟨a,i,_⟩:=gO b 32 (by omega)
 obtain⟨c,g,_⟩:=gO wo 20 (by omega)
 have H:=PF va vc E b wo (a+1) (c+1) f ac L w l k d j h q p o n (by rw[show eF b 32=(a:Int)from i];omega) (by rw[show eF wo 20=(c:Int)from g];omega)
 clear l k j i g
 generalize E.length=s at*
 generalize L.length=r at*
 go_enter Qz.func9,Tryz.ntmps9
 go_wp2_with fail
 refine H.mono ?_
 rintro e w1 (⟨_,rfl,rfl,hb⟩|⟨c,rfl,he⟩)
 rotate_left
 .exact⟨rfl,.told he⟩
 dsimp only
 go_wp2
 go_ret
 exact .of ⟨rfl,hb⟩
open Go.Proofs.YtghpcgagijhlaaaGreatDoor
open Go.ChangeShapes Go.WideShapes Go.ChangeAt Go.RowKit
def MJ:List (String×DataW Unit):=[("thicket/digest.squareRoots",Rows.laid_thicket_digest_squareRoots),("thicket/digest.cubeRoots",Rows.laid_thicket_digest_cubeRoots)]
def own:ownKnob Tryz.prog.godebug=aB:=by kernel_rfl
def Qx:Tryz.prog.globalNamed "thicket/digest.squareRoots"=aA 0:=by kernel_rfl
def Zk:Tryz.prog.globalNamed "thicket/digest.cubeRoots"=aA 2:=by kernel_rfl
def Ov:(Tryz.prog.globals[0]?).map (·.type)=aA 136:=by kernel_rfl
def Xg:(Tryz.prog.globals[2]?).map (·.type)=aA 157:=by kernel_rfl
def Lq (os:Os)(args:zA):laidMetH Tryz.prog MJ ((World.doorLaid Tryz.prog 400 os).forCall (λ_ _=>0) ⟨#[],args,[]⟩).memory:=
 laidMetH_of_parts3 (fuel:=8) (laidMet_of_run' 8 (by kernel_rfl) (by kernel_rfl)) (by kernel_rfl) (by kernel_rfl)
def lZ:List Int:=[1779033703,3144134277,1013904242,2773480762,1359893119,2600822924,528734635,1541459225]
def qN:List Int:=TO.map λ(n:Nat)=>(n:Int)
def NW:(Rows.laid_thicket_digest_squareRoots:DataW Unit)=Lib.tabData aO lZ:=rfl
def ZB:(Rows.laid_thicket_digest_cubeRoots:DataW Unit)=Lib.tabData aO qN:=by kernel_rfl
def NS {W:zW}(h:laidMetH Tryz.prog MJ W):dO W:=by
 rw[MakeChecks.laidMetH_plain _ _ _ (by kernel_rfl)]at h;obtain⟨s,⟨g0,t0,q,f0,p0,q0,c,l,i,f,⟨u,t1,p,f1,p1,q1,b,k,g,d,_,_⟩,_⟩,_,_⟩:=h;obtain rfl:=zAm (Qx.symm.trans c);obtain rfl:=zAm (Zk.symm.trans b);obtain rfl:=zAm (Ov.symm.trans l);obtain rfl:=zAm (Xg.symm.trans k);rw[NW]at f;rw[ZB]at d;have r:=Lib.cells_of_tab Tryz.underlying136 Tryz.underlying135 (by kernel_rfl) (by kernel_rfl) f;have c1:=Lib.cells_of_tab Tryz.underlying157 Tryz.underlying135 (by kernel_rfl) (by kernel_rfl) d;have v0:=World.var?_cell c i;have o:=World.var?_cell b g;have s0:H0.cells.toList=lZ.map λz=>Value.int aO z:=by kernel_rfl
 have s1:∀t,t<64->(qN.map λz=>Value.int aO z)[t]? =aA (aC aO (Sha.V (K t))):=by
  intro t m;have e:(qN.map λz=>Value.int aO z).toArray=row aO K:=by kernel_rfl
  have:=mB aO K t m
  rw[<-e]at this
  simpa using this
 have a0:∀j v,(lZ.map λz=>Value.int aO z)[j]? =aA v->W.cell? ⟨0,j,aB⟩=aA v:=λj v a=>by rw[v0 j];rw[<-r]at a;simpa using a
 have n:∀t:Nat,t<64->W.cell? ⟨2,t,aB⟩=aA (aC aO (Sha.V (K t))):=λt m=>by rw[o t];have:=s1 t m;rw[<-c1]at this;simpa using this
 refine⟨⟨?_,n⟩,?_,λj v a=> ?_⟩
 .exact World.block_lt_of_cell? W ⟨_,_,aB⟩ (n 0 (by omega))
 .exact World.block_lt_of_cell? W ⟨_,_,aB⟩ (a0 0 (aC aO 1779033703) rfl)
 .rw[s0]at a;rw[zAv];exact a0 j v a
open Go Go.RowKit Go.ChangeShapes Go.WideShapes Go.Ga Go.Ren Go.Deep
def rP {W:zW}{a:Addr}{v:zY}(h:W.cell? a=aA v):a.spot=aB/\jU W a.block/\a.block<W.heap.size:=by
 unfold World.cell? at h;cases hb:W.heap[a.block]? with
 |none=>rw[hb]at h;cases h
 |some o=>
  have bU:=(zAb.1 hb).1;rw[hb]at h;cases o with
  |cells c t f=>
   dsimp only at h;cases b:a.spot with
   |none=>exact⟨rfl,aG ⟨c,t,f,hb⟩,bU⟩
   |some s=>rw[b]at h;simp at h
  |_=>cases h
def SZ {W:zW}{b0:Nat}{t e:zD}(d:Tryz.prog.underlying t=aA (.slice e)){a:Addr}{l c:Nat}(h:Value.okWide Tryz.prog W .any b0 t (aJ (aA a) l c)):jU W a.block:=by
 simp only[Value.okWide,Cell.okWide,Cell.ok,d]at h;obtain⟨_,_,_,_,row,cells,b,_⟩:=h;unfold World.shape? at b;cases hb:W.heap[a.block]? with
 |none=>rw[hb]at b;cases b
 |some o=>
  rw[hb]at b;cases o with
  |cells c t f=>exact aG ⟨c,t,f,hb⟩
  |_=>cases b
def Ci {H:Type}{P:zZ}{e:zD}:∀{ds:List (DataW H)}{d:DataW H},d∈ds->∀n∈d.weights P e,n∈DataW.weightsAll P e ds
 |d0::ds,d,h,n,a=>by
  simp only[DataW.weightsAll,zCh];obtain rfl|h:=zAg.1 h
  .exact aG a
  .exact aH (Ci h n a)
def EZ {n:Int}(h:(Lit.int aD n).wf=aE): -9223372036854775808<=n/\n<=9223372036854775807:=by simpa [Lit.wf,IntKind.min,IntKind.max,IntKind.signed,IntKind.bits]using h
def num:zY->Int
 | .int _ n=>n
 |_=>0
def dh (W:zW)(e:zY)(l:zII):Prop:=qR W e l/\∃o cap,e=aJ o l.length cap/\∀b,o=aA b->jU W b.block\/l.length=0/\cap=0
section
variable {H:Type}{enc:zD×zY->H}{W:zW}
def XM {fuel:Nat}{v:zY}{x:DataW H×List MemPlace}(h:DataW.trod enc Tryz.prog W 0 (λ_=>aE) aE fuel 45 [v]=aA x)(D:∀n∈x.1.weights Tryz.prog 45,n<=reachBytes):
  ∃l,dh W v l/\l.length<=4611686018427387904:=by
 have t:Tryz.prog.cellsOf 3=1:=by kernel_rfl
 have B:Tryz.prog.cellsOf 88=2:=by kernel_rfl
 have u:Tryz.prog.bytesOf 88=16:=by kernel_rfl
 obtain⟨A,_⟩|⟨a,len,cap,m,n,j,V,D0,D1,R,Q,A,_,K,M,hm,I,e⟩:=open_slice_pairs Tryz.underlying45 Tryz.underlying88 B rfl rfl t t h
 .obtain rfl:v=aJ aB 0 0:=(zFk A).1;exact⟨[],⟨⟨by simp,aG ⟨rfl,aB,0,rfl⟩⟩,aB,0,rfl,λb C=>by cases C⟩,by simp⟩
 .obtain rfl:v=aJ (aA a) len cap:=(zFk A).1;simp only[zDf]at hm;replace hm:=hm.symm;subst hm;have d:∀i,i<cap->W.cell? (a.add (i*2))=aA (aC aD (num (j i)))/\W.cell? (a.add (i*2+1))=aA (aC aD (num (V i)))/\(-9223372036854775808<=num (j i)/\num (j i)<=9223372036854775807)/\-9223372036854775808<=num (V i)/\num (V i)<=9223372036854775807:=λi z=>by
   obtain⟨f,E,t0,t1⟩:=e i z;obtain⟨G,g0,_,w0⟩:=DataW.trod_int Tryz.underlying3 t0;obtain⟨F,N,_,w1⟩:=DataW.trod_int Tryz.underlying3 t1;have P:j i=aC aD G:=(zFk g0).1;have O:V i=aC aD F:=(zFk N).1;rw[P]at f⊢;rw[O]at E⊢;exact⟨f,E,EZ w0,EZ w1⟩
  have c:((List.range len).map λi=>(num (j i),num (V i))).length=len:=by simp
  refine⟨(List.range len).map λi=>(num (j i),num (V i)),⟨⟨λr p=> ?_,?_⟩,aA a,cap,by rw[c],λb C=> ?_⟩,?_⟩
  .obtain⟨i,z,rfl⟩:=zDb.1 p;have:=d i (by have:=zBw.1 z;omega);exact⟨this.2.2.1.1,this.2.2.1.2,this.2.2.2.1,this.2.2.2.2⟩
  .by_cases f:len=0
   .subst f;exact aG ⟨rfl,aA a,cap,rfl⟩
   .right;obtain⟨J,_,bU⟩:=rP (d 0 (by omega)).1;obtain⟨g,o,s⟩:=a;have w:s=aB:=by
     cases s with
     |none=>rfl
     |some s=>simp[Addr.add]at J
    subst w;refine⟨g,o,cap,by rw[c],by simpa [Addr.add]using bU,λi r p=> ?_⟩;rw[zEk]at p;obtain⟨k,L,rfl⟩:=zBx.1 p;obtain⟨y,q⟩:=zAi.1 L;simp at y q;subst q;have:=d i (by omega);rw[add_plain,add_plain]at this;exact⟨this.1,by rw[zCv];exact this.2.1⟩
  .cases C;by_cases f:cap=0
   .right;rw[c];exact⟨by omega,f⟩
   .left;have:=(rP (d 0 (by omega)).1).2.1;unfold Addr.add at this;split at this<;>exact this
  .rw[c];have p:=reachBytes_lt;rw[I]at D;have:=D ((len+(cap-len))*16) (by simp[DataW.weights,Tryz.underlying45,u]);omega
structure lk (W:zW)(va:zO)(E:List (zII)):Prop where
 Jd:∀b,va=aA b->jU W b.block
 EB:∀i l,E[i]? =aA l->∃g o ev,va=aA ⟨g,o,aB⟩/\g<W.heap.size/\W.cell? ⟨g,o+i,aB⟩=aA ev/\dh W ev l/\l.length<=4611686018427387904
structure Vy (W:zW)(aa:zO)(L:List Int):Prop where
 Jd:∀b,aa=aA b->jU W b.block
 at':JU W aa L
def SW {b0:Nat}{v:zY}{d:DataW H}{K:List MemPlace}(e:Value.okWide Tryz.prog W .any b0 28 v)(h:DataW.Trod enc Tryz.prog W 0 (λ_=>aE) aE 28 v d K)(A:∀n∈d.weights Tryz.prog 28,n<=reachBytes):
  ∃va J E,v=aJ va E.length J/\lk W va E/\E.length<=4611686018427387904:=by
 obtain⟨fuel,I⟩:=h
 have F:Tryz.prog.cellsOf 45=1:=by kernel_rfl
 have y:Tryz.prog.bytesOf 45=24:=by kernel_rfl
 have r:v.cells.toList=[v]:=by simp only[Value.okWide,Cell.okWide,Cell.ok,Tryz.underlying28]at e;cases v<;>first|rfl|exact e.elim
 rw[r]at I
 obtain⟨C,_⟩|⟨a,len,cap,m,n,V,D,U,C,_,O,S,hm,L,c⟩:=open_slice1 Tryz.underlying28 F I
 .obtain rfl:v=aJ aB 0 0:=(zFk C).1;exact⟨aB,0,[],rfl,⟨λb G=>by(cases G),λi l p=>by simp at p⟩,by simp⟩
 .obtain rfl:v=aJ (aA a) len cap:=(zFk C).1;simp only[zDf]at hm;replace hm:=hm.symm;subst hm;have R:d= .slice ((List.range len).map D) ((List.range (cap-len)).map λj=>D (len+j)):=congrArg Prod.fst L;rw[R]at A;have z:∀i,i<len->∀n∈(D i).weights Tryz.prog 45,n<=reachBytes:=λi p n N=>A n (by
   simp only[DataW.weights,Tryz.underlying28,zAg,zCh];exact aH (aG (Ci (zDb.2 ⟨i,zBw.2 p,rfl⟩) n N)))
  have f:∀i,∃l,i<len->dh W (V i) l/\l.length<=4611686018427387904:=λi=>by
   by_cases p:i<len
   .obtain⟨l,P⟩:=XM (c i (by omega)).2 (z i p);exact⟨l,λ_=>P⟩
   .exact⟨[],λh=>absurd h p⟩
  have q:((List.range len).map λi=>Classical.choose (f i)).length=len:=by simp
  refine⟨aA a,cap,(List.range len).map λi=>Classical.choose (f i),by rw[q],⟨λb G=> ?_,λi l p=> ?_⟩,?_⟩
  .cases G;exact SZ Tryz.underlying28 e
  .rw[zEk]at p;obtain⟨k,Q,rfl⟩:=zBx.1 p;obtain⟨u,t⟩:=zAi.1 Q;simp at u t;subst t;have w:=(c i (by omega)).1;obtain⟨M,_,bU⟩:=rP (c 0 (by omega)).1;obtain⟨g,o,s⟩:=a;have B:s=aB:=by
    cases s with
    |none=>rfl
    |some s=>simp[Addr.add]at M
   subst B;rw[add_plain]at w;have:=zAr (f i) u;exact⟨g,o,V i,rfl,by simpa [Addr.add]using bU,w,this.1,this.2⟩
  .rw[q];have T:=reachBytes_lt;have:=A ((len+(cap-len))*24) (by simp[DataW.weights,Tryz.underlying28,y]);omega
def Er {b0:Nat}{v:zY}{d:DataW H}{C:List MemPlace}(c:Value.okWide Tryz.prog W .any b0 29 v)(h:DataW.Trod enc Tryz.prog W 0 (λ_=>aE) aE 29 v d C)(z:∀n∈d.weights Tryz.prog 29,n<=reachBytes):
  ∃B ac L,v=aJ B L.length ac/\Vy W B L/\L.length<=4611686018427387904:=by
 obtain⟨fuel,A⟩:=h
 have t:Tryz.prog.cellsOf 3=1:=by kernel_rfl
 have u:Tryz.prog.bytesOf 3=8:=by kernel_rfl
 have k:v.cells.toList=[v]:=by simp only[Value.okWide,Cell.okWide,Cell.ok,Tryz.underlying29]at c;cases v<;>first|rfl|exact c.elim
 rw[k]at A
 obtain⟨r,_⟩|⟨a,len,cap,zs,r,_,E,I,p,D,g,q⟩:=open_ints Tryz.underlying29 Tryz.underlying3 t A
 .obtain rfl:v=aJ aB 0 0:=(zFk r).1;exact⟨aB,0,[],rfl,⟨λb w=>by(cases w),⟨λi l j=>by simp at j⟩⟩,by simp⟩
 .obtain rfl:v=aJ (aA a) len cap:=(zFk r).1;have y:zs.length=cap:=by simpa using p
  have e:(zs.take len).length=len:=by rw[zAn];omega
  have G:d= .slice (lits aD (zs.take len)) (lits aD (zs.drop len)):=congrArg Prod.fst D
  rw[G]at z
  refine⟨aA a,cap,zs.take len,by rw[e],⟨λb w=> ?_,⟨λi n j=> ?_⟩⟩,?_⟩
  .cases w;exact SZ Tryz.underlying29 c
  .have o:=(zAi.1 j).1;rw[e]at o;obtain⟨b,off,rfl,s⟩:=ints_at g (by omega);rw[zBy,zAk o]at j;have F:zs.getD i 0=n:=by rw[zAq,j];rfl
   have f:=s i (by omega);rw[F]at f;exact⟨b,off,rfl,World.block_lt_of_cell? W ⟨_,_,aB⟩ f,f,EZ (q n (zCq j))⟩
  .rw[e];have J:=reachBytes_lt;have:=z (((lits aD (zs.take len):List (DataW H)).length+(lits aD (zs.drop len):List (DataW H)).length)*8) (by simp[DataW.weights,Tryz.underlying29,u]);simp[lits]at this;omega
end
section
variable {W X:zW}{m:zY->zY}(hX:X.heap=(masked m W).heap)(hm:∀x,Kept (jU W) x (m x))
include hX
def NA {b k:Nat}{x:zY}(h:W.cell? ⟨b,k,aB⟩=aA x):X.cell? ⟨b,k,aB⟩=aA (m x):=by
 have e:X.cell? ⟨b,k,aB⟩=(masked m W).cell? ⟨b,k,aB⟩:=by unfold World.cell?;rw[hX]
 rw[e,TK h]
def qD {b:Nat}(h:b<W.heap.size):b<X.heap.size:=by rw[hX,mM];omega
include hm
def tV {b k:Nat}{a:IntKind}{n:Int}(h:W.cell? ⟨b,k,aB⟩=aA (.int a n)):X.cell? ⟨b,k,aB⟩=aA (.int a n):=by rw[NA hX h,(hm _).1 _ _ rfl]
def ZS {s:zY}{l:zII}(h:dh W s l):qR X (m s) l:=by
 obtain⟨k,o,cap,rfl,y⟩:=h;obtain⟨t,j,C⟩:=(hm (aJ o l.length cap)).2 _ _ _ rfl y;refine⟨k.fits,?_⟩;obtain⟨z,_⟩|⟨g,p,c,w,A,a⟩:=k.EB
 .subst z;exact aG ⟨rfl,t,cap,j⟩
 .by_cases q:l=[]
  .subst q;exact aG ⟨rfl,t,cap,j⟩
  .obtain⟨r,f⟩:∃r,l[0]? =aA r:=⟨l[0]'(List.length_pos_iff.2 q),zAf _⟩;injection w with d v u;subst d;have e:=(rP (a 0 r f).1).2.1;have:=C λb B=>by cases B;exact e
   subst this;exact aH ⟨g,p,cap,j,qD hX A,λi r n=>⟨tV hX hm (a i r n).1,tV hX hm (a i r n).2⟩⟩
def YU {va:zO}{E:List (zII)}(h:lk W va E):AK X va E:=⟨λi l a=>by obtain⟨g,o,j,f,e,d,c,b⟩:=h.EB i l a;exact⟨g,o,m j,f,qD hX e,NA hX d,ZS hX hm c,b⟩⟩
def VI {a:zO}{L:List Int}(h:Vy W a L):JU X a L:=⟨λi n b=>by obtain⟨g,o,f,e,d,c⟩:=h.at'.EB i n b;exact⟨g,o,f,qD hX e,tV hX hm d,c⟩⟩
def QU (h:dO W):dO X:=by
 have s0:H0.cells.toList=lZ.map λz=>Value.int aO z:=by kernel_rfl
 refine⟨⟨qD hX h.qN.1,λt c=>tV hX hm (h.qN.2 t c)⟩,qD hX h.lt,λj v b=> ?_⟩
 have a:=b
 rw[s0,zEk]at a
 obtain⟨z,_,rfl⟩:=zBx.1 a
 exact tV hX hm (h.lZ j _ b)
end
structure Ro (W:zW):Prop where
 rows:∀b,b<3->∃c t,W.heap[b]? =aA (aI c t (0,0))/\∀(i:Nat) v,c[i]? =aA v->∃k n,v= .int k n/\k≠aP
 last:∃c t fr,W.heap[3]? =aA (aI c t fr)/\(∀(i:Nat) v,c[i]? =aA v->∃k n,v= .int k n/\k≠aP)/\fr.2<=c.size
def GK {W:zW}{t u:zD}{n:Nat}{k:IntKind}{c:zA}(d:Tryz.prog.cellTypes Tryz.prog.depth t=aA (List.replicate n u))(j:Tryz.prog.underlying u=aA (.int k))(h:Row.ok Tryz.prog W .any 0 t c)(i:Nat)(v:zY)(g:c[i]? =aA v):∃m,v= .int k m:=by
 obtain⟨o,e,_,l⟩:=h;rw[d]at e;obtain rfl:=zAm e;obtain⟨f,a,b⟩:=l i v g;have:f=u:=by
  rw[zFw]at a;split at a
  .exact(zAm a).symm
  .cases a
 subst this
 simp only[Cell.ok,j]at b
 cases v<;>first|exact b.elim|exact⟨_,by rw[b.1]⟩
open Go Go.RowKit Go.ChangeShapes Go.WideShapes Go.ChangeAt Go.Ga Go.Ren Go.Conc
def Xy:zY->Bool
 | .int k _=>k !=aP
 |_=>aF
def Uc:Obj->Bool
 |aI c _ f=>c.all Xy&&decide (f.2<=c.size)
 |_=>aF
def Ub {o:Obj}(h:Uc o=aE):∃c t f,o=aI c t f/\(∀(i:Nat) v,c[i]? =aA v->∃k n,v= .int k n/\k≠aP)/\f.2<=c.size:=by
 cases o with
 |cells c t f=>simp only[Uc,zBd,zBs]at h;refine⟨c,t,f,rfl,λi v a=> ?_,h.2⟩;have:=Array.all_eq_true'.1 h.1 v (zBc a);cases v<;>first|(cases this;done)|exact⟨_,_,rfl,by simpa [Xy]using this⟩
 |_=>cases h
noncomputable def w0:zW:=(begin Tryz.prog (λ_ _=>0) default).world
def TW:Tryz.prog.globals.size=3:=by kernel_rfl
def dt:((w0.heap[0]?).bind Obj.row?).map (·.2)=aA 136:=by kernel_rfl
def dq:((w0.heap[1]?).bind Obj.row?).map (·.2)=aA 3:=by kernel_rfl
def dp:((w0.heap[2]?).bind Obj.row?).map (·.2)=aA 157:=by kernel_rfl
def dm:(w0.heap[3]?).map Uc=aA aE:=by kernel_rfl
def Ol {W:zW}(h:W.ShapedOpen Tryz.prog):Ro W:=by
 obtain⟨J,I⟩:=h;have k:∀g t,g<3->((w0.heap[g]?).bind Obj.row?).map (·.2)=aA t->Tryz.prog.buildable t=aE->∃c,W.heap[g]? =aA (aI c t)/\Row.ok Tryz.prog W .any 0 t c:=λg t D C j=>by obtain⟨⟨z,y⟩,B,rfl⟩:=zBx.1 C;obtain⟨cs,d,_,a⟩:=J g z y (by rw[TW];exact D) B;exact⟨cs,d,a j⟩
 refine⟨λb j=> ?_,?_⟩
 .match b,j with
  |0,_=>obtain⟨c,d,a⟩:=k 0 _ (by omega) dt (by kernel_rfl);exact⟨c,_,d,λi v f=>let⟨m,hm⟩:=GK (n:=8) (u:=135) (by kernel_rfl) Tryz.underlying135 a i v f;⟨_,m,hm,by simp⟩⟩
  |1,_=>obtain⟨c,d,a⟩:=k 1 _ (by omega) dq (by kernel_rfl);exact⟨c,_,d,λi v f=>let⟨m,hm⟩:=GK (n:=1) (u:=3) (by kernel_rfl) Tryz.underlying3 a i v f;⟨_,m,hm,by simp⟩⟩
  |2,_=>obtain⟨c,d,a⟩:=k 2 _ (by omega) dp (by kernel_rfl);exact⟨c,_,d,λi v f=>let⟨m,hm⟩:=GK (n:=64) (u:=135) (by kernel_rfl) Tryz.underlying135 a i v f;⟨_,m,hm,by simp⟩⟩
  |b+3,j=>exact absurd j (by omega)
 .obtain⟨x,s,E⟩:=zBx.1 dm;have bU:3<w0.heap.size:=(zAb.1 s).1;obtain⟨o,r,q1,A,p⟩:=I 3 (by rw[TW];omega) bU;have e:(3:Nat)-Tryz.prog.globals.size=0:=by rw[TW]
  rw[e]at p;have l:o=r:=p;have q:w0.heap[3]? =aA r:=A;rw[s]at q;obtain rfl:=zAm q;subst l;obtain⟨c,t,K,rfl,G,F⟩:=Ub E;exact⟨c,t,K,q1,G,F⟩
def Ro.Xo {W:zW}(h:Ro W)(b:Nat)(d:b<=Tryz.prog.globals.size):∃o,W.heap[b]? =aA o/\((∃c t f,o=aI c t f)\/EG o):=by
 rw[TW]at d;by_cases e:b<3
 .obtain⟨c,t,a,_⟩:=h.rows b e;exact⟨_,a,aG ⟨c,t,_,rfl⟩⟩
 .obtain rfl:b=3:=by omega
  obtain⟨c,t,f,a,_⟩:=h.last;exact⟨_,a,aG ⟨c,t,f,rfl⟩⟩
def VH {W X:zW}{m:zY->zY}(q:X.heap=(masked m W).heap)(s:∀x,Kept (jU W) x (m x))(r:Ro W)(B:dO W):Base X:=by
 have u:zq.globals.size=3:=Qz.nB.trans TW;refine⟨λb A=> ?_,QU q s B,?_⟩
 .rw[u]at A;rw[q];have d:∀c t f,W.heap[b]? =aA (aI c t f)->(∀(i:Nat) v,c[i]? =aA v->∃k n,v= .int k n/\k≠aP)->f.2<=c.size->(∃c t f,(masked m W).heap[b]? =aA (aI c t f)/\(∀D:zP,(∀x,x<=zq.globals.size->D x)->aW Qw.Al (dE D) c c)/\(∀(i:Nat) m,c[i]?≠aA (aC aP m))/\f.2<=c.size):=λc t f a l p=>by
   have h:∀(i:Nat) v,(c.map m)[i]? =aA v->∃k n,v= .int k n/\k≠aP:=λi v j=>by rw[zCt]at j;obtain⟨x,y,rfl⟩:=zBx.1 j;obtain⟨k,n,rfl,o⟩:=l i x y;exact⟨k,n,(s _).1 _ _ rfl,o⟩
   refine⟨_,t,_,lA a,λD _=>⟨rfl,λi v E j g=> ?_⟩,λi n z=> ?_,by simpa using p⟩
   .rw[j]at g;cases g;obtain⟨k,n,rfl,_⟩:=h i v j;exact .int k n
   .obtain⟨k,F,e,o⟩:=h i _ z;cases e;exact o rfl
  by_cases C:b<3
  .obtain⟨c,t,a,l⟩:=r.rows b C;exact aG (d c t _ a l (zBp _))
  .obtain rfl:b=3:=by omega
   obtain⟨c,t,f,a,l,p⟩:=r.last;exact aG (d c t f a l p)
 .rw[u,q,mM];obtain⟨c,t,f,a,_⟩:=r.last;have:=(zAb.1 a).1;omega
def Gr {W:zW}(hs:W.ShapedOpen Tryz.prog)(S:laidMetH Tryz.prog MJ W){va k:zO}{vc ac:Nat}{E:List (zII)}{L:List Int}{j wo:Int}(C:lk W va E)(z:E.length<=4611686018427387904)(F:Vy W k L)(y:L.length<=4611686018427387904)
  (Y: -9223372036854775808<=j) (V:j<=9223372036854775807) (U: -9223372036854775808<=wo) (T:wo<=9223372036854775807):
  ∃M last o i t,runNT Tryz.prog (M+1) (solo (G (Frame.enter Tryz.prog 9 #[aJ va E.length vc,aC aD j,aC aD wo,aJ k L.length ac] .normal) []) W) #[]=(.ended o i,t)/\runN Tryz.prog M (solo (G (Frame.enter Tryz.prog 9 #[aJ va E.length vc,aC aD j,aC aD wo,aJ k L.length ac] .normal) []) W)= .next last/\
   step Tryz.prog last= .ended o i/\Conc.Good Tryz.prog (λv Z=>v= .bool aE/\zb W Z) last o i t:=by
 have B:=Ol hs
 have Q:=NS S
 have r:=B.Xo
 have D:∀(m:zY->zY),(∀x,Kept (jU W) x (m x))->∀g d,Calls zq 9 #[aJ va E.length vc,aC aD j,aC aD wo,aJ k L.length ac] ((masked m W).re g d) (RF λx i=>x= .bool aE/\Below (masked m W).heap.size ((masked m W).re g d) i):=λm q g d=>
  Mo va vc E j wo k ac L ((masked m W).re g d) (VH (X:=(masked m W).re g d) rfl q B Q) (YU (X:=(masked m W).re g d) rfl q C) z (VI (X:=(masked m W).re g d) rfl q F) y Y V U T
 have p:∀(a:zO)(l c:Nat),(∀b,a=aA b->jU W b.block)->bG (λ_=>False) (dE (jU W)) (aJ a l c) (aJ a l c):=λa l c h=>by
  cases a with
  |none=>exact .slice .none l c
  |some a=>exact .slice (.some ⟨⟨rfl,h a rfl⟩,rfl,rfl⟩) l c
 have O:aW (λ_=>False) (dE (jU W)) #[aJ va E.length vc,aC aD j,aC aD wo,aJ k L.length ac] #[aJ va E.length vc,aC aD j,aC aD wo,aJ k L.length ac]:=
  (AO (p va _ vc C.Jd) (.int aD j)).append (AO (.int aD wo) (p k _ ac F.Jd))
 obtain⟨M,last,o,i,t,r1,r2,r3,n⟩:=Pn (R:=λx v=>x= .bool aE/\∀b,b<(masked (mk W) W).heap.size->v.heap[b]? =(masked (mk W) W).heap[b]?) Vf (f:=9) (by show(Qm.ck (·==1000001)).al 9=aE;kernel_rfl) (by decide) (by decide) O (RA r) (λx u g d h=>h)
  (λg d=>(D (mk W) (λx=>(IA W x).kept) g d).mono λe i h=>h.imp (λ⟨x,J,I,K⟩=>⟨x,J,I,λb s=>K.block b s⟩) id)
  λN _=>⟨masked (We W N) W,λe _=>e≠.outgrown,Gv r N,λi h=>h rfl,λg d=>(D (We W N) (λx=>(TJ W N x).2) g d).mono λe i h=>by obtain⟨_,rfl,_⟩|⟨_,rfl,_⟩:=h<;>simp⟩
 exact⟨M,last,o,i,t,r1,r2,r3,n.mono λv A=>⟨Left.value (λx v h=>h.1) A,Left.below (RA r) (λx v h=>h.2) A⟩⟩
section
variable {H:Type}{enc:zD×zY->H}{P:zZ}{w:zW}{base:Nat}{spare:Nat->Bool}{held:Bool}
def Cw {t0 t1 t2 t3:zD}{args:zA}{ds:List (DataW H)}{p:List MemPlace}(h:DataW.TrodAll enc P w base spare held [t0,t1,t2,t3] args.toList ds p):
  ∃v0 v v2 v3 d0 d1 d d3 p0 p1 p2 p3,args= #[v0,v,v2,v3]/\ds=[d0,d1,d,d3]/\p=p0++(p1++(p2++p3))/\DataW.Trod enc P w base spare held t0 v0 d0 p0/\DataW.Trod enc P w base spare held t1 v d1 p1/\DataW.Trod enc P w base spare held t2 v2 d p2/\DataW.Trod enc P w base spare held t3 v3 d3 p3:=by
 obtain⟨v0,r0,d0,j,p0,q0,a,rfl,rfl,g0,f0⟩:=trodAll_cons h
 obtain⟨v,r1,d1,i,p1,q1,rfl,rfl,rfl,b,f1⟩:=trodAll_cons f0
 obtain⟨v2,r2,d,f,p2,c,rfl,rfl,rfl,g2,f2⟩:=trodAll_cons f1
 obtain⟨v3,r3,d3,e,p3,q,rfl,rfl,rfl,g,f3⟩:=trodAll_cons f2
 obtain⟨rfl,rfl,rfl⟩:=trodAll_nil f3
 exact⟨v0,v,v2,v3,d0,d1,d,d3,p0,p1,p2,p3,by cases args;simp_all,rfl,by simp,g0,b,g2,g⟩
end
def VB (os:Os)(started:os.Started)(H:Type)(enc:zD×zY->H):
  ReturnsInLeavingWide {} Tryz.checked os 9 .any (λw args=>(Rows.bothSpec.pre enc Tryz.prog Tryz.f9 [] aF w args/\laidMetH Tryz.prog MJ w)/\sizedMet enc Tryz.prog Tryz.f9 (OpenSpec.ofChange Rows.bothSpec) aF w args)
   (Rows.bothSpec.post enc Tryz.prog Tryz.f9 aF aE aF aF):=by
 refine returnsInLeavingWide_of_good (C:=Tryz.checked) own started
  (ChangeSpec.witness_shaped (enc:=enc) (C:=Tryz.checked) (os:=os) (X:=λw _=>laidMetH Tryz.prog MJ w) aF (World.doorLaid Tryz.prog 400 os) #[aJ aB 0 0,aC aD 0,aC aD 0,aJ aB 0 0] 8 rfl (World.shaped_of_RefB (by kernel_rfl) (by kernel_rfl)) (by kernel_rfl) (by kernel_rfl) (by kernel_rfl) (Lq os _)) ?_
 intro w tape i _ m _ D r _
 obtain⟨_,_,_,J,s,_,_,_,_,b⟩:=D
 obtain rfl:J=Tryz.f9:=zAm (s.symm.trans Tryz.func9)
 obtain⟨⟨⟨ds,gs,before,B,_⟩,R⟩,O⟩:=r
 have c:=O.weights B
 have f:=DataW.Whole.of_heap (w':=w.forCall tape i) (by rfl) B
 have S:laidMetH Tryz.prog MJ (w.forCall tape i):=R.of_heap (by rfl)
 obtain⟨blocks,args,vars⟩:=i
 dsimp only at b f c S m⊢
 generalize w.forCall tape ⟨blocks,args,vars⟩=W at*
 clear R O B
 have a:∀(j:Nat) t v,Tryz.f9.params[j]? =aA t->args[j]? =aA v->Value.okWide Tryz.prog W .any w.heap.size t v:=b
 have l:(DataW.weightsEach Tryz.prog (Tryz.f9.params.toList++Rows.bothSpec.plain.varTypes Tryz.prog) (ds++gs)).all (·<=reachBytes)=aE:=c
 have u:=f
 obtain⟨p,q,y,hV,rfl,hfz,Z⟩:=f
 have T:DataW.TrodAll enc Tryz.prog W 0 (λ_=>aE) aE Tryz.f9.params.toList args.toList ds p:=y
 rw[Tryz.params9]at T a l
 obtain⟨v0,U,v2,v3,d0,d1,d2,d3,p0,p1,p2,p3,rfl,rfl,rfl,t0,t1,t2,t3⟩:=Cw T
 obtain⟨rfl,rfl⟩:=trodVars_none hV
 have k:∀(j:Nat) t d,([28,3,3,29]:List zD)[j]? =aA t->[d0,d1,d2,d3][j]? =aA d->∀n∈d.weights Tryz.prog t,n<=reachBytes:=λj t d Q hd n hn=>by have:=zCa.1 l n (DataW.weights_mem_each (j:=j) (t:=t) (d:=d) (by rw[zCe (zAi.1 Q).1];exact Q) (by rw[zAy];exact hd) n hn);simpa using this
 obtain⟨va,N,E,rfl,hE,I⟩:=SW (a 0 28 v0 rfl rfl) t0 (k 0 _ _ rfl rfl)
 obtain⟨wi,rfl,rfl,rfl,w1⟩:=open_int Tryz.underlying3 (a 1 3 U rfl rfl) t1
 obtain⟨wo,rfl,rfl,rfl,w2⟩:=open_int Tryz.underlying3 (a 2 3 v2 rfl rfl) t2
 obtain⟨aa,ac,L,rfl,hK,G⟩:=Er (a 3 29 v3 rfl rfl) t3 (k 3 _ _ rfl rfl)
 have A:∀x∈p0,x.block<W.heap.size:=by obtain⟨fuel,F⟩:=t0;exact DataW.trod_lt fuel _ _ _ F
 have z:∀x∈p3,x.block<W.heap.size:=by obtain⟨fuel,F⟩:=t3;exact DataW.trod_lt fuel _ _ _ F
 clear y b c
 obtain⟨M,last,o,K,V,r1,r2,r3,e⟩:=Gr m S (vc:=N) (ac:=ac) hE I hK G (EZ w1).1 (EZ w1).2 (EZ w2).1 (EZ w2).2
 refine⟨M,last,o,K,V,r1,r2,r3,e.mono λv Y=> ?_⟩
 obtain⟨rfl,g⟩:=Y
 simp only[zAy]at u
 exact ChangeSpec.post_blind ⟨_,_,_,[],_,[],u,trodAll_mk1 (shut_bool Tryz.underlying4 _),trodAll_mk4 (g.trod (by kernel_rfl) (by kernel_rfl) (of_decide_eq_true (by kernel_rfl)) t0 A) (shut_int Tryz.underlying3 w1) (shut_int Tryz.underlying3 w2) (g.trod (by kernel_rfl) (by kernel_rfl) (of_decide_eq_true (by kernel_rfl)) t3 z),rfl,g.frame _,λh=>by cases h⟩
def Mn:Rows.BothSaid:=
 OpenClaim.holds_of_wide_leaving 9 Tryz.f9 rfl rfl rfl rfl rfl rfl rfl ⟨rfl,rfl,rfl,rfl,rfl⟩ rfl rfl rfl rfl rfl (by kernel_rfl) Tryz.func9 (by kernel_rfl)
  (of_decide_eq_true (by kernel_rfl)) (by unfold Func.isWrapper;first|(rw[zAk (by decide+kernel)];kernel_rfl)|(rw[zAh (by decide+kernel)];exact⟨rfl,rfl⟩))
  (λos started H enc _=>VB os started H enc)
theorem both_holds:Rows.BothCardSaid:=
 ⟨Claim7.tied_new_at .later [.data,.data] aE (Claim7.new_of_sixth Mn (aE,"33411e03c5f2884f9bb58066ffa33b407d3d92d55cca09c31043876e27824a14") aF rfl ⟨rfl,rfl⟩ (by kernel_rfl) rfl
  (λf fn e b=>by
   obtain rfl:f=9:=zAm ((show Tryz.prog.funcNamed "thicket/thicketkeep.Both"=aA 9 by kernel_rfl).symm.trans e)|>.symm;obtain rfl:fn=Tryz.f9:=(zAm (Tryz.func9.symm.trans b)).symm;exact⟨by kernel_rfl,λj t c=>by
    rw[Tryz.params9]at c;have d:t∈[28,3,3,29]:=by simpa using zBc c
    have a:([28,3,3,29].all λu=> !Tryz.prog.wantsStandIn u)=aE:=by kernel_rfl
    exact(show Tryz.prog.wantsStandIn t=aF by simpa using zCa.1 a t d)⟩)) (by kernel_rfl),λD g=>by(cases g),both_row_tie,λh=>by(cases h),by kernel_rfl⟩
end Go.Proofs.Zq
