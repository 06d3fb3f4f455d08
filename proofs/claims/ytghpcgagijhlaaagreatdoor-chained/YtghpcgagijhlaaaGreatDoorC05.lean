import Derived.ProofKit
import Derived.RowKit3
import Derived.WalkKit
import Derived.Deep.LoopGhost
import Derived.Deep.Light
import Derived.LoopN
import Derived.Laws.BitsAllLaws
import Derived.StillTail
import Derived.Deep.Quiet
import Derived.Deep.QuietTactic
import Derived.BigQuiet
import Derived.Lib.QuietBelow
import Derived.Test.YtghpcgagijhlaaaGreatDoorC04
set_option linter.all false
set_option maxRecDepth 100000
set_option maxHeartbeats 16000000
open Option renaming some->aA,none->aB
open Bool renaming true->aF,false->aG
open Or renaming inl->aH,inr->aI
open Go.Ending renaming returned->aM
open Go.Item renaming inRegion->aN
open Go.Obj renaming cells->aJ
open Go.IntKind renaming i64->aD,u32->aP,u64->aR,u8->aQ
open Array renaming replicate->aDZ
open BitVec renaming ofInt->aEz,ofNat->aEA,ofInt_natCast->aEB,toNat_ofNat->aEC,toNat_and->aED,toNat_xor->aEE
open Go renaming undef->aEh
open Go.IntKind renaming wrap_u32'->aEF,wrap->aEG,bits->aEH,signed->aEI
open Int renaming natCast_mul->aEJ,fdiv_eq_ediv_of_nonneg->aEK
open Go.Proofs.Tryz
namespace Go
abbrev zGt:=@Go.below_regrown
abbrev zGx:=@Go.Calls.quiet_of_same
abbrev zHe:=@Go.wp_region_quiet_below
end Go
namespace Go.Proofs
open Go.RowKit Go.Ren
section
variable {Q Q':zZ}(w:zW)
def RV {t}(h:Q.info? t=aB)(u)(es):(typeInfo t).runT Q u es=(.halt (.stuck "no such type") u,es):=by show(match Q.info? t with|some i=>pure i|none=>stuck "no such type":Sem TypeInfo).runT Q u es=_;rw[h];rfl
def CJ {t}(h:Q.underlying t=aB)(u)(es):(underlying t).runT Q u es=(.halt (.stuck "no such type") u,es):=by show(match Q.underlying t with|some d=>pure d|none=>stuck "no such type":Sem TypeDesc).runT Q u es=_;rw[h];rfl
def DN {t}(h:Q.info? t=Q'.info? t)(u)(es):(typeInfo t).runT Q u es=(typeInfo t).runT Q' u es:=by
 cases hi:Q'.info? t with
 |none=>rw[RV (h.trans hi),RV hi]
 |some i=>rw[NO (h.trans hi),NO hi]
def Bd {t}(h:Q.underlying t=Q'.underlying t)(u)(es):(underlying t).runT Q u es=(underlying t).runT Q' u es:=by
 cases hi:Q'.underlying t with
 |none=>rw[CJ (h.trans hi),CJ hi]
 |some i=>rw[yT (h.trans hi),yT hi]
def Jj {t}(h:Q.info? t=Q'.info? t)(u)(es):(Go.sizeOf t).runT Q u es=(Go.sizeOf t).runT Q' u es:=by
 unfold Go.sizeOf;rw[bD,bD,DN h];cases(typeInfo t).runT Q' u es with
 |mk r e=>cases r<;>rfl
def Qp {t}(h:Q.underlying t=Q'.underlying t)(u)(es):(isAgg t).runT Q u es=(isAgg t).runT Q' u es:=by
 unfold isAgg;rw[bD,bD,Bd h];cases(underlying t).runT Q' u es with
 |mk r e=>
  cases r with
  |ok d u1=>cases d<;>rfl
  |halt h u1=>rfl
def Ji {t}(h:Q.info? t=Q'.info? t)(u)(es):(zeroValue t).runT Q u es=(zeroValue t).runT Q' u es:=by
 unfold zeroValue;rw[bD,bD,DN h];cases(typeInfo t).runT Q' u es with
 |mk r e=>
  cases r with
  |ok i u1=>dsimp only;cases i.zero<;>rfl
  |halt h u1=>rfl
def ES {α}{s:Sem α}(h:∀u es,s.runT Q u es=s.runT Q' u es):s.run Q w=s.run Q' w:=by rw[<-Sem.runT_fst Q _ _ #[],h,Sem.runT_fst]
end
section
variable(w:zW)
@[simp]theorem Qz.typeInfo (n:zD):(typeInfo n).run zq w=(typeInfo n).run Tryz.prog w:=ES w λu e=>DN (Qz.info n) u e
@[simp]theorem Qz.Uc (n):(underlying n).run zq w=(underlying n).run Tryz.prog w:=ES w λu e=>Bd (Qz.eZ n) u e
@[simp]theorem Qz.sizeOf (n):(Go.sizeOf n).run zq w=(Go.sizeOf n).run Tryz.prog w:=ES w λu e=>Jj (Qz.info n) u e
@[simp]theorem Qz.isAgg (n:zD):(isAgg n).run zq w=(isAgg n).run Tryz.prog w:=ES w λu e=>Qp (Qz.eZ n) u e
@[simp]theorem Qz.zeroValue (n:zD):(zeroValue n).run zq w=(zeroValue n).run Tryz.prog w:=ES w λu e=>Ji (Qz.info n) u e
@[simp]theorem Qz.zy (t):zq.underlying t=Tryz.prog.underlying t:=Qz.eZ t
end
def Qz.fn {f:zN}{fn:Func}(a:Tryz.prog.funcs[f]? =aA fn)(h:¬Qz.iV f:=by decide):zq.funcs[f]? =aA fn:=(Qz.same h).trans a
end Go.Proofs
namespace Go.Ga
open Go.RowKit Go.Proofs Go.Ren
def Qz.call {f:zN}{fn:Func}{c:Code}(a:zq.funcs[f]? =aA fn)(h:(fn.name== "runtime.NumGoroutine")=aG:=by kernel_rfl)(b:fn.body=aA c:=by rfl)(xs:zA)(w:zW):(callFunc f xs).run zq w= .ok (.enter f xs) w:=by rw[<-Sem.runT_fst zq _ _ #[],jS a h b]
def Qz.cl {f:zN}{fn:Func}{c:Code}(b:Tryz.prog.funcs[f]? =aA fn)(h:¬Qz.iV f:=by decide)(a:(fn.name== "runtime.NumGoroutine")=aG:=by kernel_rfl)(d:fn.body=aA c:=by rfl)(xs:zA)(w:zW):=Qz.call (Qz.fn b h) a d xs w
@[simp]def Qz.ga:=Qz.call (Qz.fn Tryz.func235)
@[simp]def Qz.fz:=Qz.call (Qz.fn Tryz.func236)
def aa {w:zW}{g:Nat}{cs:zA}{t:zD}(h:w.heap[g]? =aA (aJ cs t (0,0)))(i:Nat):w.frozen? ⟨g,i,aB⟩=aG:=cT h i
def XO (w:zW)(c:Nat)(s:ByteArray)(o:Obj):eI [(c,s)] w ((w.setCell ⟨c,4,aB⟩ (.string s)).alloc o):=by have h:(w.setCell ⟨c,4,aB⟩ (.string s)).heap.size=w.heap.size:=eE _ _ _;refine⟨by rw[eS,h];omega,λb a=> ?_,rfl,rfl,rfl⟩;rw[alloc_old _ _ (by rw[h];exact a)];rfl
def GN:Io:=by
 intro rows q l cp W F hl K d f;obtain rfl:l=rows.length:=F.1;have T:Hid (fJ rows q rows.length W):=F;have Y:Hid (∀p∈rows,∃cs,W.heap[p.1]? =aA (aJ cs 272 (0,0))/\cs.size=6):=d;have U:Hid (∀a,q=aA a->∀p∈rows,a.block≠p.1):=f;clear F d f;go_enter (Qz.fn func235),ntmps235;go_wp2_with fail;go_loopg [6] rows.length (λn x wr=>∃(j:Nat),j+n=rows.length/\x= .int aD (j:Int)/\eI (rows.take j) W wr);case atStart=>exact⟨0,by omega,rfl,eI.nil⟩
 case round=>
  obtain⟨j,hj,rfl,c1⟩:=hrel
  have C:Hid (eI (rows.take j) W wr):=c1
  clear c1
  by_cases b:j<rows.length
  .have J:rows≠[]:=λe=>by rw[e]at b;simp at b
   obtain⟨g,Z,e,I⟩:=T.out.2 J;subst e;obtain⟨t,k1⟩:=I j rows[j] (zAh b);have k:rows[j]∈rows:=zDh b;have m:=U.out _ rfl;dsimp only at m;have D:g<W.heap.size:=by
    unfold World.cell? at t;dsimp only at t;cases hb:W.heap[g]? with
    |none=>rw[hb]at t;cases t
    |some ob=>exact(zAa.1 hb).1
   have z:wr.heap[g]? =W.heap[g]? :=(C.out.heap g D).trans (gP _ λp O=>zDi (m p (zEl O)));have o:∀i,wr.cell? ⟨g,i,aB⟩=W.cell? ⟨g,i,aB⟩:=λi=>by{simp only[World.cell?];rw[z]};obtain⟨G,r,v⟩:=Y.out _ k;obtain⟨M,h,E⟩:=lR (rows.take j) ⟨G,r,v⟩;rw[<-C.out.heap _ (zAa.1 r).1]at h;have K0:=(o _).trans t;have K1:=(o _).trans k1;have L:=(zAa.1 h).1;generalize A:rows[j].1=c at*;generalize u:rows[j].2=s at*;have H:rows[j]? =aA (c,s):=by{rw[zAh b,<-A,<-u]};have V:Hid (rows[j]? =aA (c,s)):=H;clear H;obtain⟨N,B⟩:∃y,M[4]? =aA y:=⟨_,zAj (by omega)⟩;have R:¬((j:Int)<0):=by{omega};have Q:(j:Int)<(rows.length:Int):=by{omega};have hx:wr.heap.size≠c:=by{omega};have X:Hid (wr.heap[c]? =aA (aJ M 272 (0,0))):=h;have P:wr.cell? ⟨c,4,aB⟩=aA N:=(bC h 4).trans B;have S:wr.frozen? ⟨c,4,aB⟩=aG:=cT h 4;clear I k m z o r v h E t k1 J A u;go_wp2_with fail;go_roundg (rows.length-(j+1));case measure=>omega
   case rel=>
    go_light
    refine⟨j+1,by omega,by go_num,?_⟩
    rw[List.take_succ,V.out]
    exact C.out.trans (XO wr c s _)
  .have w:j=rows.length:=by{omega};subst w;go_wp2;go_end0;refine⟨rfl,?_⟩;have:=C.out;rwa [zCm (by omega)]at this
def Qz.ntmps170:Qz.f170.ntmps=43:=rfl
def Lw {N:Nat}(d:N<2147483648)(w:zW):(Instr.makeSlice 287 (.int aD (N:Int)) (.int aD (N:Int))).run zq w= .ok (.slice (aA ⟨w.heap.size,0,aB⟩) N N) (w.alloc (aJ (madeCells #[.slice aB 0 0] N) 283)):=by obtain⟨i,c,b,a,h⟩:=OK;have e:=run_make (P:=zq) w 287 283 i (.slice aB 0 0) ((Qz.eZ 287).trans underlying287) ((Qz.info 283).trans c) b aD aD N N (by omega) (by omega) (by rw[h];omega) (by omega);rw[a]at e;simpa [Value.cells]using e
def fJ.lt {rows:List (Nat×ByteArray)}{q:zO}{l:Nat}{w:zW}(h:fJ rows q l w)(c:rows≠[]){a:Addr}(i:q=aA a):a.block<w.heap.size:=by
 obtain⟨g,o,e,d⟩:=h.2 c;rw[i]at e;cases e;obtain⟨p,f⟩:∃p,rows[0]? =aA p:=by
  cases rows with
  |nil=>exact absurd rfl c
  |cons p l=>exact⟨p,rfl⟩
 have b:=(d 0 p f).1;unfold World.cell? at b;dsimp only at b⊢;cases hb:w.heap[g]? with
 |none=>rw[hb]at b;cases b
 |some j=>exact(zAa.1 hb).1
def fJ.stays {rows:List (Nat×ByteArray)}{q:zO}{l:Nat}{w w':zW}(h:fJ rows q l w)(d:rows≠[]->∀a,q=aA a->a.block<w.heap.size->w'.heap[a.block]? =w.heap[a.block]?):fJ rows q l w':=by
 by_cases b:rows=[]
 .exact⟨h.1,λx=>absurd b x⟩
 .exact h.keep λa c=>d b a c (h.lt b c)
def Pc (rows:Nat->List (Nat×ByteArray))(W w:zW)(cs:zA)(j:Nat):Prop:=∀i,i<j->∃q l cp,cs[i]? =aA (.slice q l cp)/\l<=cp/\fJ (rows i) q l w/\∀a,q=aA a->W.heap.size<a.block
def Cu:yG:=by
 intro N pa bp o cp bt D pt rows u hF xk W t;have bT:=hF.lt;have U:=Lw (N:=N) (by omega);have H:Hid (Fork N pa bp o bt D pt rows u):=hF;have Z:Hid (∀b,D b\/(0<N/\b=bp)->W.heap[b]? =u.heap[b]?):=t;have R:Hid (∀b,D b->b<W.heap.size):=λb k=>by have g:=t b (aH k);have m:=nQ hF.plain k;rw[zAj m]at g;exact(zAa.1 g).1
 have HB:Hid (0<N->bp<W.heap.size):=λh0=>by have g:=t bp (aI ⟨h0,rfl⟩);have m:=(hF.Zk h0).1;rw[zAj m]at g;exact(zAa.1 g).1
 clear hF t;dsimp only[iO,jD];go_enter Qz.func170,Qz.ntmps170;unfold Qz.Ae;go_wp2_with fail;go_loopg [28] N (λq x wr=>∃(j:Nat)(cs:zA),j+q=N/\x= .int aD (j:Int)/\zb W wr/\wr.heap[W.heap.size]? =aA (aJ cs 283 (0,0))/\cs.size=N/\Pc rows W wr cs j);case atStart=>exact⟨0,madeCells #[.slice aB 0 0] N,by omega,rfl,(zGm _ _).alloc (zAb _) _,by show(W.heap.push _)[W.heap.size]? =_;simp,size_madeCells _ _,λi h=>by omega⟩
 case round=>
  obtain⟨j,cs,hj,rfl,c1,c2,c3,c4⟩:=hrel
  have C:Hid (zb W wr):=c1
  have P:Hid (wr.heap[W.heap.size]? =aA (aJ cs 283 (0,0))):=c2
  have C4:Hid (Pc rows W wr cs j):=c4
  clear c1 c2 c4 U
  by_cases M:j<N
  .have S:=H.out.mh (by omega);have V:=HB.out (by omega);subst S;have k0:wr.cell? ⟨bp,o+j,aB⟩=aA (.pointer (pt j)):=by
    rw[<-H.out.q0 j M];simp only[World.cell?];rw[C.out.block bp V,Z.out bp (aI ⟨by omega,rfl⟩)]
   have Hv:Hid (tE D u wr):=λb k ob T=>aH (by rw[C.out.block b (R.out b k),Z.out b (aH k)];exact T);have Un:¬((j:Int)<0):=by{omega};have jl:(j:Int)<(N:Int):=by omega
   go_wp2_with fail;refine(H.out.work j M wr Hv.out).mono ?_;rintro e w2 ⟨F,G,v,rfl,hle,n,y,d⟩;have J:=C.out.size;have Q:W.heap.size<wr.heap.size:=(zAa.1 P.out).1;have B2:Hid (zb W w2):=⟨d.os.trans C.out.os,d.tape.trans C.out.tape,d.output.trans C.out.output,zBc J d.size,λb k=>(d.block b (by omega)).trans (C.out.block b k)⟩;have Y:Hid (w2.heap[W.heap.size]? =aA (aJ cs 283 (0,0))):=(d.block _ Q).trans P.out;have L2:Hid (Pc rows W w2 cs j):=λi hi=>by obtain⟨w,l,c,g,m,E,z⟩:=C4.out i hi;exact⟨w,l,c,g,m,E.stays λ_ a _ bT=>d.block _ bT,z⟩
   have RW:Hid (fJ (rows j) F G w2/\G<=v/\∀a,F=aA a->W.heap.size<a.block):=⟨n,hle,λa s=>zAd Q (y a s)⟩;clear k0 d C P C4 Hv n y hle;obtain⟨x,hx⟩:∃x,cs[j]? =aA x:=⟨_,zAj (by omega)⟩;have e1:w2.cell? ⟨W.heap.size,j,aB⟩=aA x:=by{rw[bC Y.out];exact hx};have f1:w2.frozen? ⟨W.heap.size,j,aB⟩=aG:=cT Y.out j;clear hx;go_wp2;go_roundg (N-(j+1));case measure=>omega
   case rel=>
    go_light
    refine⟨j+1,cs.setIfInBounds j (.slice F G v),by omega,by go_num,?_,eF Y.out j _,by rw[zDl];exact c3,λi hi=> ?_⟩
    .exact B2.out.setCell (by simp only;omega) _
    .have K:∀a:Addr,W.heap.size<a.block->(w2.setCell ⟨W.heap.size,j,aB⟩ (.slice F G v)).heap[a.block]? =w2.heap[a.block]? :=λa s=>bS _ _ (by dsimp only;omega);by_cases f:j=i
     .subst f;exact⟨F,G,v,by rw[zBq,zAv rfl,zAv (by omega)],RW.out.2.1,RW.out.1.stays λ_ a s _=>K a (RW.out.2.2 a s),RW.out.2.2⟩
     .obtain⟨w,l,c,g,m,E,z⟩:=L2.out i (by omega);exact⟨w,l,c,by rw[zBq,zAt f];exact g,m,E.stays λ_ a s _=>K a (z a s),z⟩
  .have L:j=N:=by{omega};subst L;go_wp2_with fail;generalize wr=B at*;go_loopg [35] j (λq x wr=>∃(i:Nat),i+q=j/\x= .int aD (i:Int)/\eI (allRows rows i) B wr);case atStart=>exact⟨0,by omega,rfl,eI.nil⟩
   case round=>
    obtain⟨i,hi,rfl,d1⟩:=hrel
    have D1:Hid (eI (allRows rows i) B wr):=d1
    clear d1
    have Q:W.heap.size<B.heap.size:=(zAa.1 P.out).1
    by_cases f:i<j
    .have r:Hid (∀b,W.heap.size<=b->b<B.heap.size->wr.heap[b]? =B.heap[b]?):=λb g m=>(D1.out.heap b m).trans (gP _ λp A=>by
      obtain⟨i',dj,A⟩:=gE A;have:=R.out _ (H.out.cell i' (by omega) p A).1;omega)
     obtain⟨w,l,c,g,m,E,z⟩:=C4.out i f;have k:wr.heap[W.heap.size]? =aA (aJ cs 283 (0,0)):=(r.out _ (zAb _) Q).trans P.out;have e1:wr.cell? ⟨W.heap.size,i,aB⟩=aA (.slice w l c):=by rw[bC k];exact g
     have H3:Hid (fJ (rows i) w l wr):=E.stays λ_ a s bT=>r.out _ (by have:=z a s;omega) bT;have H4:Hid (∀a,w=aA a->∀p∈rows i,a.block≠p.1):=λa s p A=>by have h5:=z a s;have h6:=R.out _ (H.out.cell i f p A).1;omega
     have H5:Hid (∀p∈rows i,∃cs,wr.heap[p.1]? =aA (aJ cs 272 (0,0))/\cs.size=6):=λp A=>by obtain⟨hD,X,g1,g2⟩:=H.out.cell i f p A;have g3:=R.out _ hD;rw[D1.out.heap _ (by omega)];refine lR _ ⟨X,?_,g2⟩;rw[C.out.block _ g3,Z.out _ (aH hD)];exact g1
     have H6:Hid (l<=c):=m;have Mm:¬((i:Int)<0):=by{omega};have Ze:(i:Int)<(j:Int):=by{omega};clear g m E z k r;go_wp2_with fail;refine(GN (rows i) w l c wr H3.out H6.out (H.out.Qh i f) H5.out H4.out).mono ?_;rintro e w2 ⟨rfl,I⟩;have W2:Hid (eI (allRows rows (i+1)) B w2):=D1.out.trans I;clear I D1 H3 H4 H5 H6 e1;go_wp2;go_roundg (j-(i+1));case measure=>omega
     case rel=>
      go_light
      exact⟨i+1,by omega,by go_num,W2.out⟩
    .have O:i=j:=by{omega};subst O;go_wp2;go_ret;refine⟨⟨_,rfl⟩,?_⟩;have d1:=D1.out;have c1:=C.out;exact⟨zBc c1.size d1.size,λb k=>(d1.heap b (by omega)).trans (fO _ (c1.block b k)),d1.os.trans c1.os,d1.tape.trans c1.tape,d1.output.trans c1.output⟩
open Go.Conc Go.Ren Go.Proofs Go.Tr
def LI {α T a}{l b:List α}(h:fZ T (a::l) b):∃c k,b=c::k/\T a c/\fZ T l k:=by
 cases h with
 |cons h1 d=>exact⟨_,_,rfl,h1,d⟩
def YT {P Al S fr c cs u x}(f:¬S fr (c::cs) u)(h:Go.Ren.Ends P Al S fr (c::cs) u)(hl:fr.leaving P u (aM x)):
  (∃D,Closed P Al D (c.finish x) cs u)/\Go.Ren.Ends P Al S (c.finish x) cs u/\One P S (c.finish x,cs,u) (fr,c::cs,u):=by
 cases h with
 |stop h=>exact absurd h f
 |step a n h1 l j=>
  obtain⟨b,e⟩:=l u.tape u.drawn [] aF;rw[zAq,zAq]at e;have m:stepG P aF {frame:=fr,callers:=c::cs,status:= .running,dying:=aB} u= .go {frame:=(n u.tape u.drawn).1,callers:=(n u.tape u.drawn).2.1,status:= .running,dying:=aB} (n u.tape u.drawn).2.2 b:=e;have s1:step P (lone fr (c::cs) u)= .next (lone (n u.tape u.drawn).1 (n u.tape u.drawn).2.1 (n u.tape u.drawn).2.2):=step_lone_go (by rw[m];rfl);rw[step_leave_returned hl]at s1;have s2:lone (c.finish x) cs u=lone (n u.tape u.drawn).1 (n u.tape u.drawn).2.1 (n u.tape u.drawn).2.2:=by injection s1
  have a3:u=(n u.tape u.drawn).2.2:=congrArg Machine.world s2;have g:({frame:=c.finish x,callers:=cs,status:= .running,dying:=aB}:zH)={frame:=(n u.tape u.drawn).1,callers:=(n u.tape u.drawn).2.1,status:= .running,dying:=aB}:=by have:=congrArg Machine.gs s2;simpa [lone]using this
  have i:c.finish x=(n u.tape u.drawn).1:=congrArg Goroutine.frame g;have a2:cs=(n u.tape u.drawn).2.1:=congrArg Goroutine.callers g;have k1:=h1 u.tape u.drawn;have d:=j u.tape u.drawn;rw[<-i,<-a2,<-a3]at k1 d;refine⟨k1,d,f,a,u.tape,u.drawn,aF,b,?_⟩;show stepG P aF (G fr (c::cs)) u= .go (G (c.finish x) cs) u b;rw[show stepG P aF (G fr (c::cs)) u=_ from e,<-i,<-a2,<-a3]
def Ku {Al π f A}(h:bE Al π (iO f) A):∃b,π f b/\A=iO b:=by
 cases h with
 |pointer g=>
  cases g with
  | @some a l i=>obtain⟨j,o,s⟩:=l;obtain⟨e,d,c⟩:=i;dsimp only at e d c;subst d;subst c;exact⟨j,e,rfl⟩
def TZ (xs)(n i):(xs++aDZ n aEh).getD i aEh=xs.getD i aEh:=by
 rw[zAu,zAu];obtain h|h:=zDf i xs.size
 .rw[zCu h]
 .rw[zCd h,zEr,zBj h];split<;>rfl
def Xz (xs):Frame.enter Tryz.prog 233 xs .normal=tU (xs++aDZ (18-xs.size) aEh) [.code rU]:=by unfold Frame.enter;rw[func233];rfl
def Jo {xs ys more}(h:told xs++more=told ys):told xs=told ys:=by unfold told at h⊢;rw[List.singleton_append]at h;injection h with h1 a;rw[h1]
def JU {P:zZ}{Al:zF}{D:zP}:∀(rows:List (Nat×ByteArray)){v:zW},bQ P Al Go.Ren.K0 (cG D) v v->bQ P Al Go.Ren.K0 (cG D) (cP rows v) (cP rows v)
 |[],_,h=>h
 |p::rows,v,h=>by refine JU rows (v:=oF v p) ?_;by_cases i:D p.1;{exact h.setCell (a:=⟨p.1,4,aB⟩) (a':=⟨p.1,4,aB⟩) ⟨⟨rfl,i⟩,rfl,rfl⟩ (λx=>x) (.string _)};{have g:∀b d,cG D b d->(oF v p).heap[b]? =v.heap[b]? :=λb d c=>qM λe=>i (by rw[<-e];exact c.2);have f:(oF v p).heap.size=v.heap.size:=Fi;exact yK h g (λb d c=>by rw[<-c.1];exact g b d c) (by rw[f];exact h.low.1) (by rw[f];exact h.low.1) rfl (λ_=>rfl)}
def Oc {P Al π v w}(i:bQ P Al Go.Ren.K0 π v w){g e}(j:π g e){cs ty fr}(h:v.heap[g]? =aA (aJ cs ty fr)):∃d,w.heap[e]? =aA (aJ d ty fr)/\d.size=cs.size:=by
 obtain⟨c,c',t,f,n,a,l,b,_,g5,_⟩|⟨_,o,a,_,b⟩|⟨y,m,a,_,b⟩:=i.blk g e j
 .rw[h]at a;cases a;have:=g5 (λx=>x);subst this;exact⟨c',l,b.size⟩
 .rw[h]at a;cases a;exact absurd rfl (b.1 _ _ _)
 .rw[h]at a;cases a;cases b
section
variable {R:zR}{xs PY:zA}{k:CallKind}{own own':zL}{v:zW}{D:zP}{Sh:zP}{gs:zG}{w:zW}{t:Trace}{q:Nat->Nat}{sl:Option (Nat×Nat)}{π:Rn}
def Ss {vb}(Xo:yG)(hz:xs.size<=20)(pf:k= .normal\/Qz.Aj vb (900000+233))(hi:Apart zq Qm.prog.funcs Qm.Al (Frame.enter zq 233 xs k) own v\/AQ zq Qm.prog.funcs Qm.Al 233 xs own v)(Z:Main zq Tryz.prog.funcs (Qz.Aj vb) Sh gs w t q π (Frame.enter zq 233 xs k) own v (Frame.enter zq 233 PY k) own')
  (hg:gs[0]? =aA (G (Frame.enter ⟨zq.toTables,Tryz.prog.funcs⟩ 233 PY k) own')) (Za:own≠[]) (hc:Closed zq Qz.Al D (Frame.enter zq 233 xs k) own v)
  (hE:Go.Ren.Ends zq Qz.Al (Go.Ren.AtEnd zq R kU) (Frame.enter zq 233 xs k) own v):
  PT zq Tryz.prog.funcs Qz.Al (Qz.Aj vb) R kU (Apart zq Qm.prog.funcs Qm.Al) (Frame.enter zq 233 xs k,own,v) Sh π gs w sl t:=by
 have Zd:∀b,¬Go.Ren.K0 b:=λb h=>h;obtain rfl:k= .normal:=by obtain h|h:=pf;{exact h};{exfalso;have h:=h;have:=(Qz.UJ vb 900233 (by omega)).1 h;omega}
 obtain⟨u,more,H,hu3⟩:=Rx Qz.jO Qz.quits Qz.Ws (λxs=>⟨_,_,rfl,rfl⟩) hz hc hE;obtain⟨N,pa,bp,o,cp,bt,DW,pt,rows,he,xk,hF⟩:=hu3 u.tape u.drawn;replace hF:Fork N pa bp o bt DW pt rows u:=hF;have Y:=Mv hz (by simp) (Jp (Jo he));have bT:∀b,DW b->b<v.heap.size:=λb z=>oD.lt H (nQ hF.plain z) (hF.box b z);have nn:∀b,DW b->u.heap[b]? =v.heap[b]? :=λb z=>H.old b (bT b z);have vj:aZ (Qz.Aj vb) π (full xs) (PY++aDZ (43-PY.size) aEh):=by have h:=Z.OH.frame.tmps;rw[GJ,GJ]at h;exact h
 rw[Y]at vj;obtain⟨A',B',hA,hB,hx'⟩:=Mt vj;obtain⟨I,qi,rfl⟩:=Ku hA;obtain⟨B,rfl,Ix⟩:∃B,B'=jD B N cp/\(0<N->vP π pa B):=by
  cases hB with
  |slice h _ _=>exact⟨_,rfl,λ_=>h⟩
  |void _ a0=>exact⟨aA a0,rfl,λh=>absurd h (zEz _)⟩
 obtain⟨nm,U⟩:=Z.Us vb Qz.Xl;have db:¬DW vb:=λhD=>by have e:=nn vb hD;rw[U]at e;obtain⟨c,t,fr,g,_,O,_⟩|⟨_,o,g,O⟩:=hF.plain.blk vb hD;{rw[e]at g;cases g;exact O 0 0 rfl};{rw[e]at g;cases g;exact O.1 _ _ _ rfl}
 have hw:=Z.OH.world;have hold:∀b n,π b n->n<w.heap.size/\¬Sh n:=λb n z=>⟨DF hw z,Z.off b n z⟩;obtain⟨M,ec⟩:∃M,0<N->B=aA ⟨M,o,aB⟩/\π bp M:=by
  by_cases h0:0<N
  .have Ix:=Ix h0;rw[hF.mh h0]at Ix;cases Ix with
   | @some _ a' ha=>obtain⟨n,o',s'⟩:=a';obtain⟨g,K,O⟩:=ha;dsimp only at g K O;subst K;subst O;exact⟨n,λ_=>⟨rfl,g⟩⟩
  .exact⟨0,λh=>absurd h h0⟩
 have vi:∀k,0<N->(v.re w.tape w.drawn).cell? ⟨bp,k,aB⟩=u.cell? ⟨bp,k,aB⟩:=λk h0=>by obtain⟨g,K⟩:=hF.Zk h0;simp only[World.cell?];rw[H.old bp (oD.lt H g K)];rfl
 have hq0:∀i,∃s,i<N->vP π (pt i) s/\w.cell? ⟨M,o+i,aB⟩=aA (.pointer s):=λi=>by
  by_cases hi:i<N
  .obtain⟨x,x',g,K,O⟩|⟨g,_⟩:=hw.cell (a:=⟨bp,o+i,aB⟩) (a':=⟨M,o+i,aB⟩) ⟨(ec (by omega)).2,rfl,rfl⟩
   .rw[vi _ (by omega),hF.q0 i hi]at g;cases g;cases O with
    |pointer h=>exact⟨_,λ_=>⟨h,K⟩⟩
   .rw[vi _ (by omega),hF.q0 i hi]at g;cases g
  .exact⟨aB,λh=>absurd h hi⟩
 obtain⟨ux,ja⟩:=Classical.skolem.1 hq0;obtain⟨c0,m,rfl⟩:∃c0 m,own=c0::m:=by
  cases own with
  |nil=>exact absurd rfl Za
  |cons a l=>exact⟨a,l,rfl⟩
 obtain⟨c,cs,rfl,hc0,cu⟩:=LI Z.OH.own;have dm:∀i,(PY++aDZ (18-PY.size) aEh).getD i aEh=(full #[iO I,jD B N cp]).getD i aEh:=λi=>by rw[TZ,<-hx',TZ]
 have FY:18<=(PY++aDZ (18-PY.size) aEh).size:=by simp;omega
 have Xi:(PY++aDZ (18-PY.size) aEh).getD 0 aEh=iO I:=by rw[dm,zAu,UD];rfl
 have jq:(PY++aDZ (18-PY.size) aEh).getD 1 aEh=jD B N cp:=by rw[dm,zAu,UC];rfl
 have yd:=Z.lv;rw[Qz.back]at yd;rw[Qz.back,Xz]at hg;generalize PY++aDZ (18-PY.size) aEh=tm at hg Xi jq FY;have od:oA Sh gs w t q (G (tU tm [.code rU]) (c::cs)):=⟨hg,yd,Z.calm,Z.IZ⟩;obtain⟨n1,Td,w1,il,t1,q1,g1,r1,z1,st1,rfl,d1,rfl⟩:=iF (S:=λg' w'=>g'=G (Frame.enter Tryz.prog 240 #[jD B N cp,.func (.func 236) #[iO I] #[]] .normal) (tU (t3 tm (iO I) (jD B N cp)) [aN (sK 0) [3,4,5],.code Hy]::c::cs)/\∃d,w'=w.at d) od (zAb _) (mg Xi jq FY λw₁ r=>⟨⟨rfl,by obtain⟨d,rfl⟩:=r;exact⟨d,rfl⟩⟩,by obtain⟨d,rfl⟩:=r;rfl⟩);let X:Gc:={w:=w.at d1,Sh,N,bp:=M,o,cp,f:=236,first:= #[iO I],cap:= #[],pt:=ux,Rw:=λi q l cp h w=>Made DW π (rows i) q l cp h w,rwr:=λx hk=>Made.keep x hk,m0:=Td.size,c:=tU (t3 tm (iO I) (jD B N cp)) [aN (sK 0) [3,4,5],.code Hy],cs:=c::cs,pa:=B}
 have hwd:bQ zq (Qz.Aj vb) Go.Ren.K0 π (v.re w.tape d1) (w.at d1):=(Z.OH.rely (w₁:=w.at d1) rfl ⟨λ_ _ _=>rfl,zAb _,rfl⟩).world;obtain⟨n2,fh,w2,ik,t2,q2,bo,Jf,r2,g2,L2,C2,K2,xn,ee,oi,vg,cn⟩:=UA (X:=X) (sl:=il) hF.lt Z.IZ (λi hi=>(ja i hi).2) (λh0=>hold bp M (ec h0).2) (λh0=>(ec h0).1) func236 (by decide) (by simp[f236])
  (λi hi J an w' g O K=>by
   have:=hF.QD (λk hk hD=>db (by rw[<-Qz.QI hk];exact hD)) (v:=v.re w.tape d1) nn hwd (old:=X.old) hold hi qi (ja i hi).1 J an w' g O K;have e:X.first.push (.pointer (X.pt i))++X.cap= #[.pointer (aA ⟨I,0,aB⟩),.pointer (ux i)]:=by simp[X]
   rw[e];exact this) rfl st1.sn st1.lv st1.calm
 have rq:X.B0=w.heap.size:=rfl;have hK2:=K2.size;have Xf:∀i,∃y:(zO×Nat×Nat)×List (Nat×ByteArray),i<N->Jf[i]? =aA (.slice y.1.1 y.1.2.1 y.1.2.2)/\oB (λb n=>DW b/\π b n) (rows i) y.2/\fJ y.2 y.1.1 y.1.2.1 w2/\∀a,y.1.1=aA a->X.B0+6<=a.block/\a.block≠bo/\a.block<w2.heap.size:=λi=>by by_cases hi:i<N;{obtain⟨q,l,cp,h,g,K,cN,O,h4,h5⟩:=cn i hi;exact⟨((q,l,cp),cN),λ_=>⟨g,O,h4,λa ha=>K _ (h5 a ha)⟩⟩};{exact⟨((aB,0,0),[]),λh=>absurd h hi⟩}
 obtain⟨y,hy⟩:=Classical.skolem.1 Xf;have hrel:∀i,i<N->∀P∈(y i).2,∃p∈rows i,DW p.1/\π p.1 P.1:=λi hi P E=>by have hl:=sS (hy i hi).2.1;obtain⟨j,hj,e⟩:=List.getElem_of_mem E;have Un:j<(rows i).length:=by{omega};have:=hl.2 j (rows i)[j] P (zAh Un) (by rw[zAh hj,e]);exact⟨_,zDh Un,this.1.1,this.1.2⟩
 have oe:∀b,X.VW b->b<w.heap.size\/b=w.heap.size+5\/b=w.heap.size+1\/b=w.heap.size+3:=Gc.yS Z.IZ;have de:∀n,(∃b,π b n)->¬X.VW n:=λn ⟨b,z⟩ h=>by have g:=hold b n z;obtain h|h:=h;{exact g.2 h};{have:=g.1;omega}
 have rb:∀d,Ls X.VW (λi=>(y i).2) bo N (λi=>(y i).1) (w2.at d):=λd=>by
  refine⟨hF.lt,λi hi=>(bC (w:=w2.at d) oi i).trans (hy i hi).1,λi hi=>⟨(hy i hi).2.2.1,?_,λP E=> ?_,λhn a ha=> ?_⟩,⟨λh=> ?_,ee⟩,λi hi P E=>⟨?_,λj hj a ha _=> ?_⟩⟩;{rw[(sS (hy i hi).2.1).1];exact hF.Qh i hi};{obtain⟨p,hp,hD,C⟩:=hrel i hi P E;refine⟨de _ ⟨_,C⟩,?_⟩;obtain⟨_,cs0,g,K⟩:=hF.cell i hi p hp;rw[nn _ hD]at g;obtain⟨cs',O,h4⟩:=Oc hw C (show(v.re w.tape w.drawn).heap[p.1]? =_ from g);exact⟨cs',(K2.heap _ (hold _ _ C)).trans O,by omega⟩}
  .have g:=(hy i hi).2.2.2 a ha;refine⟨λh=> ?_,g.2.2,λP E e=> ?_⟩
   .obtain h|h|h|h:=oe _ h<;>omega
   .obtain⟨p,hp,hD,C⟩:=hrel i hi P E;have:=(hold _ _ C).1;omega
  .obtain h|h|h|h:=oe _ h<;>omega
  .obtain⟨p,hp,hD,C⟩:=hrel i hi P E;have:=(hold _ _ C).1;omega
  .obtain⟨p,hp,hD,C⟩:=hrel i hi P E;have:=(hold _ _ C).1;have g:=(hy j hj).2.2.2 a ha;omega
 have oc:oA X.VW fh w2 t2 q2 (G ((tU (t3 tm (iO I) (jD B N cp)) [aN (sK 0) [3,4,5],.code Hy]).finish (.slice (aA ⟨bo,0,aB⟩) N N)) (c::cs)):=⟨g2,L2,C2,λb z=>by obtain h|h|h|h:=oe _ z<;>omega⟩;obtain⟨n3,ry,w3,sl3,t3',q3,g3,r3,z3,st3,⟨Qr,rfl,hT3⟩,d3,rfl⟩:=iF (sl:=ik) (S:=λg' w'=>(∃tm',g'=G (tU tm' (.code IK::K3)) (c::cs)/\T9 tm' bo N 0)/\∃d,w'=w2.at d) oc (zAb _) (du (A:=iO I) (Bv:=jD B N cp) FY hF.lt λtm' w₁ r hT=>⟨⟨⟨tm',rfl,hT⟩,by obtain⟨d,rfl⟩:=r;exact⟨d,rfl⟩⟩,by obtain⟨d,rfl⟩:=r;rfl⟩);obtain⟨n4,yl,w4,uq,t4,q4,g4,r4,z4,ij,rfl,F⟩:=FN (rb d3) N 0 (by omega) Qr ry (w2.at d3) sl3 t3' q3 hT3 eI.nil st3;have di:=Sk Xo hF xk H Y ⟨hc.frame,.nil,hc.world,hc.nj⟩;obtain⟨Xu,l2,u2,D2,hS,hc2,hD2,hE2,V⟩:=Lone.QL Qz.jO (T:=Go.Ren.AtEnd zq R kU) (cs:=c0::m) (λ_ _ _ hs=>gL hs) di ⟨hc.frame,.nil,gF hc.world Zd _ _ _ _ (λ_ _=>rfl),hc.nj⟩ (hE.re (λ_ _ _ τ d h=>h.re τ d) (λ_ _=>1) 0);obtain⟨rfl,x,Qe,hrw⟩:=hS;obtain⟨hx,Q⟩:=hrw u2.tape u2.drawn;subst hx;have Zg:=jN v aF;have L:∀b,b<v.heap.size->u2.heap[b]? =(cP (allRows rows N) v).heap[b]? :=λb z=>(Q.heap b (zAd z Zg.size)).trans (fO _ (Zg.old b z));have oa:v.heap.size<=u2.heap.size:=zBc Zg.size Q.size;have oo:u2.os=v.os:=Q.os;have hnT:¬Go.Ren.AtEnd zq R kU Xu ([]++c0::m) u2:=λh=>by obtain h|h:=h;{cases h.1};{cases h.1}
 obtain⟨⟨D1,xl⟩,rk,Sz⟩:=YT hnT hE2 (by have:=Qe u2.tape u2.drawn;rwa [gU]at this);have vr:oB π (allRows rows N) (allRows (λi=>(y i).2) N):=BU λi hi=>CM (sS (hy i hi).2.1).1 λj a a' ha Tc=>let h:=(sS (hy i hi).2.1).2 j a a' ha Tc;⟨h.1.2,h.2⟩;have hpw:=Ja hw vr;have W:=hw.low;have vn:w2.heap.size<=w4.heap.size:=F.size;have h4:∀b n,π b n->w4.heap[n]? =(cP (allRows (λi=>(y i).2) N) w).heap[n]? :=λb n z=>by have g:=hold b n z;exact(F.heap n (show n<w2.heap.size by omega)).trans (fO _ (K2.heap n g))
 have vf:bQ zq (Qz.Aj vb) Go.Ren.K0 π (u2.re w4.tape w4.drawn) w4:=yK hpw (λb n z=>(L b (DG hw z)).trans (fO _ rfl)) h4 (by have h:=W.1;show _<u2.heap.size;have K:(v.re w.tape w.drawn).heap.size=v.heap.size:=rfl;omega) (by have:=W.2;omega) ((F.os.trans K2.os).trans (hw.os.trans oo.symm)) (λ_=>rfl);have oh:runNT Tryz.prog (n1+(n2+(n3+n4))) (crowd gs w sl) t=(.next (crowd yl w4 uq),t4):=by rw[runNT_add,r1];dsimp only;have r2':runNT Tryz.prog n2 (crowd Td (w.at d1) il) t1=(.next (crowd fh w2 ik),t2):=r2;rw[runNT_add,r2'];dsimp only;rw[runNT_add,r3];exact r4
 refine⟨n1+(n2+(n3+n4)),yl,w4,uq,t4,q4,X.VW,π,c0.finish (.tuple #[]),m,u2,D1,c.finish (.tuple #[]),cs,by rw[Qz.back];exact oh,ij.sn,⟨by rw[Qz.back];exact ij.lv,ij.calm,ij.IZ,⟨hc0.finish (.tuple rfl λi v v' h _=>by simp at h),cu,vf⟩,λb n z=>de n ⟨b,z⟩,λb z=> ?_⟩,xl,rk,⟨F.tape.trans K2.tape,F.os.trans K2.os,F.output.trans K2.output⟩,?_,?_,⟨λ_ _ h=>h,by omega,λn z g K=>⟨?_,g,λh=> ?_⟩⟩⟩
 .obtain rfl:=Qz.QI z;have pb:=(zAa.1 U).1;refine⟨nm,(L b pb).trans ((gP _ λp hp e=> ?_).trans U)⟩;obtain⟨i,hi,hp⟩:=gE hp;exact db (by rw[<-e];exact(hF.cell i hi p hp).1)
 .right;obtain e|V:=V
  .exfalso;have e1:Xu=Frame.enter zq 233 xs .normal:=congrArg (λs:Im=>s.1) e;have:=(Qe u2.tape u2.drawn).1;rw[e1]at this;cases this
  .exact Sub.base (gL (l:=[]) (cs:=c0::m) (aH rfl)) (.more Sz V)
 .obtain⟨D',Sy,Yx⟩:∃D',fZ (cK ⟨zq.toTables,Qm.prog.funcs⟩ Qm.Al Go.Ren.K0 (cG D')) (c0::m) (c0::m)/\bQ ⟨zq.toTables,Qm.prog.funcs⟩ Qm.Al Go.Ren.K0 (cG D') v v:=by
   obtain⟨D',h⟩|⟨D',_,_,g,K⟩:=hi;{exact⟨D',h.own,h.world⟩};{exact⟨D',g,K⟩}
  obtain⟨a',k',e,xi,hf1⟩:=LI Sy;cases e;have hp2:=JU (allRows rows N) Yx;have Zb:∀b n,cG D' b n->u2.heap[b]? =(cP (allRows rows N) v).heap[b]? :=λb n z=>L b (DG Yx z);refine⟨D',xi.finish (.tuple rfl λi v v' h _=>by simp at h),hf1,yK hp2 Zb (λb n z=>by rw[<-z.1];exact Zb b n z) (by have:=Yx.low.1;omega) (by have:=Yx.low.1;omega) rfl (λ_=>rfl),Qm.nj⟩
 .rw[F.heap n (show n<w2.heap.size by omega),gP _ λP E e=> ?_]
  .exact K2.heap n ⟨z,K⟩
  .obtain⟨i,dj,E⟩:=gE E;obtain⟨p,_,_,C⟩:=hrel i dj P E;rw[e]at C;exact g _ C
 .obtain h|h:=h
  .exact K h
  .omega
end
abbrev AJ (vb:Nat):zF:=λf=>f=1000000\/f=1000002+vb
abbrev AS:zF:=λf=>f=1000001
abbrev AB (N:Nat):zF:=λf=>f=1000001\/f=1000002+N
structure Start (D:zP)(V W:zW):Prop where
 gI:∀b,b<=Tryz.prog.globals.size->D b
 lt:∀b,D b->b<W.heap.size
 size:V.heap.size=W.heap.size+1
 Us:V.heap[W.heap.size]? =aA (aJ #[.int aQ 0] 0 (0,0))
 tape:W.tape=V.tape
 drawn:W.drawn=V.drawn
 os:W.os=V.os
 out:W.output=V.output
 blk:∀b,D b->(∃c c' t fr,V.heap[b]? =aA (aJ c t fr)/\W.heap[b]? =aA (aJ c' t fr)/\aZ (AJ W.heap.size) (cG D) c c'/\aZ AS (cG λx=>D x\/x=W.heap.size) c c)\/(b<=Tryz.prog.globals.size/\∃o,V.heap[b]? =aA o/\W.heap[b]? =aA o/\CH o)
structure Beside (D:zP)(N:Nat)(U V:zW):Prop where
 size:U.heap.size=V.heap.size
 os:V.os=U.os
 blk:∀b,D b->(∃c c' t fr,U.heap[b]? =aA (aJ c t fr)/\V.heap[b]? =aA (aJ c' t fr)/\aZ (AB N) (cG D) c c')\/(b<=Tryz.prog.globals.size/\∃o,U.heap[b]? =aA o/\V.heap[b]? =aA o/\CH o)
def bE.al {Al A π}(g:∀f,Al f->A f){x y}(h:bE Al π x y):bE A π x y:=by
 induction h with
 |bool b=>exact .bool b
 |int i n=>exact .int i n
 |string s=>exact .string s
 |pointer h=>exact .pointer h
 |slice h n c=>exact .slice h n c
 |func k e p j _ _ i3 i4=>exact .func (g _ k) e p j i3 i4
 |nilFunc=>exact .nilFunc
 |iface t _ d=>exact .iface t d
 |nilIface=>exact .nilIface
 |iW=>exact .iW
 |gH=>exact .gH
 |agg e _ d=>exact .agg e d
 |tuple e _ d=>exact .tuple e d
 |junk o h=>exact .junk (g _ o) h
 |same m x=>exact .same (g _ m) x
 |void l a=>exact .void (g _ l) a
def aZ.al {Al A π}(e:∀f,Al f->A f){x y}(h:aZ Al π x y):aZ A π x y:=⟨h.size,λi a b d c=>bE.al e (h.at' i a b d c)⟩
def two {Al:zF}{a b}(h:Al a/\Al b)(f)(x:f=a\/f=b):Al f:=x.elim (λe=>e▸h.1) λe=>e▸h.2
section
variable {P:zZ}{Al:zF}{D:zP}{U V W:zW}{N:Nat}
theorem Mk {E}(h:∀b,b<=P.globals.size->E b):Ok P (cG E):=⟨λ{a f b e} h1 d=>by rw[h1.1,d.1],λ{b e} h1 _=>h1.1,λb c=>⟨rfl,h b c⟩⟩
def Start.low (h:Start D V W):Tryz.prog.globals.size<W.heap.size:=h.lt _ (h.gI _ (zAb _))
def Start.self (i:Al 1000001)(h:Start D V W)(k:P.globals.size=Tryz.prog.globals.size):bQ P Al Go.Ren.K0 (cG λx=>D x\/x=W.heap.size) V V:=by
 refine⟨Mk λb a=>aH (h.gI b (by omega)),λb l a=> ?_,λ_ _=>rfl,λb a=>a.elim,by have:=h.low;have:=h.size;omega,rfl,λb a=>a.elim⟩;obtain⟨e,f⟩:=a;subst e;obtain f|rfl:=f
 .obtain⟨c,c',t,fr,g,_,_,d⟩|⟨g,o,d,_,j⟩:=h.blk b f
  .exact aH ⟨c,c,t,fr,fr,g,g,aZ.al (λ_ x=>by rw[x];exact i) d,λx=>x.elim,λ_=>rfl,λx=>x.1.elim⟩
  .exact aI (aH ⟨by omega,o,d,d,j⟩)
 .exact aH ⟨_,_,_,_,_,h.Us,h.Us,.one (.int _ _),λx=>x.elim,λ_=>rfl,λx=>x.1.elim⟩
def Start.Jb (j:Al 1000000/\Al (1000002+W.heap.size))(h:Start D V W)(l:P.globals.size=Tryz.prog.globals.size):bQ P Al Go.Ren.K0 (cG D) V W:=by
 refine⟨Mk λb a=>h.gI b (by omega),λb m a=> ?_,λ_ _=>by rw[h.tape,h.drawn],λb a=>a.elim,by have:=h.low;have:=h.size;omega,h.os,λb a=>a.elim⟩;obtain⟨e,i⟩:=a;subst e;obtain⟨c,c',t,fr,g,f,d,_⟩|⟨g,o,d,f,k⟩:=h.blk b i
 .exact aH ⟨c,c',t,fr,fr,g,f,aZ.al (two j) d,λx=>x.elim,λ_=>rfl,λx=>x.1.elim⟩
 .exact aI (aH ⟨by omega,o,d,f,k⟩)
def Beside.Jb (m:Al 1000001/\Al (1000002+N))(f:Start D V W)(h:Beside D N U V)(p:P.globals.size=Tryz.prog.globals.size)(j)(d):bQ P Al Go.Ren.K0 (cG D) (U.re j d) (V.re j d):=by
 refine⟨Mk λb a=>f.gI b (by omega),λb q a=> ?_,λ_ _=>rfl,λb a=>a.elim,?_,h.os,λb a=>a.elim⟩
 .obtain⟨e,l⟩:=a;subst e;obtain⟨c,c',t,fr,k,i,g⟩|⟨k,o,g,i,n⟩:=h.blk b l
  .exact aH ⟨c,c',t,fr,fr,k,i,aZ.al (two m) g,λx=>x.elim,λ_=>rfl,λx=>x.1.elim⟩
  .exact aI (aH ⟨by omega,o,g,i,n⟩)
 .show _<U.heap.size/\_<V.heap.size;have:=f.low;have:=f.size;have:=h.size;omega
end
def Qz.gI:zq.globals.size=Tryz.prog.globals.size:=by rw[Qz.gW]
def Lm {fr v}(h:Apart zq Qm.prog.funcs Qm.Al fr [] v){c}(d:fr.mode= .panicking c)(g:kU c v):False:=by
 obtain⟨D,i⟩:=h;obtain⟨N,pa,bp,o,cp,j,k,pt,rows,e,_⟩:=g;have a:=i.frame.mode;rw[d,e]at a;cases a with
 |panicking h=>
  cases h with
  |cons h _=>
   have b:=h.1;dsimp only at b;cases b with
   |iface _ b=>
    cases b with
    |func f=>exact Qm.bd f
def Qz.Wy {k f fn}(h:Qz.Ak k f)(c:zq.funcs[f]? =aA fn):zq.inits.idxOf? f=aB:=by
 have b:((List.range 254).all λf=> !Qz.al f||(Tryz.prog.inits.idxOf? f).isNone)=aF:=by kernel_rfl
 have bT:f<254:=by have a:=(zAa.1 c).1;rw[DZ.1]at a;exact a
 rw[Qz.gW];have h:(bif decide (f<254)then Qz.al f else(f==900219||k f))=aF:=h;rw[Cy (k:=λf=>f==900219||k f) bT]at h;have a:=zCa.1 b f (zCb.2 bT);rw[h]at a;simpa using a
def kU.re {c u}(h:kU c u)(b)(d):kU c (u.re b d):=by obtain⟨N,pa,bp,o,cp,f,D,pt,rows,e,a,hF⟩:=h;exact⟨N,pa,bp,o,cp,f,D,pt,rows,e,a,hF.re b d⟩
def Qm.Da (K)(h:∀b,¬K b):cD ⟨zq.toTables,Qm.prog.funcs⟩ Qm.Al K:=by rw[Qz.Uv];exact Qm.jO K h
section
variable {R:zR}
def jump {vb}(d:yG)(f)(xs x)(k:CallKind)(own own')(v)(D)(Sh)(gs)(w)(t)(q)(sl)(π)(e:Tryz.prog.funcs[f]?≠zq.funcs[f]?)(j:xs.size<=20)(g:k= .normal\/Qz.Aj vb (900000+f))
  (hi:Apart zq Qm.prog.funcs Qm.Al (Frame.enter zq f xs k) own v\/AQ zq Qm.prog.funcs Qm.Al f xs own v) (n:Main zq Tryz.prog.funcs (Qz.Aj vb) Sh gs w t q π (Frame.enter zq f xs k) own v (Frame.enter zq f x k) own') (l:gs[0]? =aA (G (Frame.enter ⟨zq.toTables,Tryz.prog.funcs⟩ f x k) own')) (c:own≠[]) (m:Closed zq Qz.Al D (Frame.enter zq f xs k) own v)
  (a:Go.Ren.Ends zq Qz.Al (Go.Ren.AtEnd zq R kU) (Frame.enter zq f xs k) own v):PT zq Tryz.prog.funcs Qz.Al (Qz.Aj vb) R kU (Apart zq Qm.prog.funcs Qm.Al) (Frame.enter zq f xs k,own,v) Sh π gs w sl t:=by
 have b:=zBu λh=>e (Qz.same h).symm;obtain rfl|rfl|rfl|rfl|rfl|rfl|rfl|rfl|rfl:=b
 .exact Su j hi n l m a
 .exact Ss d j g hi n l c m a
 .obtain⟨_,h⟩|⟨_,i,_⟩:=hi
  .exact absurd h.frame.al Qm.Ui
  .exact absurd i Qm.Ui
 .exact(refused Qz.func149 rfl a).elim
 .exact(refused Qz.func150 rfl a).elim
 .exact(refused Qz.func151 rfl a).elim
 .exact(refused Qz.func152 rfl a).elim
 .exact(refused Qz.func153 rfl a).elim
 .exact(refused Qz.func154 rfl a).elim
def Left (R:zR)(D:zP)(W:zW)(b:zY)(w':zW):Prop:=
 ∃x v a S,R x v/\bE (Qz.Aj W.heap.size) a x b/\bQ zq (Qz.Aj W.heap.size) Go.Ren.K0 a (v.re w'.tape w'.drawn) w'/\qE (cG D) (λ_=>False) W a S w'/\w'.tape=W.tape/\w'.os=W.os/\w'.output=W.output/\∀c,¬a W.heap.size c
def Rl (Xo:yG){f args V W D}(L:Qm.Al f)(bT:f<254)(s:¬Qz.iV f)(ha:aZ (λ_=>False) (cG D) args args)(m:Start D V W)(hR:∀x u n d,R x u->R x (u.re n d))
  (h:∀n d,Calls zq f args (V.re n d) λe w'=>(∃x,e=aM x/\R x w')\/∃c,e= .panicked c/\kU c w')
  (hU:∀N,V.heap.size<=N->∃U R',Beside D N U V/\(∀w',¬R' .outgrown w')/\∀n d,Calls zq f args (U.re n d) R'):
  ∃M last o w' t',runNT Tryz.prog (M+1) (solo (G (Frame.enter Tryz.prog f args .normal) []) W) #[]=(.ended o w',t')/\runN Tryz.prog M (solo (G (Frame.enter Tryz.prog f args .normal) []) W)= .next last/\step Tryz.prog last= .ended o w'/\Conc.Good Tryz.prog (Left R D W) last o w' t':=by
 have g:∀b,¬Go.Ren.K0 b:=λb h=>h;have hf:=Qm.sub L;have Z:∀b p,cG D b p->cG (λx=>D x\/x=W.heap.size) b p:=λb p h=>⟨h.1,aH h.2⟩;have X:aZ Qz.Al (cG λx=>D x\/x=W.heap.size) args args:=(aZ.al (λ_ x=>x.elim) ha).mono Z;have haM:aZ Qm.Al (cG λx=>D x\/x=W.heap.size) args args:=(aZ.al (λ_ x=>x.elim) ha).mono Z;have haJ:aZ (Qz.Aj W.heap.size) (cG D) args args:=aZ.al (λ_ x=>x.elim) ha;have hfj:Qz.Aj W.heap.size f:=Qz.other bT hf;have I:=m.self Qz.Xm Qz.gI;have y:=GM Qz.nj Qz.jO hf X I (E:=kU) hR (λ_ _ n d h=>kU.re h n d) h;have hI:=Ar (Q:=zq) (fs:=Tryz.prog.funcs) (fm:=Qm.prog.funcs) (Al:=Qz.Al) (Am:=Qm.Al) Qz.Wl Qz.lu (Qz.jO _ g) Qm.Da λf Za=>by
   by_cases F:f=233;{rw[F];exact Qz.bf}
   .by_cases C:f=170
    .rw[C];exact Qz.bg
    .exact absurd (Qm.same F C) Za
 have hfr:=qV (P:=zq) f args;have T:Closed zq Qz.Al (λx=>D x\/x=W.heap.size) (Frame.enter zq f args .normal) [] V:=⟨cK.enter (Qz.jO _ g) hf X (aH rfl),.nil,I,Qz.nj⟩;have hcM:Closed ⟨zq.toTables,Qm.prog.funcs⟩ Qm.Al (λx=>D x\/x=W.heap.size) (Frame.enter zq f args .normal) [] V:=by
  have e:Frame.enter zq f args .normal=Frame.enter ⟨zq.toTables,Qm.prog.funcs⟩ f args .normal:=by have F:f≠233:=λe=>s (by rw[e];decide);have C:f≠170:=λe=>s (by rw[e];decide);unfold Frame.enter;rw[Qm.same F C]
  rw[e];exact⟨cK.enter (Qm.Da _ g) L haM (aH rfl),.nil,m.self Qm.Xm Qz.gI,Qm.nj⟩
 have w:Main zq Tryz.prog.funcs (Qz.Aj W.heap.size) (λ_=>False) #[G (Frame.enter Tryz.prog f args .normal) []] W #[] (λ_=>0) (cG D) (Frame.enter zq f args .normal) [] V (Frame.enter zq f args .normal) []:=
  ⟨leavers_one _ _,⟨⟨past_nil.clean,λi a F C=>(past_nil.known i a F C).imp id λx=>x.1.elim,past_nil.over,past_nil.hears,by simp⟩,λb j=>j.elim⟩,λb j=>j.elim,⟨cK.enter (Qz.yC _ _ g) hfj haJ (aH rfl),.nil,by
   have e:V.re W.tape W.drawn=V:=by rw[m.tape,m.drawn,gU]
   rw[e];exact m.Jb ⟨Qz.qs,Qz.Xl⟩ Qz.gI⟩,λb p _ h=>h,λb j=>by obtain rfl:=Qz.QI j;exact⟨λp h=>absurd (m.lt _ h.2) (zEz _),m.Us⟩⟩
 have hH:=Sc (P:=zq) (Al:=Qz.Al) (S:=Go.Ren.AtEnd zq R kU) Qz.jO T (A2:=Qz.Aj W.heap.size) (vb:=W.heap.size) (λk B=>Qz.QI B) (by have:=m.size;omega) λN hN=>by
  obtain⟨U,R',j,hR',hC⟩:=hU N hN;exact⟨Qz.Ab N,U,cG D,R',Qz.yC _ _ g,Qz.other bT hf,Qz.nbj,λk B=>Qz.Zu B,aZ.al (λ_ x=>x.elim) ha,λn d=>j.Jb Qz.hasB m Qz.gI n d,j.size,λb p h=>h.1,λb p h e=>by rw[<-h.1]at e;subst e;exact absurd (m.lt _ h.2) (zEz _),hR',hC⟩
 obtain⟨N,Td,w1,il,t1,q1,z,H,fr1,v,q,r1,g1,A,hAt,⟨et,eo,eu⟩,K,t⟩:=Gi (Inv:=Apart zq Qm.prog.funcs Qm.Al) (InvE:=AQ zq Qm.prog.funcs Qm.Al) Qz.shape Qz.res Qz.jO (Qz.yC _ _ g) hI (jump Xo) hH y (aH rfl) (λ_=>False) #[G (Frame.enter Tryz.prog f args .normal) []] W #[] (λ_=>0) aB (cG D) (λx=>D x\/x=W.heap.size) (Frame.enter zq f args .normal) [] w (by rw[GL s];rfl) T ⟨_,hcM⟩;rw[Qz.back]at r1;have Y:=A.lv;rw[Qz.back]at Y;obtain⟨_,x,hx,hr⟩|⟨_,_,c,hm,he⟩:=hAt;rotate_left
 .exact(Lm K hm (by have:=he v.tape v.drawn;rwa [gU]at this)).elim
 have O:Goes Tryz.prog aF Go.Conc.AtRel (λ_ _ _=>False) (Go.Conc.AtEnd Tryz.prog (λl=>∃b,blk l=aA b/\z b) w1.heap.size (Left R D W)) 0 (G q []) w1:=λw₁ r=>by obtain⟨d,rfl⟩:=r;have B:VX zq (Qz.Aj W.heap.size) Go.Ren.K0 H fr1 [] v q [] (w1.at d):=A.OH.rely rfl ⟨λ_ _ _=>rfl,zAb _,rfl⟩;obtain⟨x',es,hv,_,J,Mn⟩:=Me Qz.shape rfl B hx (Qz.res _) (let⟨_,_,_,_,q4,_⟩:=hx v.tape v.drawn;Qz.Wy A.OH.frame.al q4);rw[Qz.back]at J;refine⟨rfl,x',es,J,λe he=>Nk (Sh:=z) (λb p j=>⟨A.off b p j,DF A.OH.world j⟩) (Mn e he),x,v,H,z,?_,hv,B.world,⟨t.sub,t.size,t.still⟩,et,eo,eu,(A.Us _ Qz.Xl).1⟩;have:=hr v.tape v.drawn;rwa [gU]at this
 obtain⟨N2,last,o,w',t',r2,r3,r4,r5⟩:=beside_ends (λ_ _ _ h=>h.elim) (sl:=il) g1 Y A.calm.past O;have hs:solo (G (Frame.enter Tryz.prog f args .normal) []) W=crowd #[G (Frame.enter Tryz.prog f args .normal) []] W aB:=rfl;refine⟨N+N2,last,o,w',t',?_,?_,r4,r5⟩
 .rw[hs,zCl,runNT_add,r1];exact r2
 .rw[hs,<-runNT_fst _ _ _ #[],runNT_add,r1];rw[runNT_fst];exact r3
end
open Go.RowKit Go.Proofs Go.Ren Go.Conc
section
variable {N:Nat}{pa:zO}{bp o cp bt:Nat}{D:zP}{pt:Nat->zO}{rows:Nat->List (Nat×ByteArray)}{W W':zW}
def Fj (hF:Fork N pa bp o bt D pt rows W)(j:N<=cp):Calls zq 233 #[iO bt,jD pa N cp] W λe W'=>
  (e=aM (.tuple #[])/\eI (allRows rows N) W W')\/(e= .panicked (told (full #[iO bt,jD pa N cp]))/\oD W W'/\zb W W'):=by
 intro cs;have l:(full #[iO bt,jD pa N cp]).size=43:=lB (by simp);have h:=jN W aF;have i:Frame.enter zq 233 #[iO bt,jD pa N cp] .normal=gN (full #[iO bt,jD pa N cp]) [.code Qz.rU]:=by rw[GJ];rfl
 rw[i];by_cases m:Ez W.tape W.drawn=0
 .obtain⟨fr,own,B,⟨k,z,n,y,v⟩,a⟩:=Lone.steps (JY (S:=λfr own u=>own=[]/\u=(boxed W aF).re W.tape (W.drawn+1)/\fr.fn=233/\fr.mode= .panicking (told (full #[iO bt,jD pa N cp]))/\fr.defers=[]) W.tape W.drawn m l λfr r q p _=>⟨rfl,rfl,r,q,p⟩);subst k;subst z;exact⟨.panicked (told (full #[iO bt,jD pa N cp])),(boxed W aF).re W.tape (W.drawn+1),fr,aI ⟨rfl,⟨h.size,h.old,h.new⟩,⟨rfl,rfl,rfl,h.size,h.old⟩⟩,a,n,y,v,Qz.f233,by rw[n];exact Qz.func233⟩
 .have A:(full #[iO bt,jD pa N cp]).getD 0 aEh=iO bt:=by{rw[zAu,UD];rfl};have k:(full #[iO bt,jD pa N cp]).getD 1 aEh=jD pa N cp:=by rw[zAu,UC];rfl
  have f:=Cu N pa bp o cp bt D pt rows W hF j ((boxed W aF).re W.tape (W.drawn+1)) λb c=>by
   have bT:b<W.heap.size:=by obtain c|⟨s,rfl⟩:=c;{exact nQ hF.plain c};{exact(hF.Zk s).1}
   exact h.old b bT
  have t:Calls zq 170 #[(full #[iO bt,jD pa N cp]).getD 0 aEh,(full #[iO bt,jD pa N cp]).getD 1 aEh] ((boxed W aF).re W.tape (W.drawn+1)) λe W'=>(∃x,e=aM x)/\eI (allRows rows N) ((boxed W aF).re W.tape (W.drawn+1)) W':=by rw[A,k];exact f
  obtain⟨w,fr,d,a,g,hl⟩:=VD l W.tape W.drawn m t cs;refine⟨aM (.tuple #[]),w,fr,aH ⟨rfl,zBc h.size d.size,λb c=> ?_,d.os,d.tape,d.output⟩,a,g,hl⟩;exact(d.heap b (zAd c h.size)).trans (fO _ (h.old b c))
end
end Go.Ga
namespace Go.Proofs
open Go.Ga
@[simp]def Qz.call13:=Qz.cl func13
@[simp]def Qz.call14:=Qz.cl func14
@[simp]def Qz.call15:=Qz.cl func15
@[simp]def Qz.call16:=Qz.cl func16
@[simp]def Qz.call17:=Qz.cl func17
@[simp]def Qz.call18:=Qz.cl func18
@[simp]def Qz.call19:=Qz.cl func19
@[simp]def Qz.call20:=Qz.cl func20
@[simp]def Qz.call21:=Qz.cl func21
@[simp]def Qz.call22:=Qz.cl func22
@[simp]def Qz.call23:=Qz.cl func23
@[simp]def Qz.call33:=Qz.cl func33
@[simp]def Qz.call34:=Qz.cl func34
@[simp]def Qz.call35:=Qz.cl func35
@[simp]def Qz.call36:=Qz.cl func36
@[simp]def Qz.call37:=Qz.cl func37
@[simp]def Qz.call38:=Qz.cl func38
@[simp]def Qz.call39:=Qz.cl func39
@[simp]def Qz.call40:=Qz.cl func40
@[simp]def Qz.call41:=Qz.cl func41
@[simp]def Qz.call52:=Qz.cl func52
@[simp]def Qz.call53:=Qz.cl func53
@[simp]def Qz.call54:=Qz.cl func54
@[simp]def Qz.call55:=Qz.cl func55
@[simp]def Qz.call56:=Qz.cl func56
@[simp]def Qz.call57:=Qz.cl func57
@[simp]def Qz.call58:=Qz.cl func58
@[simp]def Qz.call59:=Qz.cl func59
@[simp]def Qz.call60:=Qz.cl func60
@[simp]def Qz.call61:=Qz.cl func61
@[simp]def Qz.call62:=Qz.cl func62
@[simp]def Qz.call63:=Qz.cl func63
@[simp]def Qz.call64:=Qz.cl func64
@[simp]def Qz.call65:=Qz.cl func65
@[simp]def Qz.call76:=Qz.cl func76
@[simp]def Qz.call77:=Qz.cl func77
@[simp]def Qz.call78:=Qz.cl func78
@[simp]def Qz.call79:=Qz.cl func79
@[simp]def Qz.call80:=Qz.cl func80
@[simp]def Qz.call81:=Qz.cl func81
@[simp]def Qz.call82:=Qz.cl func82
@[simp]def Qz.call84:=Qz.cl func84
@[simp]def Qz.call85:=Qz.cl func85
@[simp]def Qz.call87:=Qz.cl func87
@[simp]def Qz.call88:=Qz.cl func88
@[simp]def Qz.call95:=Qz.cl func95
@[simp]def Qz.call96:=Qz.cl func96
@[simp]def Qz.call97:=Qz.cl func97
@[simp]def Qz.call98:=Qz.cl func98
@[simp]def Qz.call99:=Qz.cl func99
@[simp]def Qz.call100:=Qz.cl func100
@[simp]def Qz.call101:=Qz.cl func101
@[simp]def Qz.call102:=Qz.cl func102
@[simp]def Qz.call107:=Qz.cl func107
@[simp]def Qz.call108:=Qz.cl func108
@[simp]def Qz.call109:=Qz.cl func109
@[simp]def Qz.call110:=Qz.cl func110
@[simp]def Qz.call117:=Qz.cl func117
@[simp]def Qz.call118:=Qz.cl func118
@[simp]def Qz.call119:=Qz.cl func119
@[simp]def Qz.call121:=Qz.cl func121
@[simp]def Qz.call127:=Qz.cl func127
@[simp]def Qz.call128:=Qz.cl func128
@[simp]def Qz.call129:=Qz.cl func129
@[simp]def Qz.call130:=Qz.cl func130
@[simp]def Qz.call133:=Qz.cl func133
@[simp]def Qz.call214:=Qz.cl func214
@[simp]def Qz.call215:=Qz.cl func215
@[simp]def Qz.call217:=Qz.cl func217
@[simp]def Qz.call220:=Qz.cl func220
@[simp]def Qz.call221:=Qz.cl func221
@[simp]def Qz.call222:=Qz.cl func222
@[simp]def Qz.call223:=Qz.cl func223
@[simp]def Qz.call224:=Qz.cl func224
@[simp]def Qz.call225:=Qz.cl func225
@[simp]def Qz.call226:=Qz.cl func226
@[simp]def Qz.call227:=Qz.cl func227
@[simp]def Qz.call228:=Qz.cl func228
@[simp]def Qz.call229:=Qz.cl func229
@[simp]def Qz.call230:=Qz.cl func230
@[simp]def Qz.call231:=Qz.cl func231
@[simp]def Qz.call232:=Qz.cl func232
@[simp]def Qz.call234:=Qz.cl func234
@[simp]def Qz.call237:=Qz.cl func237
@[simp]def Qz.call238:=Qz.cl func238
@[simp]def Qz.call239:=Qz.cl func239
@[simp]def Qz.call241:=Qz.cl func241
@[simp]def Qz.call242:=Qz.cl func242
@[simp]def Qz.call243:=Qz.cl func243
@[simp]def Qz.call246:=Qz.cl func246
@[simp]def Qz.call219:=Qz.call Qz.func219
@[simp]def Qz.call233:=Qz.call Qz.func233
end Go.Proofs
namespace Go.Proofs.Zq.Sha
open Go
def ofInt32 (a:BitVec 32):aEz 32 (a.toNat:Int)=a:=by apply BitVec.eq_of_toNat_eq;simp
def Oh (a b:BitVec 32):bits .and aP (a.toNat:Int) (b.toNat:Int)=((a&&&b).toNat:Int):=by show IntKind.u32.wrap ((aEz 32 (a.toNat:Int)&&&aEz 32 (b.toNat:Int)).toNat:Int)=_;rw[ofInt32,ofInt32,aEF];have:=(a&&&b).isLt;omega
def De (a b:BitVec 32):bits .or aP (a.toNat:Int) (b.toNat:Int)=((a|||b).toNat:Int):=by show IntKind.u32.wrap ((aEz 32 (a.toNat:Int)|||aEz 32 (b.toNat:Int)).toNat:Int)=_;rw[ofInt32,ofInt32,aEF];have:=(a|||b).isLt;omega
def VM (a b:BitVec 32):bits .xor aP (a.toNat:Int) (b.toNat:Int)=((a^^^b).toNat:Int):=by show IntKind.u32.wrap ((aEz 32 (a.toNat:Int)^^^aEz 32 (b.toNat:Int)).toNat:Int)=_;rw[ofInt32,ofInt32,aEF];have:=(a^^^b).isLt;omega
def Og (a:BitVec 32):bits .xor aP 4294967295 (a.toNat:Int)=((~~~a).toNat:Int):=by
 have h:=VM (aEA 32 4294967295) a;have e:((aEA 32 4294967295).toNat:Int)=4294967295:=by decide
 rw[e]at h;rw[h];congr 2
def mK (n):((2^n:Nat):Int)=(2:Int)^n:=by
 induction n with
 |zero=>rfl
 |succ n i=>rw[Nat.pow_succ,aEJ,i,Int.pow_succ];rfl
def Et (a:BitVec 32)(n):IntKind.u32.wrap ((a.toNat:Int)*2^n)=((a<<<n).toNat:Int):=by rw[aEF,BitVec.toNat_shiftLeft,Nat.shiftLeft_eq,<-mK,Int.natCast_emod,aEJ];rfl
def Es (a:BitVec 32)(n):(a.toNat:Int).fdiv (2^n)=((a>>>n).toNat:Int):=by rw[BitVec.toNat_ushiftRight,Nat.shiftRight_eq_div_pow,<-mK,aEK _ (zGd _),Int.natCast_ediv]
def uC (x:BitVec 32)(n:Nat):BitVec 32:=x>>>n|||x<<<(32-n)
def S0 (x:BitVec 32):BitVec 32:=uC x 2^^^uC x 13^^^uC x 22
def S1 (x:BitVec 32):BitVec 32:=uC x 6^^^uC x 11^^^uC x 25
def s0 (x:BitVec 32):BitVec 32:=uC x 7^^^uC x 18^^^x>>>3
def s1 (x:BitVec 32):BitVec 32:=uC x 17^^^uC x 19^^^x>>>10
def add_mod (a b:BitVec 32):((a.toNat:Int)+(b.toNat:Int))%4294967296=((a+b).toNat:Int):=by rw[BitVec.toNat_add];omega
def Bm (a:BitVec 32)(n):((a.toNat:Int)*2^n)%4294967296=((a<<<n).toNat:Int):=by rw[<-Et,aEF]
def Bl (a:BitVec 32)(n):(a.toNat:Int)/2^n=((a>>>n).toNat:Int):=by rw[<-Es,<-mK,aEK _ (zGd _)]
def Rp (x:BitVec 32)(n):bits .or aP ((x.toNat:Int)*2^(32-n)%4294967296) ((x.toNat:Int)/2^n)=((uC x n).toNat:Int):=by rw[Bm,Bl,De,uC,BitVec.or_comm]
def Ah (a b:BitVec 32):bits .and aR (a.toNat:Int) (b.toNat:Int)=((a&&&b).toNat:Int):=by
 have f:=a.isLt;have h:=b.isLt;have d:a.toNat&&&b.toNat<2^32:=Nat.and_lt_two_pow _ h;show IntKind.u64.wrap ((aEz 64 (a.toNat:Int)&&&aEz 64 (b.toNat:Int)).toNat:Int)=_;have e:∀c:BitVec 32,(aEz 64 (c.toNat:Int)).toNat=c.toNat:=λc=>by have:=c.isLt;rw[aEB,aEC];exact Nat.mod_eq_of_lt (by omega)
 rw[aED,e,e,aED];simp only[aEG,aEH,aEI];simp;omega
def Ag (a b:BitVec 32):bits .xor aR (a.toNat:Int) (b.toNat:Int)=((a^^^b).toNat:Int):=by
 have d:=a.isLt;have h:=b.isLt;have f:=Nat.xor_lt_two_pow d h;show IntKind.u64.wrap ((aEz 64 (a.toNat:Int)^^^aEz 64 (b.toNat:Int)).toNat:Int)=_;have e:∀c:BitVec 32,(aEz 64 (c.toNat:Int)).toNat=c.toNat:=λc=>by have:=c.isLt;rw[aEB,aEC];exact Nat.mod_eq_of_lt (by omega)
 rw[aEE,e,e,aEE];simp only[aEG,aEH,aEI];simp;omega
def az (a:BitVec 32):(4294967295:Int)-(a.toNat:Int)=((~~~a).toNat:Int):=by have:=a.isLt;rw[BitVec.toNat_not];omega
def V (x:BitVec 32):Int:=(x.toNat:Int)
def Ov (x:BitVec 32):0<=V x:=zGd _
def sr (x:BitVec 32):V x<4294967296:=by have:=x.isLt;unfold V;omega
def V_add (a b:BitVec 32):(V a+V b)%4294967296=V (a+b):=add_mod a b
def V_and (a b:BitVec 32):bits .and aP (V a) (V b)=V (a&&&b):=Oh a b
def V_or (a b:BitVec 32):bits .or aP (V a) (V b)=V (a|||b):=De a b
def V_xor (a b:BitVec 32):bits .xor aP (V a) (V b)=V (a^^^b):=VM a b
def V_not (a:BitVec 32):bits .xor aP IntKind.u32.max (V a)=V (~~~a):=Og a
def V_shr (a:BitVec 32)(n:Nat):V a/2^n=V (a>>>n):=Bl a n
def gi (a:BitVec 32)(n:Nat):(V a*2^n)%4294967296=V (a<<<n):=Bm a n
def gj (x:BitVec 32)(n):bits .or aP (V x*2^(32-n)%4294967296) (V x/2^n)=V (uC x n):=Rp x n
def jz (a b:BitVec 32):bits .and aR (V a) (V b)=V (a&&&b):=Ah a b
def V64_xor (a b:BitVec 32):bits .xor aR (V a) (V b)=V (a^^^b):=Ag a b
def jy (a:BitVec 32):4294967295-V a=V (~~~a):=az a
def gl (a:BitVec 32):IntKind.u64.wrap (V a)=V a:=by have b:=Ov a;have h:=sr a;simp only[aEG,aEH,aEI];simp;omega
def Yi (a:BitVec 32):V a/(8:Int)=V (a>>>3):=V_shr a 3
def Tz (a:BitVec 32):V a/(1024:Int)=V (a>>>10):=V_shr a 10
end Go.Proofs.Zq.Sha
namespace Go.Proofs.Zq.Tail
open Go Go.RowKit Go.Sort
section
variable {P:zZ}{ops:zQ}{md:Region.Mode}{C:zW->Prop}
def eQ (P:zZ)(md:Region.Mode)(ops:zQ)(C:zW->Prop)(n:Nat)(L:Array Bool->Act->Prop):Nat->Array Bool->Act->Prop
 |0,listed,a=>L listed a
 |f+1,listed,a=>Region.ready md ops listed≠[]/\∀i∈Region.ready md ops listed,i<n/\qOp P ops C i (eQ P md ops C n L f (listed.setIfInBounds i aF)) a
def PI {n g L Q}(j:∀listed a w,C w->L listed a->wpAny P md ops Q g listed a w)(f):
  ∀(listed)(a)(w),C w->eQ P md ops C n L f listed a->wpAny P md ops Q (f+g) listed a w:=by
 induction f with
 |zero=>intro listed a w c h;rw[zAz];exact j _ _ _ c h
 |succ f e=>intro listed a w c h;rw[show f+1+g=(f+g)+1 from by omega];exact⟨λk=>absurd k h.1,λi hi=>wpOp_of_qOp c (λm d b l=>e _ m d b l) (h.2 i hi).2⟩
def ZD {n i t v L}(hi:ops[i]? =aA t)(u:Region.noSelect ops=aF)
  (hs:Region.sinkB md ops n=aF) (I:Region.chainB md ops n=aF) (G:n<ops.size) (z:i<n)
  (r:∀listed a,L listed a->∀j∈Region.ready md ops listed,n<=j) (f):
  ∀(listed)(a),HeadInv md ops n listed->
   (∀j o,ops[j]? =aA o->j≠i->listed.getD j aF=aG->(∀e∈o.after,Region.binds md e=aF->e.on≠i)->t.apart ops o=aF)->
   i∈Region.ready md ops listed->YieldsIn P ops C t v a->
   eQ P md ops C n L f (listed.setIfInBounds i aF) (a.put t.dst v)->eQ P md ops C n L (f+1) listed a:=by
 have ah:=Region.noSelect_spec u;induction f with
 |zero=>intro listed a inv _ s B H;have l:=(mem_ready.1 s).1;refine⟨List.ne_nil_of_mem s,λj q=> ?_⟩;have d:=zFu λh=>tail_waits hs I G inv _ i rfl z l j h q;by_cases c:j=i;{subst c;exact⟨d,B.qOp hi H⟩};{have:=r _ _ H j (ready_mono q c);omega}
 |succ f M=>
  intro listed a inv g s B H;have l:=(mem_ready.1 s).1;refine⟨List.ne_nil_of_mem s,λj q=> ?_⟩;have d:=zFu λh=>tail_waits hs I G inv _ i rfl z l j h q;by_cases c:j=i;{subst c;exact⟨d,B.qOp hi H⟩}
  refine⟨d,?_⟩;obtain⟨m,o,p,A⟩:=mem_ready.1 q;have w:∀e∈o.after,Region.binds md e=aF->e.on≠i:=λe O Q F=>by have K:=A e O Q;rw[F,getD_both l]at K;cases K
  have R:=qOp_put p (g j o p c m w) (λcs b=>ah i t cs b hi) (λcs b=>ah j o cs b p) B (H.2 j (ready_mono q c)).2;refine qOp_mono (λS J=>M (listed.setIfInBounds j aF) S (inv.set q d) (λk ok N E x D=>g k ok N E ?_ D) (ready_mono s (zDi c)) J.1 ?_) R
  .by_cases y:j=k
   .subst y;exact m
   .rw[getD_set_ne aF y]at x;exact x
  .rw[zEq _ _ c];exact J.2
def Gu {n g L}(c:Region.noSelect ops=aF)(hs:Region.sinkB md ops n=aF)(x:Region.chainB md ops n=aF)(u:n<ops.size)(l):
  ∀(k)(listed)(a),(∀j,j<l.length->l[j]? =ops[k+j]?)->k+l.length=n->HeadInv md ops n listed->
  Region.lexHead md ops g l.length k listed=aF->wpQuiet P ops C L l a->
  eQ P md ops C n (λb p=>Region.seqB md ops g n b=aF/\L p) l.length listed a:=by
 induction l with
 |nil=>intro k listed a _ i _ e h;obtain rfl:k=n:=by{simpa using i};exact⟨e,h⟩
 |cons o l q=>intro k listed a hl i inv e h;have f:ops[k]? =aA o:=by{simpa using(hl 0 (by simp)).symm};simp only[zAf,Region.lexHead,zBd]at e;simp only[zAf]at i;obtain⟨⟨s,w⟩,m⟩:=e;have d:k∈Region.ready md ops listed:=by{simpa using s};have t:qOp P ops C k (wpQuiet P ops C L l) a:=by{unfold qOp;simp only[f];exact h};obtain⟨v,r,z⟩:=yieldsIn_of_qOp f t;refine ZD f c hs x u (by omega) (λb p y=>seqB_ready y.1) l.length listed a inv (Region.free_spec f w) d r ?_;refine q (k+1) _ _ (λj A=> ?_) (by omega) (inv.set d (by omega)) m z;have:=hl (j+1) (by simp;omega);simpa [zCl,zGc 1 j]using this
def lN {id Q a w}{l:List Oper}(n)(u:P.follows .mixedOrders=aF)(p:Region.lexTailB .any l.toArray n=aF)
  (x:C {w with drawn:=w.drawn+1})
  (h:wpQuiet P l.toArray C (λa'=>∀w',C w'->wpList P l.toArray Q (l.drop n) a' w') (l.take n) a):(Code.region id l.toArray aF).wp P Q a w:=by
 simp only[Region.lexTailB,zBd,zBr]at p;obtain⟨⟨⟨⟨c,k⟩,r⟩,v⟩,d⟩:=p;have s:n<l.length:=by simpa using k
 have b:(l.take n).length=n:=by simp;omega
 have e:(l.drop n).length=l.toArray.size-n:=by simp
 have i:HeadInv .any l.toArray n (aDZ l.toArray.size aG):=
  ⟨by simp,λj y _ hl=>(by rw[getD_replicate_false]at hl;cases hl),λt _ q=>getD_in (by simpa using q) (getD_replicate_false _ _)⟩
 have H:=Gu c r v k (l.take n) 0 _ a (λj m=>by
  have g:j<n:=by rw[b]at m;exact m
  simp[g]) (by simpa using b) i (by rw[b];exact d) h
 refine wp_region_any u ?_;have:=PI (λlisted a' w' f o=>by have:=wpAny_of_seq (l.drop n) n listed a' w' (λj=>by simp[zEh]) (by rw[e];exact o.1) (o.2 w' f);rwa [e]at this) _ _ _ _ x H
 rw[b,show n+(l.toArray.size-n)=l.toArray.size by omega]at this;exact this
def Dy {id:Nat}{Q:zX}{a:Act}{w:zW}{l:List Oper}(n:Nat)(b:P.follows .mixedOrders=aF)(c:Region.lexTailB .any l.toArray n=aF)
  (h:wpQuiet P l.toArray (λw'=>∃n,w'=w.drewN n) (λa'=>∀w',(∃n,w'=w.drewN n)->wpList P l.toArray Q (l.drop n) a' w') (l.take n) a):(Code.region id l.toArray aF).wp P Q a w:=
 lN (C:=λw'=>∃n,w'=w.drewN n) n b c ⟨1,rfl⟩ h
def vD {id:Nat}{Q:zX}{a:Act}{w:zW}{l:List Oper}(n:Nat)(b:P.follows .mixedOrders=aF)(c:Region.lexTailB .any l.toArray n=aF)
  (h:wpQuiet P l.toArray (λw'=>∃p:Regrown,w'=grow (redrawn w p.d) p.os) (λa'=>∀w',(∃p:Regrown,w'=grow (redrawn w p.d) p.os)->wpList P l.toArray Q (l.drop n) a' w') (l.take n) a):(Code.region id l.toArray aF).wp P Q a w:=
 lN (C:=λw'=>∃p:Regrown,w'=grow (redrawn w p.d) p.os) n b c ⟨⟨w.drawn+1,#[]⟩,by rw[grow_empty];rfl⟩ h
end
end Go.Proofs.Zq.Tail
