import Derived.ProofKit
import Derived.RowKit3
import Derived.WalkKit
import Derived.Deep.LoopGhost
import Derived.Deep.Light
import Derived.LoopN
import Derived.Laws.BitsAllLaws
import Derived.StillTail
import Derived.Deep.Quiet
import Derived.Deep.QuietTactic
import Derived.BigQuiet
import Derived.Lib.QuietBelow
import Derived.Test.YtghpcgagijhlaaaGreatDoorL04
set_option linter.all false
set_option maxRecDepth 100000
set_option maxHeartbeats 16000000
open Option renaming some->aA,none->aB
open Bool renaming true->aF,false->aG
open Or renaming inl->aH,inr->aI
open Go.Ending renaming returned->aM
open Go.Item renaming inRegion->aN
open Go.Obj renaming cells->aJ
open Go.IntKind renaming i64->aD,u32->aP,u64->aR,u8->aQ
open Array renaming replicate->aD5
open BitVec renaming ofInt->aEF,ofNat->aEG,ofInt_natCast->aEH,toNat_ofNat->aEI,toNat_and->aEJ,toNat_xor->aEK
open Go renaming undef->aEn
open Go.IntKind renaming wrap_u32'->aEL,wrap->aEM,bits->aEN,signed->aEO
open Int renaming natCast_mul->aEP,fdiv_eq_ediv_of_nonneg->aEQ
open Go.Proofs.Tryz
namespace Go
abbrev zGv:=@Go.below_regrown
abbrev zGz:=@Go.Calls.quiet_of_same
end Go
namespace Go.Proofs
open Go.RowKit Go.Ren
section
variable {Q Q':zZ}(w:zW)
def RR {t}(h:Q.info? t=aB)(u)(es):(typeInfo t).runT Q u es=(.halt (.stuck "no such type") u,es):=by show(match Q.info? t with|some i=>pure i|none=>stuck "no such type":Sem TypeInfo).runT Q u es=_;rw[h];rfl
def BZ {t}(h:Q.underlying t=aB)(u)(es):(underlying t).runT Q u es=(.halt (.stuck "no such type") u,es):=by show(match Q.underlying t with|some d=>pure d|none=>stuck "no such type":Sem TypeDesc).runT Q u es=_;rw[h];rfl
def DF {t}(h:Q.info? t=Q'.info? t)(u)(es):(typeInfo t).runT Q u es=(typeInfo t).runT Q' u es:=by
 cases hi:Q'.info? t with
 |none=>rw[RR (h.trans hi),RR hi]
 |some i=>rw[CB (h.trans hi),CB hi]
def Ap {t}(h:Q.underlying t=Q'.underlying t)(u)(es):(underlying t).runT Q u es=(underlying t).runT Q' u es:=by
 cases hi:Q'.underlying t with
 |none=>rw[BZ (h.trans hi),BZ hi]
 |some i=>rw[sG (h.trans hi),sG hi]
def Je {t}(h:Q.info? t=Q'.info? t)(u)(es):(Go.sizeOf t).runT Q u es=(Go.sizeOf t).runT Q' u es:=by
 unfold Go.sizeOf;rw[bD,bD,DF h];cases(typeInfo t).runT Q' u es with
 |mk r e=>cases r<;>rfl
def Qs {t}(h:Q.underlying t=Q'.underlying t)(u)(es):(isAgg t).runT Q u es=(isAgg t).runT Q' u es:=by
 unfold isAgg;rw[bD,bD,Ap h];cases(underlying t).runT Q' u es with
 |mk r e=>
  cases r with
  |ok d u1=>cases d<;>rfl
  |halt h u1=>rfl
def Jd {t}(h:Q.info? t=Q'.info? t)(u)(es):(zeroValue t).runT Q u es=(zeroValue t).runT Q' u es:=by
 unfold zeroValue;rw[bD,bD,DF h];cases(typeInfo t).runT Q' u es with
 |mk r e=>
  cases r with
  |ok i u1=>dsimp only;cases i.zero<;>rfl
  |halt h u1=>rfl
def EH {α}{s:Sem α}(h:∀u es,s.runT Q u es=s.runT Q' u es):s.run Q w=s.run Q' w:=by rw[<-Sem.runT_fst Q _ _ #[],h,Sem.runT_fst]
end
section
variable(w:zW)
@[simp]theorem Qz.typeInfo (n:zD):(typeInfo n).run zq w=(typeInfo n).run Tryz.prog w:=EH w λu e=>DF (Qz.info n) u e
@[simp]theorem Qz.Un (n):(underlying n).run zq w=(underlying n).run Tryz.prog w:=EH w λu e=>Ap (Qz.fH n) u e
@[simp]theorem Qz.sizeOf (n):(Go.sizeOf n).run zq w=(Go.sizeOf n).run Tryz.prog w:=EH w λu e=>Je (Qz.info n) u e
@[simp]theorem Qz.isAgg (n:zD):(isAgg n).run zq w=(isAgg n).run Tryz.prog w:=EH w λu e=>Qs (Qz.fH n) u e
@[simp]theorem Qz.zeroValue (n:zD):(zeroValue n).run zq w=(zeroValue n).run Tryz.prog w:=EH w λu e=>Jd (Qz.info n) u e
@[simp]theorem Qz.zx (t):zq.underlying t=Tryz.prog.underlying t:=Qz.fH t
end
def Qz.fn {f:zN}{fn:Func}(a:Tryz.prog.funcs[f]? =aA fn)(h:¬Qz.iS f:=by decide):zq.funcs[f]? =aA fn:=(Qz.same h).trans a
end Go.Proofs
namespace Go.Ga
open Go.RowKit Go.Proofs Go.Ren
def Qz.call {f:zN}{fn:Func}{c:Code}(a:zq.funcs[f]? =aA fn)(h:(fn.name== "runtime.NumGoroutine")=aG:=by kernel_rfl)(b:fn.body=aA c:=by rfl)(xs:zA)(w:zW):(callFunc f xs).run zq w= .ok (.enter f xs) w:=by rw[<-Sem.runT_fst zq _ _ #[],jN a h b]
def Qz.cl {f:zN}{fn:Func}{c:Code}(b:Tryz.prog.funcs[f]? =aA fn)(h:¬Qz.iS f:=by decide)(a:(fn.name== "runtime.NumGoroutine")=aG:=by kernel_rfl)(d:fn.body=aA c:=by rfl)(xs:zA)(w:zW):=Qz.call (Qz.fn b h) a d xs w
@[simp]def Qz.gz:=Qz.call (Qz.fn Tryz.func235)
@[simp]def Qz.gy:=Qz.call (Qz.fn Tryz.func236)
def bd {w:zW}{g:Nat}{cs:zA}{t:zD}(h:w.heap[g]? =aA (aJ cs t (0,0)))(i:Nat):w.frozen? ⟨g,i,aB⟩=aG:=cR h i
def XE (w:zW)(c:Nat)(s:ByteArray)(o:Obj):dW [(c,s)] w ((w.setCell ⟨c,4,aB⟩ (.string s)).alloc o):=by have h:(w.setCell ⟨c,4,aB⟩ (.string s)).heap.size=w.heap.size:=dY _ _ _;refine⟨by rw[eP,h];omega,λb a=> ?_,rfl,rfl,rfl⟩;rw[alloc_old _ _ (by rw[h];exact a)];rfl
def GF:Ig:=by
 intro rows q l cp W F hl K d f;obtain rfl:l=rows.length:=F.1;have T:Hid (fJ rows q rows.length W):=F;have Y:Hid (∀p∈rows,∃cs,W.heap[p.1]? =aA (aJ cs 272 (0,0))/\cs.size=6):=d;have U:Hid (∀a,q=aA a->∀p∈rows,a.block≠p.1):=f;clear F d f;go_enter (Qz.fn func235),ntmps235;go_wp2_with fail;go_loopg [6] rows.length (λn x wr=>∃(j:Nat),j+n=rows.length/\x= .int aD (j:Int)/\dW (rows.take j) W wr);case atStart=>exact⟨0,by omega,rfl,dW.nil⟩
 case round=>
  obtain⟨j,hj,rfl,c1⟩:=hrel
  have C:Hid (dW (rows.take j) W wr):=c1
  clear c1
  by_cases b:j<rows.length
  .have J:rows≠[]:=λe=>by rw[e]at b;simp at b
   obtain⟨g,Z,e,I⟩:=T.out.2 J;subst e;obtain⟨t,k1⟩:=I j rows[j] (zAi b);have k:rows[j]∈rows:=zDo b;have m:=U.out _ rfl;dsimp only at m;have D:g<W.heap.size:=by
    unfold World.cell? at t;dsimp only at t;cases hb:W.heap[g]? with
    |none=>rw[hb]at t;cases t
    |some ob=>exact(zAa.1 hb).1
   have z:wr.heap[g]? =W.heap[g]? :=(C.out.heap g D).trans (gO _ λp O=>zDj (m p (zEm O)));have o:∀i,wr.cell? ⟨g,i,aB⟩=W.cell? ⟨g,i,aB⟩:=λi=>by{simp only[World.cell?];rw[z]};obtain⟨G,r,v⟩:=Y.out _ k;obtain⟨M,h,E⟩:=lO (rows.take j) ⟨G,r,v⟩;rw[<-C.out.heap _ (zAa.1 r).1]at h;have K0:=(o _).trans t;have K1:=(o _).trans k1;have L:=(zAa.1 h).1;generalize A:rows[j].1=c at*;generalize u:rows[j].2=s at*;have H:rows[j]? =aA (c,s):=by{rw[zAi b,<-A,<-u]};have V:Hid (rows[j]? =aA (c,s)):=H;clear H;obtain⟨N,B⟩:∃y,M[4]? =aA y:=⟨_,zAj (by omega)⟩;have R:¬((j:Int)<0):=by{omega};have Q:(j:Int)<(rows.length:Int):=by{omega};have hx:wr.heap.size≠c:=by{omega};have X:Hid (wr.heap[c]? =aA (aJ M 272 (0,0))):=h;have P:wr.cell? ⟨c,4,aB⟩=aA N:=(bC h 4).trans B;have S:wr.frozen? ⟨c,4,aB⟩=aG:=cR h 4;clear I k m z o r v h E t k1 J A u;go_wp2_with fail;go_roundg (rows.length-(j+1));case measure=>omega
   case rel=>
    go_light
    refine⟨j+1,by omega,by go_num,?_⟩
    rw[List.take_succ,V.out]
    exact C.out.trans (XE wr c s _)
  .have w:j=rows.length:=by{omega};subst w;go_wp2;go_end0;refine⟨rfl,?_⟩;have:=C.out;rwa [zCx (by omega)]at this
def Qz.ntmps170:Qz.f170.ntmps=43:=rfl
def Lu {N:Nat}(d:N<2147483648)(w:zW):(Instr.makeSlice 287 (.int aD (N:Int)) (.int aD (N:Int))).run zq w= .ok (.slice (aA ⟨w.heap.size,0,aB⟩) N N) (w.alloc (aJ (madeCells #[.slice aB 0 0] N) 283)):=by obtain⟨i,c,b,a,h⟩:=NU;have e:=run_make (P:=zq) w 287 283 i (.slice aB 0 0) ((Qz.fH 287).trans underlying287) ((Qz.info 283).trans c) b aD aD N N (by omega) (by omega) (by rw[h];omega) (by omega);rw[a]at e;simpa [Value.cells]using e
def fJ.lt {rows:List (Nat×ByteArray)}{q:zO}{l:Nat}{w:zW}(h:fJ rows q l w)(c:rows≠[]){a:Addr}(i:q=aA a):a.block<w.heap.size:=by
 obtain⟨g,o,e,d⟩:=h.2 c;rw[i]at e;cases e;obtain⟨p,f⟩:∃p,rows[0]? =aA p:=by
  cases rows with
  |nil=>exact absurd rfl c
  |cons p l=>exact⟨p,rfl⟩
 have b:=(d 0 p f).1;unfold World.cell? at b;dsimp only at b⊢;cases hb:w.heap[g]? with
 |none=>rw[hb]at b;cases b
 |some j=>exact(zAa.1 hb).1
def fJ.stays {rows:List (Nat×ByteArray)}{q:zO}{l:Nat}{w w':zW}(h:fJ rows q l w)(d:rows≠[]->∀a,q=aA a->a.block<w.heap.size->w'.heap[a.block]? =w.heap[a.block]?):fJ rows q l w':=by
 by_cases b:rows=[]
 .exact⟨h.1,λx=>absurd b x⟩
 .exact h.keep λa c=>d b a c (h.lt b c)
def Pe (rows:Nat->List (Nat×ByteArray))(W w:zW)(cs:zA)(j:Nat):Prop:=∀i,i<j->∃q l cp,cs[i]? =aA (.slice q l cp)/\l<=cp/\fJ (rows i) q l w/\∀a,q=aA a->W.heap.size<a.block
def Bz:xY:=by
 intro N pa bp o cp bt D pt rows u hF xh W t;have bT:=hF.lt;have U:=Lu (N:=N) (by omega);have H:Hid (Fork N pa bp o bt D pt rows u):=hF;have Z:Hid (∀b,D b\/(0<N/\b=bp)->W.heap[b]? =u.heap[b]?):=t;have R:Hid (∀b,D b->b<W.heap.size):=λb k=>by have g:=t b (aH k);have m:=nM hF.plain k;rw[zAj m]at g;exact(zAa.1 g).1
 have HB:Hid (0<N->bp<W.heap.size):=λh0=>by have g:=t bp (aI ⟨h0,rfl⟩);have m:=(hF.ai h0).1;rw[zAj m]at g;exact(zAa.1 g).1
 clear hF t;dsimp only[iE,iV];go_enter Qz.func170,Qz.ntmps170;unfold Qz.ZP;go_wp2_with fail;go_loopg [28] N (λq x wr=>∃(j:Nat)(cs:zA),j+q=N/\x= .int aD (j:Int)/\zb W wr/\wr.heap[W.heap.size]? =aA (aJ cs 283 (0,0))/\cs.size=N/\Pe rows W wr cs j);case atStart=>exact⟨0,madeCells #[.slice aB 0 0] N,by omega,rfl,(zGo _ _).alloc (zAb _) _,by show(W.heap.push _)[W.heap.size]? =_;simp,size_madeCells _ _,λi h=>by omega⟩
 case round=>
  obtain⟨j,cs,hj,rfl,c1,c2,c3,c4⟩:=hrel
  have C:Hid (zb W wr):=c1
  have P:Hid (wr.heap[W.heap.size]? =aA (aJ cs 283 (0,0))):=c2
  have C4:Hid (Pe rows W wr cs j):=c4
  clear c1 c2 c4 U
  by_cases M:j<N
  .have S:=H.out.my (by omega);have V:=HB.out (by omega);subst S;have k0:wr.cell? ⟨bp,o+j,aB⟩=aA (.pointer (pt j)):=by
    rw[<-H.out.q0 j M];simp only[World.cell?];rw[C.out.block bp V,Z.out bp (aI ⟨by omega,rfl⟩)]
   have Hv:Hid (sZ D u wr):=λb k ob T=>aH (by rw[C.out.block b (R.out b k),Z.out b (aH k)];exact T);have Vd:¬((j:Int)<0):=by{omega};have km:(j:Int)<(N:Int):=by omega
   go_wp2_with fail;refine(H.out.work j M wr Hv.out).mono ?_;rintro e w2 ⟨F,G,v,rfl,hle,n,y,d⟩;have J:=C.out.size;have Q:W.heap.size<wr.heap.size:=(zAa.1 P.out).1;have B2:Hid (zb W w2):=⟨d.os.trans C.out.os,d.tape.trans C.out.tape,d.output.trans C.out.output,zBb J d.size,λb k=>(d.block b (by omega)).trans (C.out.block b k)⟩;have Y:Hid (w2.heap[W.heap.size]? =aA (aJ cs 283 (0,0))):=(d.block _ Q).trans P.out;have L2:Hid (Pe rows W w2 cs j):=λi hi=>by obtain⟨w,l,c,g,m,E,z⟩:=C4.out i hi;exact⟨w,l,c,g,m,E.stays λ_ a _ bT=>d.block _ bT,z⟩
   have RW:Hid (fJ (rows j) F G w2/\G<=v/\∀a,F=aA a->W.heap.size<a.block):=⟨n,hle,λa s=>zAd Q (y a s)⟩;clear k0 d C P C4 Hv n y hle;obtain⟨x,hx⟩:∃x,cs[j]? =aA x:=⟨_,zAj (by omega)⟩;have e1:w2.cell? ⟨W.heap.size,j,aB⟩=aA x:=by{rw[bC Y.out];exact hx};have f1:w2.frozen? ⟨W.heap.size,j,aB⟩=aG:=cR Y.out j;clear hx;go_wp2;go_roundg (N-(j+1));case measure=>omega
   case rel=>
    go_light
    refine⟨j+1,cs.setIfInBounds j (.slice F G v),by omega,by go_num,?_,cY Y.out j _,by rw[zDa];exact c3,λi hi=> ?_⟩
    .exact B2.out.setCell (by simp only;omega) _
    .have K:∀a:Addr,W.heap.size<a.block->(w2.setCell ⟨W.heap.size,j,aB⟩ (.slice F G v)).heap[a.block]? =w2.heap[a.block]? :=λa s=>cE _ _ (by dsimp only;omega);by_cases f:j=i
     .subst f;exact⟨F,G,v,by rw[zBt,zAz rfl,zAz (by omega)],RW.out.2.1,RW.out.1.stays λ_ a s _=>K a (RW.out.2.2 a s),RW.out.2.2⟩
     .obtain⟨w,l,c,g,m,E,z⟩:=L2.out i (by omega);exact⟨w,l,c,by rw[zBt,zAv f];exact g,m,E.stays λ_ a s _=>K a (z a s),z⟩
  .have L:j=N:=by{omega};subst L;go_wp2_with fail;generalize wr=B at*;go_loopg [35] j (λq x wr=>∃(i:Nat),i+q=j/\x= .int aD (i:Int)/\dW (allRows rows i) B wr);case atStart=>exact⟨0,by omega,rfl,dW.nil⟩
   case round=>
    obtain⟨i,hi,rfl,d1⟩:=hrel
    have D1:Hid (dW (allRows rows i) B wr):=d1
    clear d1
    have Q:W.heap.size<B.heap.size:=(zAa.1 P.out).1
    by_cases f:i<j
    .have r:Hid (∀b,W.heap.size<=b->b<B.heap.size->wr.heap[b]? =B.heap[b]?):=λb g m=>(D1.out.heap b m).trans (gO _ λp A=>by
      obtain⟨i',fb,A⟩:=gE A;have:=R.out _ (H.out.cell i' (by omega) p A).1;omega)
     obtain⟨w,l,c,g,m,E,z⟩:=C4.out i f;have k:wr.heap[W.heap.size]? =aA (aJ cs 283 (0,0)):=(r.out _ (zAb _) Q).trans P.out;have e1:wr.cell? ⟨W.heap.size,i,aB⟩=aA (.slice w l c):=by rw[bC k];exact g
     have H3:Hid (fJ (rows i) w l wr):=E.stays λ_ a s bT=>r.out _ (by have:=z a s;omega) bT;have H4:Hid (∀a,w=aA a->∀p∈rows i,a.block≠p.1):=λa s p A=>by have h5:=z a s;have h6:=R.out _ (H.out.cell i f p A).1;omega
     have H5:Hid (∀p∈rows i,∃cs,wr.heap[p.1]? =aA (aJ cs 272 (0,0))/\cs.size=6):=λp A=>by obtain⟨hD,X,g1,g2⟩:=H.out.cell i f p A;have g3:=R.out _ hD;rw[D1.out.heap _ (by omega)];refine lO _ ⟨X,?_,g2⟩;rw[C.out.block _ g3,Z.out _ (aH hD)];exact g1
     have H6:Hid (l<=c):=m;have Mo:¬((i:Int)<0):=by{omega};have Ve:(i:Int)<(j:Int):=by{omega};clear g m E z k r;go_wp2_with fail;refine(GF (rows i) w l c wr H3.out H6.out (H.out.PN i f) H5.out H4.out).mono ?_;rintro e w2 ⟨rfl,I⟩;have W2:Hid (dW (allRows rows (i+1)) B w2):=D1.out.trans I;clear I D1 H3 H4 H5 H6 e1;go_wp2;go_roundg (j-(i+1));case measure=>omega
     case rel=>
      go_light
      exact⟨i+1,by omega,by go_num,W2.out⟩
    .have O:i=j:=by{omega};subst O;go_wp2;go_ret;refine⟨⟨_,rfl⟩,?_⟩;have d1:=D1.out;have c1:=C.out;exact⟨zBb c1.size d1.size,λb k=>(d1.heap b (by omega)).trans (fO _ (c1.block b k)),d1.os.trans c1.os,d1.tape.trans c1.tape,d1.output.trans c1.output⟩
open Go.Conc Go.Ren Go.Proofs Go.Tr
def LC {α T a}{l b:List α}(h:fZ T (a::l) b):∃c k,b=c::k/\T a c/\fZ T l k:=by
 cases h with
 |cons h1 d=>exact⟨_,_,rfl,h1,d⟩
def YG {P Al S fr c cs u x}(f:¬S fr (c::cs) u)(h:Go.Ren.Ends P Al S fr (c::cs) u)(hl:fr.leaving P u (aM x)):
  (∃D,Closed P Al D (c.finish x) cs u)/\Go.Ren.Ends P Al S (c.finish x) cs u/\One P S (c.finish x,cs,u) (fr,c::cs,u):=by
 cases h with
 |stop h=>exact absurd h f
 |step a n h1 l j=>
  obtain⟨b,e⟩:=l u.tape u.drawn [] aF;rw[zAq,zAq]at e;have m:stepG P aF {frame:=fr,callers:=c::cs,status:= .running,dying:=aB} u= .go {frame:=(n u.tape u.drawn).1,callers:=(n u.tape u.drawn).2.1,status:= .running,dying:=aB} (n u.tape u.drawn).2.2 b:=e;have s1:step P (lone fr (c::cs) u)= .next (lone (n u.tape u.drawn).1 (n u.tape u.drawn).2.1 (n u.tape u.drawn).2.2):=step_lone_go (by rw[m];rfl);rw[step_leave_returned hl]at s1;have s2:lone (c.finish x) cs u=lone (n u.tape u.drawn).1 (n u.tape u.drawn).2.1 (n u.tape u.drawn).2.2:=by injection s1
  have a3:u=(n u.tape u.drawn).2.2:=congrArg Machine.world s2;have g:({frame:=c.finish x,callers:=cs,status:= .running,dying:=aB}:zH)={frame:=(n u.tape u.drawn).1,callers:=(n u.tape u.drawn).2.1,status:= .running,dying:=aB}:=by have:=congrArg Machine.gs s2;simpa [lone]using this
  have i:c.finish x=(n u.tape u.drawn).1:=congrArg Goroutine.frame g;have a2:cs=(n u.tape u.drawn).2.1:=congrArg Goroutine.callers g;have k1:=h1 u.tape u.drawn;have d:=j u.tape u.drawn;rw[<-i,<-a2,<-a3]at k1 d;refine⟨k1,d,f,a,u.tape,u.drawn,aF,b,?_⟩;show stepG P aF (G fr (c::cs)) u= .go (G (c.finish x) cs) u b;rw[show stepG P aF (G fr (c::cs)) u=_ from e,<-i,<-a2,<-a3]
def Ks {Al π f A}(h:bG Al π (iE f) A):∃b,π f b/\A=iE b:=by
 cases h with
 |pointer g=>
  cases g with
  | @some a l i=>obtain⟨j,o,s⟩:=l;obtain⟨e,d,c⟩:=i;dsimp only at e d c;subst d;subst c;exact⟨j,e,rfl⟩
def TT (xs)(n i):(xs++aD5 n aEn).getD i aEn=xs.getD i aEn:=by
 rw[zAu,zAu];obtain h|h:=zDc i xs.size
 .rw[zCr h]
 .rw[zCc h,zEr,zBq h];split<;>rfl
def Yq (xs):Frame.enter Tryz.prog 233 xs .normal=tN (xs++aD5 (18-xs.size) aEn) [.code qX]:=by unfold Frame.enter;rw[func233];rfl
def Jh {xs ys more}(h:told xs++more=told ys):told xs=told ys:=by unfold told at h⊢;rw[List.singleton_append]at h;injection h with h1 a;rw[h1]
def JP {P:zZ}{Al:zF}{D:zP}:∀(rows:List (Nat×ByteArray)){v:zW},bQ P Al Go.Ren.K0 (cC D) v v->bQ P Al Go.Ren.K0 (cC D) (cT rows v) (cT rows v)
 |[],_,h=>h
 |p::rows,v,h=>by refine JP rows (v:=oB v p) ?_;by_cases i:D p.1;{exact h.setCell (a:=⟨p.1,4,aB⟩) (a':=⟨p.1,4,aB⟩) ⟨⟨rfl,i⟩,rfl,rfl⟩ (λx=>x) (.string _)};{have g:∀b d,cC D b d->(oB v p).heap[b]? =v.heap[b]? :=λb d c=>qK λe=>i (by rw[<-e];exact c.2);have f:(oB v p).heap.size=v.heap.size:=Er;exact yB h g (λb d c=>by rw[<-c.1];exact g b d c) (by rw[f];exact h.low.1) (by rw[f];exact h.low.1) rfl (λ_=>rfl)}
def Of {P Al π v w}(i:bQ P Al Go.Ren.K0 π v w){g e}(j:π g e){cs ty fr}(h:v.heap[g]? =aA (aJ cs ty fr)):∃d,w.heap[e]? =aA (aJ d ty fr)/\d.size=cs.size:=by
 obtain⟨c,c',t,f,n,a,l,b,_,g5,_⟩|⟨_,o,a,_,b⟩|⟨y,m,a,_,b⟩:=i.blk g e j
 .rw[h]at a;cases a;have:=g5 (λx=>x);subst this;exact⟨c',l,b.size⟩
 .rw[h]at a;cases a;exact absurd rfl (b.1 _ _ _)
 .rw[h]at a;cases a;cases b
section
variable {R:zR}{xs PK:zA}{k:CallKind}{own own':zL}{v:zW}{D:zP}{Sh:zP}{gs:zG}{w:zW}{t:Trace}{q:Nat->Nat}{sl:Option (Nat×Nat)}{π:Rn}
def Td {vb:Nat}(Yf:xY)(hz:xs.size<=20)(qd:k= .normal\/Qz.Aj vb (900000+233))(hi:Apart zq Qm.prog.funcs Qm.Al (Frame.enter zq 233 xs k) own v\/AI zq Qm.prog.funcs Qm.Al 233 xs own v)(Z:Main zq Tryz.prog.funcs (Qz.Aj vb) Sh gs w t q π (Frame.enter zq 233 xs k) own v (Frame.enter zq 233 PK k) own')
  (hg:gs[0]? =aA (G (Frame.enter ⟨zq.toTables,Tryz.prog.funcs⟩ 233 PK k) own')) (Xx:own≠[]) (hc:Closed zq Qz.Al D (Frame.enter zq 233 xs k) own v)
  (hE:Go.Ren.Ends zq Qz.Al (Go.Ren.AtEnd zq R kS) (Frame.enter zq 233 xs k) own v):
  PF zq Tryz.prog.funcs Qz.Al (Qz.Aj vb) R kS (Apart zq Qm.prog.funcs Qm.Al) (Frame.enter zq 233 xs k,own,v) Sh π gs w sl t:=by
 have ab:∀b,¬Go.Ren.K0 b:=λb h=>h;obtain rfl:k= .normal:=by obtain h|h:=qd;{exact h};{exfalso;have h:Qz.Aj vb 900233:=h;have:=(Qz.UD vb 900233 (by omega)).1 h;omega}
 obtain⟨u,more,B,vj⟩:=Sd (λ_ _=>Ss) Qz.iU Qz.quits Qz.Xg (λxs=>⟨_,_,rfl,rfl⟩) hz hc (Qz.sound hz hc hE) hE;obtain⟨N,pa,bp,o,cp,bt,DW,pt,rows,he,xh,hF⟩:=vj u.tape u.drawn;replace hF:Fork N pa bp o bt DW pt rows (cS u):=hF;clear vj;generalize cS u=u at hF B;have Y:full xs=full #[iE bt,iV pa N cp]:=Mw hz (by simp) (Ji (Jh he));have bT:∀b,DW b->b<v.heap.size:=λb z=>jY.lt B (nM hF.plain z) (hF.box b z);have og:∀b,DW b->u.heap[b]? =v.heap[b]? :=λb z=>B.old b (bT b z);have vk:aZ (Qz.Aj vb) π (full xs) (PK++aD5 (43-PK.size) aEn):=by have h:=Z.NQ.frame.tmps;rw[yW,yW]at h;exact h
 rw[Y]at vk;obtain⟨A',B',hA,hB,hx'⟩:=Mv vk;obtain⟨I,qw,rfl⟩:=Ks hA;obtain⟨C,rfl,Is⟩:∃C,B'=iV C N cp/\(0<N->vF π pa C):=by
  cases hB with
  |slice h _ _=>exact⟨_,rfl,λ_=>h⟩
  |void _ a0=>exact⟨aA a0,rfl,λh=>absurd h (zDy _)⟩
 obtain⟨oe,U⟩:=Z.Vk vb Qz.Yc;have er:¬DW vb:=λhD=>by have e:=og vb hD;rw[U]at e;obtain⟨c,t,fr,g,_,O,_⟩|⟨_,o,g,O⟩:=hF.plain.blk vb hD;{rw[e]at g;cases g;exact O 0 0 rfl};{rw[e]at g;cases g;exact O.1 _ _ _ rfl}
 have hw:=Z.NQ.world;have hold:∀b n,π b n->n<w.heap.size/\¬Sh n:=λb n z=>⟨CW hw z,Z.off b n z⟩;obtain⟨M,fw⟩:∃M,0<N->C=aA ⟨M,o,aB⟩/\π bp M:=by
  by_cases h0:0<N
  .have Is:=Is h0;rw[hF.my h0]at Is;cases Is with
   | @some _ a' ha=>obtain⟨n,o',s'⟩:=a';obtain⟨g,K,O⟩:=ha;dsimp only at g K O;subst K;subst O;exact⟨n,λ_=>⟨rfl,g⟩⟩
  .exact⟨0,λh=>absurd h h0⟩
 have vi:∀k,0<N->(v.re w.tape w.drawn).cell? ⟨bp,k,aB⟩=u.cell? ⟨bp,k,aB⟩:=λk h0=>by obtain⟨g,K⟩:=hF.ai h0;simp only[World.cell?];rw[B.old bp (jY.lt B g K)];rfl
 have hq0:∀i,∃s,i<N->vF π (pt i) s/\w.cell? ⟨M,o+i,aB⟩=aA (.pointer s):=λi=>by
  by_cases hi:i<N
  .obtain⟨x,x',g,K,O⟩|⟨g,_⟩:=hw.cell (a:=⟨bp,o+i,aB⟩) (a':=⟨M,o+i,aB⟩) ⟨(fw (by omega)).2,rfl,rfl⟩
   .rw[vi _ (by omega),hF.q0 i hi]at g;cases g;cases O with
    |pointer h=>exact⟨_,λ_=>⟨h,K⟩⟩
   .rw[vi _ (by omega),hF.q0 i hi]at g;cases g
  .exact⟨aB,λh=>absurd h hi⟩
 obtain⟨uz,jy⟩:=Classical.skolem.1 hq0;obtain⟨c0,m,rfl⟩:∃c0 m,own=c0::m:=by
  cases own with
  |nil=>exact absurd rfl Xx
  |cons a l=>exact⟨a,l,rfl⟩
 obtain⟨c,cs,rfl,hc0,eh⟩:=LC Z.NQ.own;have fh:∀i,(PK++aD5 (18-PK.size) aEn).getD i aEn=(full #[iE I,iV C N cp]).getD i aEn:=λi=>by rw[TT,<-hx',TT]
 have FQ:18<=(PK++aD5 (18-PK.size) aEn).size:=by simp;omega
 have Ya:(PK++aD5 (18-PK.size) aEn).getD 0 aEn=iE I:=by rw[fh,zAu,TX];rfl
 have ko:(PK++aD5 (18-PK.size) aEn).getD 1 aEn=iV C N cp:=by rw[fh,zAu,TW];rfl
 have xx:=Z.lv;rw[Qz.back]at xx;rw[Qz.back,Yq]at hg;generalize PK++aD5 (18-PK.size) aEn=tm at hg Ya ko FQ;have ot:tA Sh gs w t q (G (tN tm [.code qX]) (c::cs)):=⟨hg,xx,Z.calm,Z.IU⟩;obtain⟨n1,Tn,w1,jh,t1,q1,g1,r1,z1,st1,rfl,d1,rfl⟩:=iD (sl:=sl) (S:=λg' w'=>g'=G (Frame.enter Tryz.prog 240 #[iV C N cp,.func (.func 236) #[iE I] #[]] .normal) (tN (t3 tm (iE I) (iV C N cp)) [aN (sH 0) [3,4,5],.code Hn]::c::cs)/\∃d,w'=w.at d) ot (zAb _) (mx Ya ko FQ λw₁ r=>⟨⟨rfl,by obtain⟨d,rfl⟩:=r;exact⟨d,rfl⟩⟩,by obtain⟨d,rfl⟩:=r;rfl⟩);let X:Gc:={w:=w.at d1,Sh,N,bp:=M,o,cp,f:=236,first:= #[iE I],cap:= #[],pt:=uz,Rw:=λi q l cp h w=>Made DW π (rows i) q l cp h w,rwr:=λx hk=>Made.keep x hk,m0:=Tn.size,c:=tN (t3 tm (iE I) (iV C N cp)) [aN (sH 0) [3,4,5],.code Hn],cs:=c::cs,pa:=C}
 have hwd:bQ zq (Qz.Aj vb) Go.Ren.K0 π (v.re w.tape d1) (w.at d1):=(Z.NQ.rely (w₁:=w.at d1) rfl ⟨λ_ _ _=>rfl,zAb _,rfl⟩).world;obtain⟨n2,gh,w2,jg,t2,q2,bo,Iz,r2,g2,L2,C2,K2,xk,fy,Th,vg,ec⟩:=TU (X:=X) (sl:=jh) hF.lt Z.IU (λi hi=>(jy i hi).2) (λh0=>hold bp M (fw h0).2) (λh0=>(fw h0).1) func236 (by decide) (by simp[f236])
  (λi hi J br w' g O K=>by
   have:=hF.PS (λk hk hD=>er (by rw[<-Qz.QB hk];exact hD)) (v:=v.re w.tape d1) og hwd (old:=X.old) hold hi qw (jy i hi).1 J br w' g O K;have e:X.first.push (.pointer (X.pt i))++X.cap= #[.pointer (aA ⟨I,0,aB⟩),.pointer (uz i)]:=by simp[X]
   rw[e];exact this) rfl st1.td st1.lv st1.calm
 have sk:X.B0=w.heap.size:=rfl;have hK2:=K2.size;have Xw:∀i,∃y:(zO×Nat×Nat)×List (Nat×ByteArray),i<N->Iz[i]? =aA (.slice y.1.1 y.1.2.1 y.1.2.2)/\nY (λb n=>DW b/\π b n) (rows i) y.2/\fJ y.2 y.1.1 y.1.2.1 w2/\∀a,y.1.1=aA a->X.B0+6<=a.block/\a.block≠bo/\a.block<w2.heap.size:=λi=>by by_cases hi:i<N;{obtain⟨q,l,cp,h,g,K,cF,O,h4,h5⟩:=ec i hi;exact⟨((q,l,cp),cF),λ_=>⟨g,O,h4,λa ha=>K _ (h5 a ha)⟩⟩};{exact⟨((aB,0,0),[]),λh=>absurd h hi⟩}
 obtain⟨y,hy⟩:=Classical.skolem.1 Xw;have hrel:∀i,i<N->∀P∈(y i).2,∃p∈rows i,DW p.1/\π p.1 P.1:=λi hi P F=>by have hl:=sN (hy i hi).2.1;obtain⟨j,hj,e⟩:=List.getElem_of_mem F;have Vd:j<(rows i).length:=by{omega};have:=hl.2 j (rows i)[j] P (zAi Vd) (by rw[zAi hj,e]);exact⟨_,zDo Vd,this.1.1,this.1.2⟩
 have ou:∀b,X.VK b->b<w.heap.size\/b=w.heap.size+5\/b=w.heap.size+1\/b=w.heap.size+3:=Gc.yK Z.IU;have ew:∀n,(∃b,π b n)->¬X.VK n:=λn ⟨b,z⟩ h=>by have g:=hold b n z;obtain h|h:=h;{exact g.2 h};{have:=g.1;omega}
 have ry:∀d,Ls X.VK (λi=>(y i).2) bo N (λi=>(y i).1) (w2.at d):=λd=>by
  refine⟨hF.lt,λi hi=>(bC (w:=w2.at d) Th i).trans (hy i hi).1,λi hi=>⟨(hy i hi).2.2.1,?_,λP F=> ?_,λhn a ha=> ?_⟩,⟨λh=> ?_,fy⟩,λi hi P F=>⟨?_,λj hj a ha _=> ?_⟩⟩;{rw[(sN (hy i hi).2.1).1];exact hF.PN i hi};{obtain⟨p,hp,hD,E⟩:=hrel i hi P F;refine⟨ew _ ⟨_,E⟩,?_⟩;obtain⟨_,cs0,g,K⟩:=hF.cell i hi p hp;rw[og _ hD]at g;obtain⟨cs',O,h4⟩:=Of hw E (show(v.re w.tape w.drawn).heap[p.1]? =_ from g);exact⟨cs',(K2.heap _ (hold _ _ E)).trans O,by omega⟩}
  .have g:=(hy i hi).2.2.2 a ha;refine⟨λh=> ?_,g.2.2,λP F e=> ?_⟩
   .obtain h|h|h|h:=ou _ h<;>omega
   .obtain⟨p,hp,hD,E⟩:=hrel i hi P F;have:=(hold _ _ E).1;omega
  .obtain h|h|h|h:=ou _ h<;>omega
  .obtain⟨p,hp,hD,E⟩:=hrel i hi P F;have:=(hold _ _ E).1;omega
  .obtain⟨p,hp,hD,E⟩:=hrel i hi P F;have:=(hold _ _ E).1;have g:=(hy j hj).2.2.2 a ha;omega
 have oq:tA X.VK gh w2 t2 q2 (G ((tN (t3 tm (iE I) (iV C N cp)) [aN (sH 0) [3,4,5],.code Hn]).finish (.slice (aA ⟨bo,0,aB⟩) N N)) (c::cs)):=⟨g2,L2,C2,λb z=>by obtain h|h|h|h:=ou _ z<;>omega⟩;obtain⟨n3,sr,w3,sl3,zz,q3,g3,r3,z3,st3,⟨Qu,rfl,hT3⟩,d3,rfl⟩:=iD (sl:=jg) (S:=λg' w'=>(∃tm',g'=G (tN tm' (.code IC::K3)) (c::cs)/\T9 tm' bo N 0)/\∃d,w'=w2.at d) oq (zAb _) (fp (A:=iE I) (Bv:=iV C N cp) FQ hF.lt λtm' w₁ r hT=>⟨⟨⟨tm',rfl,hT⟩,by obtain⟨d,rfl⟩:=r;exact⟨d,rfl⟩⟩,by obtain⟨d,rfl⟩:=r;rfl⟩);obtain⟨n4,yg,w4,ur,t4,q4,g4,r4,z4,jf,rfl,H⟩:=FF (ry d3) N 0 (by omega) Qu sr (w2.at d3) sl3 zz q3 hT3 dW.nil st3;have ez:=Sw Yf hF xh B Y ⟨hc.frame,.nil,hc.world,hc.nj⟩;obtain⟨Yl,l2,u2,D2,hS,hc2,hD2,hE2,V⟩:=Lone.QH Qz.iU (T:=Go.Ren.AtEnd zq R kS) (cs:=c0::m) (λ_ _ _ hs=>eO hs) ez ⟨hc.frame,.nil,fW hc.world ab _ _ _ _ (λ_ _=>rfl),hc.nj⟩ (hE.re (λ_ _ _ τ d h=>h.re τ d) (λ_ _=>1) 0);obtain⟨rfl,x,Gi,hrw⟩:=hS;obtain⟨hx,Q⟩:=hrw u2.tape u2.drawn;subst hx;have af:=jK v aF;have L:∀b,b<v.heap.size->u2.heap[b]? =(cT (allRows rows N) v).heap[b]? :=λb z=>(Q.heap b (zAd z af.size)).trans (fO _ (af.old b z));have oo:v.heap.size<=u2.heap.size:=zBb af.size Q.size;have pb:u2.os=v.os:=Q.os;have hnT:¬Go.Ren.AtEnd zq R kS Yl ([]++c0::m) u2:=λh=>by obtain h|h:=h;{cases h.1};{cases h.1}
 obtain⟨⟨D1,xj⟩,si,pc⟩:=YG hnT hE2 (by have:=Gi u2.tape u2.drawn;rwa [gG]at this);have vr:nY π (allRows rows N) (allRows (λi=>(y i).2) N):=BL λi hi=>CH (sN (hy i hi).2.1).1 λj a a' ha ah=>let h:=(sN (hy i hi).2.1).2 j a a' ha ah;⟨h.1.2,h.2⟩;have hpw:=Iv hw vr;have W:=hw.low;have ov:w2.heap.size<=w4.heap.size:=H.size;have h4:∀b n,π b n->w4.heap[n]? =(cT (allRows (λi=>(y i).2) N) w).heap[n]? :=λb n z=>by have g:=hold b n z;exact(H.heap n (show n<w2.heap.size by omega)).trans (fO _ (K2.heap n g))
 have vf:bQ zq (Qz.Aj vb) Go.Ren.K0 π (u2.re w4.tape w4.drawn) w4:=yB hpw (λb n z=>(L b (CX hw z)).trans (fO _ rfl)) h4 (by have h:=W.1;show _<u2.heap.size;have K:(v.re w.tape w.drawn).heap.size=v.heap.size:=rfl;omega) (by have:=W.2;omega) ((H.os.trans K2.os).trans (hw.os.trans pb.symm)) (λ_=>rfl);have ox:runNT Tryz.prog (n1+(n2+(n3+n4))) (crowd gs w sl) t=(.next (crowd yg w4 ur),t4):=by rw[runNT_add,r1];dsimp only;have r2':runNT Tryz.prog n2 (crowd Tn (w.at d1) jh) t1=(.next (crowd gh w2 jg),t2):=r2;rw[runNT_add,r2'];dsimp only;rw[runNT_add,r3];exact r4
 refine⟨n1+(n2+(n3+n4)),yg,w4,ur,t4,q4,X.VK,π,c0.finish (.tuple #[]),m,u2,D1,c.finish (.tuple #[]),cs,by rw[Qz.back];exact ox,jf.td,⟨by rw[Qz.back];exact jf.lv,jf.calm,jf.IU,⟨hc0.finish (.tuple rfl λi v v' h _=>by simp at h),eh,vf⟩,λb n z=>ew n ⟨b,z⟩,λb z=> ?_⟩,xj,si,⟨H.tape.trans K2.tape,H.os.trans K2.os,H.output.trans K2.output⟩,?_,?_,⟨λ_ _ h=>h,by omega,λn z g K=>⟨?_,g,λh=> ?_⟩⟩⟩
 .obtain rfl:=Qz.QB z;have pw:=(zAa.1 U).1;refine⟨oe,(L b pw).trans ((gO _ λp hp e=> ?_).trans U)⟩;obtain⟨i,hi,hp⟩:=gE hp;exact er (by rw[<-e];exact(hF.cell i hi p hp).1)
 .right;obtain e|V:=V
  .exfalso;have e1:Yl=Frame.enter zq 233 xs .normal:=congrArg (λs:Ic=>s.1) e;have:=(Gi u2.tape u2.drawn).1;rw[e1]at this;cases this
  .exact Sub.base (eO (l:=[]) (cs:=c0::m) (aH rfl)) (.more pc V)
 .obtain⟨D',oz,Zx⟩:∃D',fZ (cJ ⟨zq.toTables,Qm.prog.funcs⟩ Qm.Al Go.Ren.K0 (cC D')) (c0::m) (c0::m)/\bQ ⟨zq.toTables,Qm.prog.funcs⟩ Qm.Al Go.Ren.K0 (cC D') v v:=by
   obtain⟨D',h⟩|⟨D',_,_,g,K⟩:=hi;{exact⟨D',h.own,h.world⟩};{exact⟨D',g,K⟩}
  obtain⟨a',k',e,xg,hf1⟩:=LC oz;cases e;have hp2:=JP (allRows rows N) Zx;have aa:∀b n,cC D' b n->u2.heap[b]? =(cT (allRows rows N) v).heap[b]? :=λb n z=>L b (CX Zx z);refine⟨D',xg.finish (.tuple rfl λi v v' h _=>by simp at h),hf1,yB hp2 aa (λb n z=>by rw[<-z.1];exact aa b n z) (by have:=Zx.low.1;omega) (by have:=Zx.low.1;omega) rfl (λ_=>rfl),Qm.nj⟩
 .rw[H.heap n (show n<w2.heap.size by omega),gO _ λP F e=> ?_]
  .exact K2.heap n ⟨z,K⟩
  .obtain⟨i,fb,F⟩:=gE F;obtain⟨p,_,_,E⟩:=hrel i fb P F;rw[e]at E;exact g _ E
 .obtain h|h:=h
  .exact K h
  .omega
end
abbrev AJ (vb:Nat):zF:=λf=>f=1000000\/f=1000002+vb
abbrev AS:zF:=λf=>f=1000001
abbrev AB (N:Nat):zF:=λf=>f=1000001\/f=1000002+N
structure Start (D:zP)(V W:zW):Prop where
 gK:∀b,b<=Tryz.prog.globals.size->D b
 lt:∀b,D b->b<W.heap.size
 size:V.heap.size=W.heap.size+1
 Vk:V.heap[W.heap.size]? =aA (aJ #[.int aQ 0] 0 (0,0))
 tape:W.tape=V.tape
 drawn:W.drawn=V.drawn
 os:W.os=V.os
 out:W.output=V.output
 blk:∀b,D b->(∃c c' t fr,V.heap[b]? =aA (aJ c t fr)/\W.heap[b]? =aA (aJ c' t fr)/\aZ (AJ W.heap.size) (cC D) c c'/\aZ AS (cC λx=>D x\/x=W.heap.size) c c)\/(b<=Tryz.prog.globals.size/\∃o,V.heap[b]? =aA o/\W.heap[b]? =aA o/\BW o)
structure Beside (D:zP)(N:Nat)(U V:zW):Prop where
 size:U.heap.size=V.heap.size
 os:V.os=U.os
 blk:∀b,D b->(∃c c' t fr,U.heap[b]? =aA (aJ c t fr)/\V.heap[b]? =aA (aJ c' t fr)/\aZ (AB N) (cC D) c c')\/(b<=Tryz.prog.globals.size/\∃o,U.heap[b]? =aA o/\V.heap[b]? =aA o/\BW o)
def bG.al {Al A π}(g:∀f,Al f->A f){x y}(h:bG Al π x y):bG A π x y:=by
 induction h with
 |bool b=>exact .bool b
 |int i n=>exact .int i n
 |string s=>exact .string s
 |pointer h=>exact .pointer h
 |slice h n c=>exact .slice h n c
 |func k e p j _ _ i3 i4=>exact .func (g _ k) e p j i3 i4
 |nilFunc=>exact .nilFunc
 |iface t _ d=>exact .iface t d
 |nilIface=>exact .nilIface
 |iT=>exact .iT
 |gH=>exact .gH
 |agg e _ d=>exact .agg e d
 |tuple e _ d=>exact .tuple e d
 |junk o h=>exact .junk (g _ o) h
 |same m x=>exact .same (g _ m) x
 |void l a=>exact .void (g _ l) a
def aZ.al {Al A π}(e:∀f,Al f->A f){x y}(h:aZ Al π x y):aZ A π x y:=⟨h.size,λi a b d c=>bG.al e (h.at' i a b d c)⟩
def two {Al:zF}{a b}(h:Al a/\Al b)(f)(x:f=a\/f=b):Al f:=x.elim (λe=>e▸h.1) λe=>e▸h.2
section
variable {P:zZ}{Al:zF}{D:zP}{U V W:zW}{N:Nat}
theorem Mm {E}(h:∀b,b<=P.globals.size->E b):Ok P (cC E):=⟨λ{a f b e} h1 d=>by rw[h1.1,d.1],λ{b e} h1 _=>h1.1,λb c=>⟨rfl,h b c⟩⟩
def Start.low (h:Start D V W):Tryz.prog.globals.size<W.heap.size:=h.lt _ (h.gK _ (zAb _))
def Start.self (i:Al 1000001)(h:Start D V W)(k:P.globals.size=Tryz.prog.globals.size):bQ P Al Go.Ren.K0 (cC λx=>D x\/x=W.heap.size) V V:=by
 refine⟨Mm λb a=>aH (h.gK b (by omega)),λb l a=> ?_,λ_ _=>rfl,λb a=>a.elim,by have:=h.low;have:=h.size;omega,rfl,λb a=>a.elim⟩;obtain⟨e,f⟩:=a;subst e;obtain f|rfl:=f
 .obtain⟨c,c',t,fr,g,_,_,d⟩|⟨g,o,d,_,j⟩:=h.blk b f
  .exact aH ⟨c,c,t,fr,fr,g,g,aZ.al (λ_ x=>by rw[x];exact i) d,λx=>x.elim,λ_=>rfl,λx=>x.1.elim⟩
  .exact aI (aH ⟨by omega,o,d,d,j⟩)
 .exact aH ⟨_,_,_,_,_,h.Vk,h.Vk,.one (.int _ _),λx=>x.elim,λ_=>rfl,λx=>x.1.elim⟩
def Start.Iw (j:Al 1000000/\Al (1000002+W.heap.size))(h:Start D V W)(l:P.globals.size=Tryz.prog.globals.size):bQ P Al Go.Ren.K0 (cC D) V W:=by
 refine⟨Mm λb a=>h.gK b (by omega),λb m a=> ?_,λ_ _=>by rw[h.tape,h.drawn],λb a=>a.elim,by have:=h.low;have:=h.size;omega,h.os,λb a=>a.elim⟩;obtain⟨e,i⟩:=a;subst e;obtain⟨c,c',t,fr,g,f,d,_⟩|⟨g,o,d,f,k⟩:=h.blk b i
 .exact aH ⟨c,c',t,fr,fr,g,f,aZ.al (two j) d,λx=>x.elim,λ_=>rfl,λx=>x.1.elim⟩
 .exact aI (aH ⟨by omega,o,d,f,k⟩)
def Beside.Iw (m:Al 1000001/\Al (1000002+N))(f:Start D V W)(h:Beside D N U V)(p:P.globals.size=Tryz.prog.globals.size)(j)(d):bQ P Al Go.Ren.K0 (cC D) (U.re j d) (V.re j d):=by
 refine⟨Mm λb a=>f.gK b (by omega),λb q a=> ?_,λ_ _=>rfl,λb a=>a.elim,?_,h.os,λb a=>a.elim⟩
 .obtain⟨e,l⟩:=a;subst e;obtain⟨c,c',t,fr,k,i,g⟩|⟨k,o,g,i,n⟩:=h.blk b l
  .exact aH ⟨c,c',t,fr,fr,k,i,aZ.al (two m) g,λx=>x.elim,λ_=>rfl,λx=>x.1.elim⟩
  .exact aI (aH ⟨by omega,o,g,i,n⟩)
 .show _<U.heap.size/\_<V.heap.size;have:=f.low;have:=f.size;have:=h.size;omega
end
def Qz.gK:zq.globals.size=Tryz.prog.globals.size:=by rw[Qz.iH]
def Ll {fr v}(h:Apart zq Qm.prog.funcs Qm.Al fr [] v){c}(d:fr.mode= .panicking c)(g:kS c v):False:=by
 obtain⟨D,i⟩:=h;obtain⟨N,pa,bp,o,cp,j,k,pt,rows,e,_⟩:=g;have a:=i.frame.mode;rw[d,e]at a;cases a with
 |panicking h=>
  cases h with
  |cons h _=>
   have b:=h.1;dsimp only at b;cases b with
   |iface _ b=>
    cases b with
    |func f=>exact Qm.dj f
def Qz.Xm {k f fn}(h:Qz.Ak k f)(c:zq.funcs[f]? =aA fn):zq.inits.idxOf? f=aB:=by
 have b:((List.range 254).all λf=> !Qz.al f||(Tryz.prog.inits.idxOf? f).isNone)=aF:=by kernel_rfl
 have bT:f<254:=by have a:=(zAa.1 c).1;rw[DN.1]at a;exact a
 rw[Qz.iH];have h:(bif decide (f<254)then Qz.al f else(f==900219||k f))=aF:=h;rw[Ch (k:=λf=>f==900219||k f) bT]at h;have a:=zCb.1 b f (zCi.2 bT);rw[h]at a;simpa using a
def kS.re {c u}(h:kS c u)(b)(d):kS c (u.re b d):=by obtain⟨N,pa,bp,o,cp,f,D,pt,rows,e,a,hF⟩:=h;exact⟨N,pa,bp,o,cp,f,D,pt,rows,e,a,hF.re b d⟩
def Qm.Cj (K)(h:∀b,¬K b):cB ⟨zq.toTables,Qm.prog.funcs⟩ Qm.Al K:=by rw[Qz.Vn];exact Qm.iU K h
section
variable {R:zR}
def jump {vb}(d:xY)(f)(xs x)(k:CallKind)(own own')(v)(D)(Sh)(gs)(w)(t)(q)(sl)(π)(e:Tryz.prog.funcs[f]?≠zq.funcs[f]?)(j:xs.size<=20)(g:k= .normal\/Qz.Aj vb (900000+f))
  (hi:Apart zq Qm.prog.funcs Qm.Al (Frame.enter zq f xs k) own v\/AI zq Qm.prog.funcs Qm.Al f xs own v) (n:Main zq Tryz.prog.funcs (Qz.Aj vb) Sh gs w t q π (Frame.enter zq f xs k) own v (Frame.enter zq f x k) own') (l:gs[0]? =aA (G (Frame.enter ⟨zq.toTables,Tryz.prog.funcs⟩ f x k) own')) (c:own≠[]) (m:Closed zq Qz.Al D (Frame.enter zq f xs k) own v)
  (a:Go.Ren.Ends zq Qz.Al (Go.Ren.AtEnd zq R kS) (Frame.enter zq f xs k) own v):PF zq Tryz.prog.funcs Qz.Al (Qz.Aj vb) R kS (Apart zq Qm.prog.funcs Qm.Al) (Frame.enter zq f xs k,own,v) Sh π gs w sl t:=by
 have b:=zBm λh=>e (Qz.same h).symm;obtain rfl|rfl|rfl|rfl|rfl|rfl|rfl|rfl|rfl:=b
 .exact Te j hi n l m a
 .exact Td d j g hi n l c m a
 .obtain⟨_,h⟩|⟨_,i,_⟩:=hi
  .exact absurd h.frame.al Qm.Ux
  .exact absurd i Qm.Ux
 .exact(refused Qz.func149 rfl a).elim
 .exact(refused Qz.func150 rfl a).elim
 .exact(refused Qz.func151 rfl a).elim
 .exact(refused Qz.func152 rfl a).elim
 .exact(refused Qz.func153 rfl a).elim
 .exact(refused Qz.func154 rfl a).elim
def Left (R:zR)(D:zP)(W:zW)(b:zY)(w':zW):Prop:=
 ∃x v a S,R x v/\bG (Qz.Aj W.heap.size) a x b/\bQ zq (Qz.Aj W.heap.size) Go.Ren.K0 a (v.re w'.tape w'.drawn) w'/\qB (cC D) (λ_=>False) W a S w'/\w'.tape=W.tape/\w'.os=W.os/\w'.output=W.output/\∀c,¬a W.heap.size c
def Rq (Yf:xY){f args V W D}(L:Qm.Al f)(bT:f<254)(s:¬Qz.iS f)(ha:aZ (λ_=>False) (cC D) args args)(m:Start D V W)(hR:∀x u n d,R x u->R x (u.re n d))
  (h:∀n d,Calls zq f args (V.re n d) λe w'=>(∃x,e=aM x/\R x w')\/∃c,e= .panicked c/\kS c w')
  (hU:∀N,V.heap.size<=N->∃U R',Beside D N U V/\(∀w',¬R' .outgrown w')/\∀n d,Calls zq f args (U.re n d) R'):
  ∃M last o w' t',runNT Tryz.prog (M+1) (solo (G (Frame.enter Tryz.prog f args .normal) []) W) #[]=(.ended o w',t')/\runN Tryz.prog M (solo (G (Frame.enter Tryz.prog f args .normal) []) W)= .next last/\step Tryz.prog last= .ended o w'/\Conc.Good Tryz.prog (Left R D W) last o w' t':=by
 have g:∀b,¬Go.Ren.K0 b:=λb h=>h;have hf:=Qm.sub L;have Z:∀b p,cC D b p->cC (λx=>D x\/x=W.heap.size) b p:=λb p h=>⟨h.1,aH h.2⟩;have X:aZ Qz.Al (cC λx=>D x\/x=W.heap.size) args args:=(aZ.al (λ_ x=>x.elim) ha).mono Z;have haM:aZ Qm.Al (cC λx=>D x\/x=W.heap.size) args args:=(aZ.al (λ_ x=>x.elim) ha).mono Z;have haJ:aZ (Qz.Aj W.heap.size) (cC D) args args:=aZ.al (λ_ x=>x.elim) ha;have hfj:Qz.Aj W.heap.size f:=Qz.other bT hf;have I:=m.self Qz.Yd Qz.gK;have y:=GD Qz.nj Qz.iU hf X I (E:=kS) hR (λ_ _ n d h=>kS.re h n d) h;have hI:=ZY (Q:=zq) (fs:=Tryz.prog.funcs) (fm:=Qm.prog.funcs) (Al:=Qz.Al) (Am:=Qm.Al) Qz.Wz Qz.mq (Qz.iU _ g) Qm.Cj λf Xx=>by
   by_cases F:f=233;{rw[F];exact Qz.dk}
   .by_cases C:f=170
    .rw[C];exact Qz.dm
    .exact absurd (Qm.same F C) Xx
 have hfr:=qR (P:=zq) f args;have T:Closed zq Qz.Al (λx=>D x\/x=W.heap.size) (Frame.enter zq f args .normal) [] V:=⟨cJ.enter (Qz.iU _ g) hf X (aH rfl),.nil,I,Qz.nj⟩;have hcM:Closed ⟨zq.toTables,Qm.prog.funcs⟩ Qm.Al (λx=>D x\/x=W.heap.size) (Frame.enter zq f args .normal) [] V:=by
  have e:Frame.enter zq f args .normal=Frame.enter ⟨zq.toTables,Qm.prog.funcs⟩ f args .normal:=by have F:f≠233:=λe=>s (by rw[e];decide);have C:f≠170:=λe=>s (by rw[e];decide);unfold Frame.enter;rw[Qm.same F C]
  rw[e];exact⟨cJ.enter (Qm.Cj _ g) L haM (aH rfl),.nil,m.self Qm.Yd Qz.gK,Qm.nj⟩
 have w:Main zq Tryz.prog.funcs (Qz.Aj W.heap.size) (λ_=>False) #[G (Frame.enter Tryz.prog f args .normal) []] W #[] (λ_=>0) (cC D) (Frame.enter zq f args .normal) [] V (Frame.enter zq f args .normal) []:=
  ⟨leavers_one _ _,⟨⟨past_nil.clean,λi a F C=>(past_nil.known i a F C).imp id λx=>x.1.elim,past_nil.over,past_nil.hears,by simp⟩,λb j=>j.elim⟩,λb j=>j.elim,⟨cJ.enter (Qz.xV _ _ g) hfj haJ (aH rfl),.nil,by
   have e:V.re W.tape W.drawn=V:=by rw[m.tape,m.drawn,gG]
   rw[e];exact m.Iw ⟨Qz.ri,Qz.Yc⟩ Qz.gK⟩,λb p _ h=>h,λb j=>by obtain rfl:=Qz.QB j;exact⟨λp h=>absurd (m.lt _ h.2) (zDy _),m.Vk⟩⟩
 have hH:=Sk (P:=zq) (Al:=Qz.Al) (S:=Go.Ren.AtEnd zq R kS) Qz.iU T (A2:=Qz.Aj W.heap.size) (vb:=W.heap.size) (λk B=>Qz.QB B) (by have:=m.size;omega) λN hN=>by
  obtain⟨U,R',j,hR',hC⟩:=hU N hN;exact⟨Qz.Ab N,U,cC D,R',Qz.xV _ _ g,Qz.other bT hf,Qz.nbj,λk B=>Qz.aw B,aZ.al (λ_ x=>x.elim) ha,λn d=>j.Iw Qz.hasB m Qz.gK n d,j.size,λb p h=>h.1,λb p h e=>by rw[<-h.1]at e;subst e;exact absurd (m.lt _ h.2) (zDy _),hR',hC⟩
 obtain⟨N,Tn,w1,jh,t1,q1,z,H,fr1,v,q,r1,g1,A,hAt,⟨et,eo,eu⟩,K,t⟩:=Fo (Inv:=Apart zq Qm.prog.funcs Qm.Al) (InvE:=AI zq Qm.prog.funcs Qm.Al) Qz.shape Qz.res Qz.iU (Qz.xV _ _ g) hI (jump Yf) hH y (aH rfl) (λ_=>False) #[G (Frame.enter Tryz.prog f args .normal) []] W #[] (λ_=>0) aB (cC D) (λx=>D x\/x=W.heap.size) (Frame.enter zq f args .normal) [] w (by rw[GB s];rfl) T ⟨_,hcM⟩;rw[Qz.back]at r1;have Y:=A.lv;rw[Qz.back]at Y;obtain⟨_,x,hx,hr⟩|⟨_,_,c,hm,he⟩:=hAt;rotate_left
 .exact(Ll K hm (by have:=he v.tape v.drawn;rwa [gG]at this)).elim
 have O:Goes Tryz.prog aF Go.Conc.AtRel (λ_ _ _=>False) (Go.Conc.AtEnd Tryz.prog (λl=>∃b,blk l=aA b/\z b) w1.heap.size (Left R D W)) 0 (G q []) w1:=λw₁ r=>by obtain⟨d,rfl⟩:=r;have B:VM zq (Qz.Aj W.heap.size) Go.Ren.K0 H fr1 [] v q [] (w1.at d):=A.NQ.rely rfl ⟨λ_ _ _=>rfl,zAb _,rfl⟩;obtain⟨x',es,hv,_,J,Mp⟩:=Mf Qz.shape rfl B hx (Qz.res _) (let⟨_,_,_,_,q4,_⟩:=hx v.tape v.drawn;Qz.Xm A.NQ.frame.al q4);rw[Qz.back]at J;refine⟨rfl,x',es,J,λe he=>No (Sh:=z) (λb p j=>⟨A.off b p j,CW A.NQ.world j⟩) (Mp e he),x,v,H,z,?_,hv,B.world,⟨t.sub,t.size,t.still⟩,et,eo,eu,(A.Vk _ Qz.Yc).1⟩;have:=hr v.tape v.drawn;rwa [gG]at this
 obtain⟨N2,last,o,w',t',r2,r3,r4,r5⟩:=beside_ends (λ_ _ _ h=>h.elim) (sl:=jh) g1 Y A.calm.past O;have hs:solo (G (Frame.enter Tryz.prog f args .normal) []) W=crowd #[G (Frame.enter Tryz.prog f args .normal) []] W aB:=rfl;refine⟨N+N2,last,o,w',t',?_,?_,r4,r5⟩
 .rw[hs,zCh,runNT_add,r1];exact r2
 .rw[hs,<-runNT_fst _ _ _ #[],runNT_add,r1];rw[runNT_fst];exact r3
end
open Go.RowKit Go.Proofs Go.Ren Go.Conc
section
variable {N:Nat}{pa:zO}{bp o cp bt:Nat}{D:zP}{pt:Nat->zO}{rows:Nat->List (Nat×ByteArray)}{W W':zW}
def Et (hF:Fork N pa bp o bt D pt rows W)(g:vE W)(k:N<=cp):Calls zq 233 #[iE bt,iV pa N cp] W λe W'=>
  (e=aM (.tuple #[])/\dW (allRows rows N) W W')\/(e= .panicked (told (full #[iE bt,iV pa N cp]))/\Fl W'/\jY W (cS W')/\zb W (cS W')):=by
 intro cs;have m:(full #[iE bt,iV pa N cp]).size=43:=jS (by simp);have h:=jK W aF;have j:Frame.enter zq 233 #[iE bt,iV pa N cp] .normal=eR (full #[iE bt,iV pa N cp]) [.code Qz.qX]:=by rw[yW];rfl
 rw[j];by_cases n:XB W.tape W.drawn=0
 .obtain⟨fr,own,F,⟨l,C,r,B,A⟩,a⟩:=Lone.steps (JR (cs:=cs) (v:=W) (S:=λfr own u=>own=[]/\u=(VO (boxed W aF)).re W.tape (W.drawn+1)/\fr.fn=233/\fr.mode= .panicking (told (full #[iE bt,iV pa N cp]))/\fr.defers=[]) W.tape W.drawn n g m λfr y t s _=>⟨rfl,rfl,y,t,s⟩);subst l;subst C;have p:=(iN (GS (kL g.cell) aF W.tape W.drawn)).1.trans g.cell;have q:cS ((VO (boxed W aF)).re W.tape (W.drawn+1))=(boxed W aF).re W.tape (W.drawn+1):=congrArg (λu:zW=>u.re W.tape (W.drawn+1)) (JW (v:=boxed W aF) p);exact⟨.panicked (told (full #[iE bt,iV pa N cp])),(VO (boxed W aF)).re W.tape (W.drawn+1),fr,aI ⟨rfl,Na (v:=boxed W aF) p,by rw[q];exact⟨h.size,h.old,h.new⟩,by rw[q];exact⟨rfl,rfl,rfl,h.size,h.old⟩⟩,a,r,B,A,Qz.f233,by rw[r];exact Qz.func233⟩
 .have E:(full #[iE bt,iV pa N cp]).getD 0 aEn=iE bt:=by{rw[zAu,TX];rfl};have l:(full #[iE bt,iV pa N cp]).getD 1 aEn=iV pa N cp:=by rw[zAu,TW];rfl
  have f:=Bz N pa bp o cp bt D pt rows W hF k ((boxed W aF).re W.tape (W.drawn+1)) λb c=>by
   have bT:b<W.heap.size:=by obtain c|⟨g,rfl⟩:=c;{exact nM hF.plain c};{exact(hF.ai g).1}
   exact h.old b bT
  have z:Calls zq 170 #[(full #[iE bt,iV pa N cp]).getD 0 aEn,(full #[iE bt,iV pa N cp]).getD 1 aEn] ((boxed W aF).re W.tape (W.drawn+1)) λe W'=>(∃x,e=aM x)/\dW (allRows rows N) ((boxed W aF).re W.tape (W.drawn+1)) W':=by rw[E,l];exact f
  obtain⟨w,fr,d,a,i,hl⟩:=UR (v:=W) m W.tape W.drawn n (R:=dW (allRows rows N) ((boxed W aF).re W.tape (W.drawn+1))) z cs;refine⟨aM (.tuple #[]),w,fr,aH ⟨rfl,zBb h.size d.size,λb c=> ?_,d.os,d.tape,d.output⟩,a,i,hl⟩;exact(d.heap b (zAd c h.size)).trans (fO _ (h.old b c))
end
end Go.Ga
namespace Go.Proofs
open Go.Ga
@[simp]def Qz.call13:=Qz.cl func13
@[simp]def Qz.call14:=Qz.cl func14
@[simp]def Qz.call15:=Qz.cl func15
@[simp]def Qz.call19:=Qz.cl func19
@[simp]def Qz.call20:=Qz.cl func20
@[simp]def Qz.call22:=Qz.cl func22
@[simp]def Qz.call23:=Qz.cl func23
@[simp]def Qz.call25:=Qz.cl func25
@[simp]def Qz.call26:=Qz.cl func26
@[simp]def Qz.call33:=Qz.cl func33
@[simp]def Qz.call34:=Qz.cl func34
@[simp]def Qz.call35:=Qz.cl func35
@[simp]def Qz.call36:=Qz.cl func36
@[simp]def Qz.call37:=Qz.cl func37
@[simp]def Qz.call38:=Qz.cl func38
@[simp]def Qz.call39:=Qz.cl func39
@[simp]def Qz.call40:=Qz.cl func40
@[simp]def Qz.call41:=Qz.cl func41
@[simp]def Qz.call52:=Qz.cl func52
@[simp]def Qz.call53:=Qz.cl func53
@[simp]def Qz.call54:=Qz.cl func54
@[simp]def Qz.call55:=Qz.cl func55
@[simp]def Qz.call56:=Qz.cl func56
@[simp]def Qz.call57:=Qz.cl func57
@[simp]def Qz.call58:=Qz.cl func58
@[simp]def Qz.call59:=Qz.cl func59
@[simp]def Qz.call60:=Qz.cl func60
@[simp]def Qz.call61:=Qz.cl func61
@[simp]def Qz.call62:=Qz.cl func62
@[simp]def Qz.call63:=Qz.cl func63
@[simp]def Qz.call64:=Qz.cl func64
@[simp]def Qz.call65:=Qz.cl func65
@[simp]def Qz.call76:=Qz.cl func76
@[simp]def Qz.call77:=Qz.cl func77
@[simp]def Qz.call78:=Qz.cl func78
@[simp]def Qz.call79:=Qz.cl func79
@[simp]def Qz.call80:=Qz.cl func80
@[simp]def Qz.call81:=Qz.cl func81
@[simp]def Qz.call82:=Qz.cl func82
@[simp]def Qz.call84:=Qz.cl func84
@[simp]def Qz.call85:=Qz.cl func85
@[simp]def Qz.call87:=Qz.cl func87
@[simp]def Qz.call88:=Qz.cl func88
@[simp]def Qz.call95:=Qz.cl func95
@[simp]def Qz.call96:=Qz.cl func96
@[simp]def Qz.call97:=Qz.cl func97
@[simp]def Qz.call98:=Qz.cl func98
@[simp]def Qz.call99:=Qz.cl func99
@[simp]def Qz.call100:=Qz.cl func100
@[simp]def Qz.call101:=Qz.cl func101
@[simp]def Qz.call102:=Qz.cl func102
@[simp]def Qz.call107:=Qz.cl func107
@[simp]def Qz.call108:=Qz.cl func108
@[simp]def Qz.call109:=Qz.cl func109
@[simp]def Qz.call110:=Qz.cl func110
@[simp]def Qz.call117:=Qz.cl func117
@[simp]def Qz.call118:=Qz.cl func118
@[simp]def Qz.call119:=Qz.cl func119
@[simp]def Qz.call121:=Qz.cl func121
@[simp]def Qz.call127:=Qz.cl func127
@[simp]def Qz.call128:=Qz.cl func128
@[simp]def Qz.call129:=Qz.cl func129
@[simp]def Qz.call130:=Qz.cl func130
@[simp]def Qz.call133:=Qz.cl func133
@[simp]def Qz.call212:=Qz.cl func212
@[simp]def Qz.call214:=Qz.cl func214
@[simp]def Qz.call215:=Qz.cl func215
@[simp]def Qz.call217:=Qz.cl func217
@[simp]def Qz.call220:=Qz.cl func220
@[simp]def Qz.call221:=Qz.cl func221
@[simp]def Qz.call222:=Qz.cl func222
@[simp]def Qz.call223:=Qz.cl func223
@[simp]def Qz.call224:=Qz.cl func224
@[simp]def Qz.call225:=Qz.cl func225
@[simp]def Qz.call226:=Qz.cl func226
@[simp]def Qz.call227:=Qz.cl func227
@[simp]def Qz.call228:=Qz.cl func228
@[simp]def Qz.call229:=Qz.cl func229
@[simp]def Qz.call230:=Qz.cl func230
@[simp]def Qz.call231:=Qz.cl func231
@[simp]def Qz.call232:=Qz.cl func232
@[simp]def Qz.call234:=Qz.cl func234
@[simp]def Qz.call237:=Qz.cl func237
@[simp]def Qz.call238:=Qz.cl func238
@[simp]def Qz.call239:=Qz.cl func239
@[simp]def Qz.call241:=Qz.cl func241
@[simp]def Qz.call242:=Qz.cl func242
@[simp]def Qz.call243:=Qz.cl func243
@[simp]def Qz.call246:=Qz.cl func246
@[simp]def Qz.call219:=Qz.call Qz.func219
@[simp]def Qz.call233:=Qz.call Qz.func233
end Go.Proofs
namespace Go.Proofs.Zq.Sha
open Go
def ofInt32 (a:BitVec 32):aEF 32 (a.toNat:Int)=a:=by apply BitVec.eq_of_toNat_eq;simp
def Ol (a b:BitVec 32):bits .and aP (a.toNat:Int) (b.toNat:Int)=((a&&&b).toNat:Int):=by show IntKind.u32.wrap ((aEF 32 (a.toNat:Int)&&&aEF 32 (b.toNat:Int)).toNat:Int)=_;rw[ofInt32,ofInt32,aEL];have:=(a&&&b).isLt;omega
def Co (a b:BitVec 32):bits .or aP (a.toNat:Int) (b.toNat:Int)=((a|||b).toNat:Int):=by show IntKind.u32.wrap ((aEF 32 (a.toNat:Int)|||aEF 32 (b.toNat:Int)).toNat:Int)=_;rw[ofInt32,ofInt32,aEL];have:=(a|||b).isLt;omega
def VB (a b:BitVec 32):bits .xor aP (a.toNat:Int) (b.toNat:Int)=((a^^^b).toNat:Int):=by show IntKind.u32.wrap ((aEF 32 (a.toNat:Int)^^^aEF 32 (b.toNat:Int)).toNat:Int)=_;rw[ofInt32,ofInt32,aEL];have:=(a^^^b).isLt;omega
def Oi (a:BitVec 32):bits .xor aP 4294967295 (a.toNat:Int)=((~~~a).toNat:Int):=by
 have h:=VB (aEG 32 4294967295) a;have e:((aEG 32 4294967295).toNat:Int)=4294967295:=by decide
 rw[e]at h;rw[h];congr 2
def mG (n):((2^n:Nat):Int)=(2:Int)^n:=by
 induction n with
 |zero=>rfl
 |succ n i=>rw[Nat.pow_succ,aEP,i,Int.pow_succ];rfl
def Ec (a:BitVec 32)(n):IntKind.u32.wrap ((a.toNat:Int)*2^n)=((a<<<n).toNat:Int):=by rw[aEL,BitVec.toNat_shiftLeft,Nat.shiftLeft_eq,<-mG,Int.natCast_emod,aEP];rfl
def Eb (a:BitVec 32)(n):(a.toNat:Int).fdiv (2^n)=((a>>>n).toNat:Int):=by rw[BitVec.toNat_ushiftRight,Nat.shiftRight_eq_div_pow,<-mG,aEQ _ (zGe _),Int.natCast_ediv]
def tV (x:BitVec 32)(n:Nat):BitVec 32:=x>>>n|||x<<<(32-n)
def S0 (x:BitVec 32):BitVec 32:=tV x 2^^^tV x 13^^^tV x 22
def S1 (x:BitVec 32):BitVec 32:=tV x 6^^^tV x 11^^^tV x 25
def s0 (x:BitVec 32):BitVec 32:=tV x 7^^^tV x 18^^^x>>>3
def s1 (x:BitVec 32):BitVec 32:=tV x 17^^^tV x 19^^^x>>>10
def add_mod (a b:BitVec 32):((a.toNat:Int)+(b.toNat:Int))%4294967296=((a+b).toNat:Int):=by rw[BitVec.toNat_add];omega
def Av (a:BitVec 32)(n):((a.toNat:Int)*2^n)%4294967296=((a<<<n).toNat:Int):=by rw[<-Ec,aEL]
def Au (a:BitVec 32)(n):(a.toNat:Int)/2^n=((a>>>n).toNat:Int):=by rw[<-Eb,<-mG,aEQ _ (zGe _)]
def Rt (x:BitVec 32)(n):bits .or aP ((x.toNat:Int)*2^(32-n)%4294967296) ((x.toNat:Int)/2^n)=((tV x n).toNat:Int):=by rw[Av,Au,Co,tV,BitVec.or_comm]
def ZS (a b:BitVec 32):bits .and aR (a.toNat:Int) (b.toNat:Int)=((a&&&b).toNat:Int):=by
 have f:=a.isLt;have h:=b.isLt;have d:a.toNat&&&b.toNat<2^32:=Nat.and_lt_two_pow _ h;show IntKind.u64.wrap ((aEF 64 (a.toNat:Int)&&&aEF 64 (b.toNat:Int)).toNat:Int)=_;have e:∀c:BitVec 32,(aEF 64 (c.toNat:Int)).toNat=c.toNat:=λc=>by have:=c.isLt;rw[aEH,aEI];exact Nat.mod_eq_of_lt (by omega)
 rw[aEJ,e,e,aEJ];simp only[aEM,aEN,aEO];simp;omega
def ZR (a b:BitVec 32):bits .xor aR (a.toNat:Int) (b.toNat:Int)=((a^^^b).toNat:Int):=by
 have d:=a.isLt;have h:=b.isLt;have f:=Nat.xor_lt_two_pow d h;show IntKind.u64.wrap ((aEF 64 (a.toNat:Int)^^^aEF 64 (b.toNat:Int)).toNat:Int)=_;have e:∀c:BitVec 32,(aEF 64 (c.toNat:Int)).toNat=c.toNat:=λc=>by have:=c.isLt;rw[aEH,aEI];exact Nat.mod_eq_of_lt (by omega)
 rw[aEK,e,e,aEK];simp only[aEM,aEN,aEO];simp;omega
def df (a:BitVec 32):(4294967295:Int)-(a.toNat:Int)=((~~~a).toNat:Int):=by have:=a.isLt;rw[BitVec.toNat_not];omega
def V (x:BitVec 32):Int:=(x.toNat:Int)
def Oz (x:BitVec 32):0<=V x:=zGe _
def tg (x:BitVec 32):V x<4294967296:=by have:=x.isLt;unfold V;omega
def V_add (a b:BitVec 32):(V a+V b)%4294967296=V (a+b):=add_mod a b
def V_and (a b:BitVec 32):bits .and aP (V a) (V b)=V (a&&&b):=Ol a b
def V_or (a b:BitVec 32):bits .or aP (V a) (V b)=V (a|||b):=Co a b
def V_xor (a b:BitVec 32):bits .xor aP (V a) (V b)=V (a^^^b):=VB a b
def V_not (a:BitVec 32):bits .xor aP IntKind.u32.max (V a)=V (~~~a):=Oi a
def V_shr (a:BitVec 32)(n:Nat):V a/2^n=V (a>>>n):=Au a n
def ig (a:BitVec 32)(n:Nat):(V a*2^n)%4294967296=V (a<<<n):=Av a n
def ij (x:BitVec 32)(n):bits .or aP (V x*2^(32-n)%4294967296) (V x/2^n)=V (tV x n):=Rt x n
def kz (a b:BitVec 32):bits .and aR (V a) (V b)=V (a&&&b):=ZS a b
def V64_xor (a b:BitVec 32):bits .xor aR (V a) (V b)=V (a^^^b):=ZR a b
def ky (a:BitVec 32):4294967295-V a=V (~~~a):=df a
def il (a:BitVec 32):IntKind.u64.wrap (V a)=V a:=by have b:=Oz a;have h:=tg a;simp only[aEM,aEN,aEO];simp;omega
def Yz (a:BitVec 32):V a/(8:Int)=V (a>>>3):=V_shr a 3
def Uk (a:BitVec 32):V a/(1024:Int)=V (a>>>10):=V_shr a 10
end Go.Proofs.Zq.Sha
namespace Go.Proofs.Zq.Tail
open Go Go.RowKit Go.Sort
section
variable {P:zZ}{ops:zQ}{md:Region.Mode}{C:zW->Prop}
def gD (P:zZ)(md:Region.Mode)(ops:zQ)(C:zW->Prop)(n:Nat)(L:Array Bool->Act->Prop):Nat->Array Bool->Act->Prop
 |0,listed,a=>L listed a
 |f+1,listed,a=>Region.ready md ops listed≠[]/\∀i∈Region.ready md ops listed,i<n/\qOp P ops C i (gD P md ops C n L f (listed.setIfInBounds i aF)) a
def OS {n g L Q}(j:∀listed a w,C w->L listed a->wpAny P md ops Q g listed a w)(f):
  ∀(listed)(a)(w),C w->gD P md ops C n L f listed a->wpAny P md ops Q (f+g) listed a w:=by
 induction f with
 |zero=>intro listed a w c h;rw[zBd];exact j _ _ _ c h
 |succ f e=>intro listed a w c h;rw[show f+1+g=(f+g)+1 from by omega];exact⟨λk=>absurd k h.1,λi hi=>wpOp_of_qOp c (λm d b l=>e _ m d b l) (h.2 i hi).2⟩
def YQ {n i t v L}(hi:ops[i]? =aA t)(u:Region.noSelect ops=aF)
  (hs:Region.sinkB md ops n=aF) (I:Region.chainB md ops n=aF) (G:n<ops.size) (z:i<n)
  (r:∀listed a,L listed a->∀j∈Region.ready md ops listed,n<=j) (f):
  ∀(listed)(a),HeadInv md ops n listed->
   (∀j o,ops[j]? =aA o->j≠i->listed.getD j aF=aG->(∀e∈o.after,Region.binds md e=aF->e.on≠i)->t.apart ops o=aF)->
   i∈Region.ready md ops listed->YieldsIn P ops C t v a->
   gD P md ops C n L f (listed.setIfInBounds i aF) (a.put t.dst v)->gD P md ops C n L (f+1) listed a:=by
 have bk:=Region.noSelect_spec u;induction f with
 |zero=>intro listed a inv _ s B H;have l:=(mem_ready.1 s).1;refine⟨List.ne_nil_of_mem s,λj q=> ?_⟩;have d:=zFr λh=>tail_waits hs I G inv _ i rfl z l j h q;by_cases c:j=i;{subst c;exact⟨d,B.qOp hi H⟩};{have:=r _ _ H j (ready_mono q c);omega}
 |succ f M=>
  intro listed a inv g s B H;have l:=(mem_ready.1 s).1;refine⟨List.ne_nil_of_mem s,λj q=> ?_⟩;have d:=zFr λh=>tail_waits hs I G inv _ i rfl z l j h q;by_cases c:j=i;{subst c;exact⟨d,B.qOp hi H⟩}
  refine⟨d,?_⟩;obtain⟨m,o,p,A⟩:=mem_ready.1 q;have w:∀e∈o.after,Region.binds md e=aF->e.on≠i:=λe O Q F=>by have K:=A e O Q;rw[F,getD_both l]at K;cases K
  have R:=qOp_put p (g j o p c m w) (λcs b=>bk i t cs b hi) (λcs b=>bk j o cs b p) B (H.2 j (ready_mono q c)).2;refine qOp_mono (λS J=>M (listed.setIfInBounds j aF) S (inv.set q d) (λk ok N E x D=>g k ok N E ?_ D) (ready_mono s (zDj c)) J.1 ?_) R
  .by_cases y:j=k
   .subst y;exact m
   .rw[getD_set_ne aF y]at x;exact x
  .rw[zEq _ _ c];exact J.2
def Gk {n g L}(c:Region.noSelect ops=aF)(hs:Region.sinkB md ops n=aF)(x:Region.chainB md ops n=aF)(u:n<ops.size)(l):
  ∀(k)(listed)(a),(∀j,j<l.length->l[j]? =ops[k+j]?)->k+l.length=n->HeadInv md ops n listed->
  Region.lexHead md ops g l.length k listed=aF->wpQuiet P ops C L l a->
  gD P md ops C n (λb p=>Region.seqB md ops g n b=aF/\L p) l.length listed a:=by
 induction l with
 |nil=>intro k listed a _ i _ e h;obtain rfl:k=n:=by{simpa using i};exact⟨e,h⟩
 |cons o l q=>intro k listed a hl i inv e h;have f:ops[k]? =aA o:=by{simpa using(hl 0 (by simp)).symm};simp only[zAf,Region.lexHead,zBh]at e;simp only[zAf]at i;obtain⟨⟨s,w⟩,m⟩:=e;have d:k∈Region.ready md ops listed:=by{simpa using s};have t:qOp P ops C k (wpQuiet P ops C L l) a:=by{unfold qOp;simp only[f];exact h};obtain⟨v,r,z⟩:=yieldsIn_of_qOp f t;refine YQ f c hs x u (by omega) (λb p y=>seqB_ready y.1) l.length listed a inv (Region.free_spec f w) d r ?_;refine q (k+1) _ _ (λj A=> ?_) (by omega) (inv.set d (by omega)) m z;have:=hl (j+1) (by simp;omega);simpa [zCh,zGd 1 j]using this
def lJ {id Q a w}{l:List Oper}(n)(u:P.follows .mixedOrders=aF)(p:Region.lexTailB .any l.toArray n=aF)
  (x:C {w with drawn:=w.drawn+1})
  (h:wpQuiet P l.toArray C (λa'=>∀w',C w'->wpList P l.toArray Q (l.drop n) a' w') (l.take n) a):(Code.region id l.toArray aF).wp P Q a w:=by
 simp only[Region.lexTailB,zBh,zCm]at p;obtain⟨⟨⟨⟨c,k⟩,r⟩,v⟩,d⟩:=p;have s:n<l.length:=by simpa using k
 have b:(l.take n).length=n:=by simp;omega
 have e:(l.drop n).length=l.toArray.size-n:=by simp
 have i:HeadInv .any l.toArray n (aD5 l.toArray.size aG):=
  ⟨by simp,λj y _ hl=>(by rw[getD_replicate_false]at hl;cases hl),λt _ q=>getD_in (by simpa using q) (getD_replicate_false _ _)⟩
 have H:=Gk c r v k (l.take n) 0 _ a (λj m=>by
  have g:j<n:=by rw[b]at m;exact m
  simp[g]) (by simpa using b) i (by rw[b];exact d) h
 refine wp_region_any u ?_;have:=OS (λlisted a' w' f o=>by have:=wpAny_of_seq (l.drop n) n listed a' w' (λj=>by simp[zEv]) (by rw[e];exact o.1) (o.2 w' f);rwa [e]at this) _ _ _ _ x H
 rw[b,show n+(l.toArray.size-n)=l.toArray.size by omega]at this;exact this
def Di {id:Nat}{Q:zX}{a:Act}{w:zW}{l:List Oper}(n:Nat)(b:P.follows .mixedOrders=aF)(c:Region.lexTailB .any l.toArray n=aF)
  (h:wpQuiet P l.toArray (λw'=>∃n,w'=w.drewN n) (λa'=>∀w',(∃n,w'=w.drewN n)->wpList P l.toArray Q (l.drop n) a' w') (l.take n) a):(Code.region id l.toArray aF).wp P Q a w:=
 lJ (C:=λw'=>∃n,w'=w.drewN n) n b c ⟨1,rfl⟩ h
def uS {id:Nat}{Q:zX}{a:Act}{w:zW}{l:List Oper}(n:Nat)(b:P.follows .mixedOrders=aF)(c:Region.lexTailB .any l.toArray n=aF)
  (h:wpQuiet P l.toArray (λw'=>∃p:Regrown,w'=grow (redrawn w p.d) p.os) (λa'=>∀w',(∃p:Regrown,w'=grow (redrawn w p.d) p.os)->wpList P l.toArray Q (l.drop n) a' w') (l.take n) a):(Code.region id l.toArray aF).wp P Q a w:=
 lJ (C:=λw'=>∃p:Regrown,w'=grow (redrawn w p.d) p.os) n b c ⟨⟨w.drawn+1,#[]⟩,by rw[grow_empty];rfl⟩ h
end
end Go.Proofs.Zq.Tail
