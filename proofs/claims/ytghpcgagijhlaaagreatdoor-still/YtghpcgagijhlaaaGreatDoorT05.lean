import Derived.ProofKit
import Derived.RowKit3
import Derived.WalkKit
import Derived.Deep.LoopGhost
import Derived.Deep.Light
import Derived.LoopN
import Derived.Laws.BitsAllLaws
import Derived.StillTail
import Derived.Deep.Quiet
import Derived.Deep.QuietTactic
import Derived.BigQuiet
import Derived.Lib.QuietBelow
import Derived.Test.YtghpcgagijhlaaaGreatDoorT04
set_option linter.all false
set_option maxRecDepth 100000
set_option maxHeartbeats 16000000
open Option renaming some->aA,none->aB
open Bool renaming true->aE,false->aF
open Or renaming inl->aG,inr->aH
open Go.Ending renaming returned->aL
open Go.Item renaming inRegion->aM
open Go.Obj renaming cells->aI
open Go.IntKind renaming i64->aD,u32->aO,u64->aQ,u8->aP
open Array renaming replicate->aEz
open BitVec renaming ofInt->aE9,ofNat->aFa,ofInt_natCast->aFb,toNat_ofNat->aFc,toNat_and->aFd,toNat_xor->aFe
open Go renaming undef->aER
open Go.IntKind renaming wrap_u32'->aFf,wrap->aFg,bits->aFh,signed->aFi
open Int renaming natCast_mul->aFj,fdiv_eq_ediv_of_nonneg->aFk
open Nat renaming mod_eq_of_lt->aFl,lt_of_not_le->aFm
open Go.Proofs.Tryz
namespace Go
abbrev zGl:=@Go.below_regrown
abbrev zGq:=@Go.Calls.quiet_of_same
abbrev zGr:=@Go.wp_region_quiet_below
abbrev zGy:=@Go.wpQuiet_nil
end Go
namespace Go.Proofs
open Go.RowKit Go.Ren
section
variable {Q Q':zZ}(w:zW)
def SM {t}(h:Q.info? t=aB)(u)(es):(typeInfo t).runT Q u es=(.halt (.stuck "no such type") u,es):=by show(match Q.info? t with|some i=>pure i|none=>stuck "no such type":Sem TypeInfo).runT Q u es=_;rw[h];rfl
def CY {t}(h:Q.underlying t=aB)(u)(es):(underlying t).runT Q u es=(.halt (.stuck "no such type") u,es):=by show(match Q.underlying t with|some d=>pure d|none=>stuck "no such type":Sem TypeDesc).runT Q u es=_;rw[h];rfl
def ED {t}(h:Q.info? t=Q'.info? t)(u)(es):(typeInfo t).runT Q u es=(typeInfo t).runT Q' u es:=by
 cases hi:Q'.info? t with
 |none=>rw[SM (h.trans hi),SM hi]
 |some i=>rw[OB (h.trans hi),OB hi]
def Br {t}(h:Q.underlying t=Q'.underlying t)(u)(es):(underlying t).runT Q u es=(underlying t).runT Q' u es:=by
 cases hi:Q'.underlying t with
 |none=>rw[CY (h.trans hi),CY hi]
 |some i=>rw[zK (h.trans hi),zK hi]
def Ki {t}(h:Q.info? t=Q'.info? t)(u)(es):(Go.sizeOf t).runT Q u es=(Go.sizeOf t).runT Q' u es:=by
 unfold Go.sizeOf;rw[bD,bD,ED h];cases(typeInfo t).runT Q' u es with
 |mk r e=>cases r<;>rfl
def Rr {t}(h:Q.underlying t=Q'.underlying t)(u)(es):(isAgg t).runT Q u es=(isAgg t).runT Q' u es:=by
 unfold isAgg;rw[bD,bD,Br h];cases(underlying t).runT Q' u es with
 |mk r e=>
  cases r with
  |ok d u1=>cases d<;>rfl
  |halt h u1=>rfl
def Kh {t}(h:Q.info? t=Q'.info? t)(u)(es):(zeroValue t).runT Q u es=(zeroValue t).runT Q' u es:=by
 unfold zeroValue;rw[bD,bD,ED h];cases(typeInfo t).runT Q' u es with
 |mk r e=>
  cases r with
  |ok i u1=>dsimp only;cases i.zero<;>rfl
  |halt h u1=>rfl
def FC {α}{s:Sem α}(h:∀u es,s.runT Q u es=s.runT Q' u es):s.run Q w=s.run Q' w:=by rw[<-Sem.runT_fst Q _ _ #[],h,Sem.runT_fst]
end
section
variable(w:zW)
@[simp]theorem Qz.typeInfo (n:zD):(typeInfo n).run zq w=(typeInfo n).run Tryz.prog w:=FC w λu e=>ED (Qz.info n) u e
@[simp]theorem Qz.Uq (n):(underlying n).run zq w=(underlying n).run Tryz.prog w:=FC w λu e=>Br (Qz.eO n) u e
@[simp]theorem Qz.sizeOf (n):(Go.sizeOf n).run zq w=(Go.sizeOf n).run Tryz.prog w:=FC w λu e=>Ki (Qz.info n) u e
@[simp]theorem Qz.isAgg (n:zD):(isAgg n).run zq w=(isAgg n).run Tryz.prog w:=FC w λu e=>Rr (Qz.eO n) u e
@[simp]theorem Qz.zeroValue (n:zD):(zeroValue n).run zq w=(zeroValue n).run Tryz.prog w:=FC w λu e=>Kh (Qz.info n) u e
@[simp]theorem Qz.aAp (t):zq.underlying t=Tryz.prog.underlying t:=Qz.eO t
end
def Qz.fn {f:zN}{fn:Func}(a:Tryz.prog.funcs[f]? =aA fn)(h:¬Qz.jB f:=by decide):zq.funcs[f]? =aA fn:=(Qz.same h).trans a
end Go.Proofs
namespace Go.Ga
open Go.RowKit Go.Proofs Go.Ren
def Qz.call {f:zN}{fn:Func}{c:Code}(a:zq.funcs[f]? =aA fn)(h:(fn.name== "runtime.NumGoroutine")=aF:=by kernel_rfl)(b:fn.body=aA c:=by rfl)(xs:zA)(w:zW):(callFunc f xs).run zq w= .ok (.enter f xs) w:=by rw[<-Sem.runT_fst zq _ _ #[],kB a h b]
def Qz.cl {f:zN}{fn:Func}{c:Code}(b:Tryz.prog.funcs[f]? =aA fn)(h:¬Qz.jB f:=by decide)(a:(fn.name== "runtime.NumGoroutine")=aF:=by kernel_rfl)(d:fn.body=aA c:=by rfl)(xs:zA)(w:zW):=Qz.call (Qz.fn b h) a d xs w
@[simp]def Qz.gv:=Qz.call (Qz.fn Tryz.func235)
@[simp]def Qz.gu:=Qz.call (Qz.fn Tryz.func236)
def ba {w:zW}{g:Nat}{cs:zA}{t:zD}(h:w.heap[g]? =aA (aI cs t (0,0)))(i:Nat):w.frozen? ⟨g,i,aB⟩=aF:=cW h i
def YE (w:zW)(c:Nat)(s:ByteArray)(o:Obj):eI [(c,s)] w ((w.setCell ⟨c,4,aB⟩ (.string s)).alloc o):=by have h:(w.setCell ⟨c,4,aB⟩ (.string s)).heap.size=w.heap.size:=eE _ _ _;refine⟨by rw[eX,h];omega,λb a=> ?_,rfl,rfl,rfl⟩;rw[alloc_old _ _ (by rw[h];exact a)];rfl
def IA:Jj:=by
 intro rows q l cp W F hl K d f;obtain rfl:l=rows.length:=F.1;have T:Hid (fO rows q rows.length W):=F;have Y:Hid (∀p∈rows,∃cs,W.heap[p.1]? =aA (aI cs 272 (0,0))/\cs.size=6):=d;have U:Hid (∀a,q=aA a->∀p∈rows,a.block≠p.1):=f;clear F d f;go_enter (Qz.fn func235),ntmps235;go_wp2_with fail;go_loopg [6] rows.length (λn x wr=>∃(j:Nat),j+n=rows.length/\x= .int aD (j:Int)/\eI (rows.take j) W wr);case atStart=>exact⟨0,by omega,rfl,eI.nil⟩
 case round=>
  obtain⟨j,hj,rfl,c1⟩:=hrel
  have C:Hid (eI (rows.take j) W wr):=c1
  clear c1
  by_cases b:j<rows.length
  .have J:rows≠[]:=λe=>by rw[e]at b;simp at b
   obtain⟨g,Z,e,I⟩:=T.out.2 J;subst e;obtain⟨t,k1⟩:=I j rows[j] (zAf b);have k:rows[j]∈rows:=zCx b;have m:=U.out _ rfl;dsimp only at m;have D:g<W.heap.size:=by
    unfold World.cell? at t;dsimp only at t;cases hb:W.heap[g]? with
    |none=>rw[hb]at t;cases t
    |some ob=>exact(zAa.1 hb).1
   have z:wr.heap[g]? =W.heap[g]? :=(C.out.heap g D).trans (gU _ λp O=>zEa (m p (zEb O)));have o:∀i,wr.cell? ⟨g,i,aB⟩=W.cell? ⟨g,i,aB⟩:=λi=>by{simp only[World.cell?];rw[z]};obtain⟨G,r,v⟩:=Y.out _ k;obtain⟨M,h,E⟩:=lY (rows.take j) ⟨G,r,v⟩;rw[<-C.out.heap _ (zAa.1 r).1]at h;have K0:=(o _).trans t;have K1:=(o _).trans k1;have L:=(zAa.1 h).1;generalize A:rows[j].1=c at*;generalize u:rows[j].2=s at*;have H:rows[j]? =aA (c,s):=by{rw[zAf b,<-A,<-u]};have V:Hid (rows[j]? =aA (c,s)):=H;clear H;obtain⟨N,B⟩:∃y,M[4]? =aA y:=⟨_,zAj (by omega)⟩;have R:¬((j:Int)<0):=by{omega};have Q:(j:Int)<(rows.length:Int):=by{omega};have hx:wr.heap.size≠c:=by{omega};have X:Hid (wr.heap[c]? =aA (aI M 272 (0,0))):=h;have P:wr.cell? ⟨c,4,aB⟩=aA N:=(aZ h 4).trans B;have S:wr.frozen? ⟨c,4,aB⟩=aF:=cW h 4;clear I k m z o r v h E t k1 J A u;go_wp2_with fail;go_roundg (rows.length-(j+1));case measure=>omega
   case rel=>
    go_light
    refine⟨j+1,by omega,by go_num,?_⟩
    rw[List.take_succ,V.out]
    exact C.out.trans (YE wr c s _)
  .have w:j=rows.length:=by{omega};subst w;go_wp2;go_end0;refine⟨rfl,?_⟩;have:=C.out;rwa [zBv (by omega)]at this
def Qz.ntmps170:Qz.f170.ntmps=43:=rfl
def Mv {N:Nat}(d:N<2147483648)(w:zW):(Instr.makeSlice 287 (.int aD (N:Int)) (.int aD (N:Int))).run zq w= .ok (.slice (aA ⟨w.heap.size,0,aB⟩) N N) (w.alloc (aI (madeCells #[.slice aB 0 0] N) 283)):=by obtain⟨i,c,b,a,h⟩:=OV;have e:=run_make (P:=zq) w 287 283 i (.slice aB 0 0) ((Qz.eO 287).trans underlying287) ((Qz.info 283).trans c) b aD aD N N (by omega) (by omega) (by rw[h];omega) (by omega);rw[a]at e;simpa [Value.cells]using e
def fO.lt {rows:List (Nat×ByteArray)}{q:zO}{l:Nat}{w:zW}(h:fO rows q l w)(c:rows≠[]){a:Addr}(i:q=aA a):a.block<w.heap.size:=by
 obtain⟨g,o,e,d⟩:=h.2 c;rw[i]at e;cases e;obtain⟨p,f⟩:∃p,rows[0]? =aA p:=by
  cases rows with
  |nil=>exact absurd rfl c
  |cons p l=>exact⟨p,rfl⟩
 have b:=(d 0 p f).1;unfold World.cell? at b;dsimp only at b⊢;cases hb:w.heap[g]? with
 |none=>rw[hb]at b;cases b
 |some j=>exact(zAa.1 hb).1
def fO.stays {rows:List (Nat×ByteArray)}{q:zO}{l:Nat}{w w':zW}(h:fO rows q l w)(d:rows≠[]->∀a,q=aA a->a.block<w.heap.size->w'.heap[a.block]? =w.heap[a.block]?):fO rows q l w':=by
 by_cases b:rows=[]
 .exact⟨h.1,λx=>absurd b x⟩
 .exact h.keep λa c=>d b a c (h.lt b c)
def Qh (rows:Nat->List (Nat×ByteArray))(W w:zW)(cs:zA)(j:Nat):Prop:=∀i,i<j->∃q l cp,cs[i]? =aA (.slice q l cp)/\l<=cp/\fO (rows i) q l w/\∀a,q=aA a->W.heap.size<a.block
def Dl:yN:=by
 intro N pa bp o cp bt D pt rows u hF ra W t;have bW:=hF.lt;have U:=Mv (N:=N) (by omega);have H:Hid (Fork N pa bp o bt D pt rows u):=hF;have Z:Hid (∀b,D b\/(0<N/\b=bp)->W.heap[b]? =u.heap[b]?):=t;have R:Hid (∀b,D b->b<W.heap.size):=λb k=>by have g:=t b (aG k);have m:=nV hF.plain k;rw[zAj m]at g;exact(zAa.1 g).1
 have HB:Hid (0<N->bp<W.heap.size):=λh0=>by have g:=t bp (aH ⟨h0,rfl⟩);have m:=(hF.af h0).1;rw[zAj m]at g;exact(zAa.1 g).1
 clear hF t;dsimp only[iU,jI];go_enter Qz.func170,Qz.ntmps170;unfold Qz.Ax;go_wp2_with fail;go_loopg [28] N (λq x wr=>∃(j:Nat)(cs:zA),j+q=N/\x= .int aD (j:Int)/\zb W wr/\wr.heap[W.heap.size]? =aA (aI cs 283 (0,0))/\cs.size=N/\Qh rows W wr cs j);case atStart=>exact⟨0,madeCells #[.slice aB 0 0] N,by omega,rfl,(zGe _ _).alloc (zAb _) _,by show(W.heap.push _)[W.heap.size]? =_;simp,size_madeCells _ _,λi h=>by omega⟩
 case round=>
  obtain⟨j,cs,hj,rfl,c1,c2,c3,c4⟩:=hrel
  have C:Hid (zb W wr):=c1
  have P:Hid (wr.heap[W.heap.size]? =aA (aI cs 283 (0,0))):=c2
  have C4:Hid (Qh rows W wr cs j):=c4
  clear c1 c2 c4 U
  by_cases M:j<N
  .have S:=H.out.nn (by omega);have V:=HB.out (by omega);subst S;have k0:wr.cell? ⟨bp,o+j,aB⟩=aA (.pointer (pt j)):=by
    rw[<-H.out.q0 j M];simp only[World.cell?];rw[C.out.block bp V,Z.out bp (aH ⟨by omega,rfl⟩)]
   have Hv:Hid (tM D u wr):=λb k ob T=>aG (by rw[C.out.block b (R.out b k),Z.out b (aG k)];exact T);have Zw:¬((j:Int)<0):=by{omega};have Vf:(j:Int)<(N:Int):=by omega
   go_wp2_with fail;refine(H.out.work j M wr Hv.out).mono ?_;rintro e w2 ⟨F,G,v,rfl,hle,n,y,d⟩;have J:=C.out.size;have Q:W.heap.size<wr.heap.size:=(zAa.1 P.out).1;have B2:Hid (zb W w2):=⟨d.os.trans C.out.os,d.tape.trans C.out.tape,d.output.trans C.out.output,zAw J d.size,λb k=>(d.block b (by omega)).trans (C.out.block b k)⟩;have Y:Hid (w2.heap[W.heap.size]? =aA (aI cs 283 (0,0))):=(d.block _ Q).trans P.out;have L2:Hid (Qh rows W w2 cs j):=λi hi=>by obtain⟨w,l,c,g,m,E,z⟩:=C4.out i hi;exact⟨w,l,c,g,m,E.stays λ_ a _ bW=>d.block _ bW,z⟩
   have RW:Hid (fO (rows j) F G w2/\G<=v/\∀a,F=aA a->W.heap.size<a.block):=⟨n,hle,λa s=>zAc Q (y a s)⟩;clear k0 d C P C4 Hv n y hle;obtain⟨x,hx⟩:∃x,cs[j]? =aA x:=⟨_,zAj (by omega)⟩;have e1:w2.cell? ⟨W.heap.size,j,aB⟩=aA x:=by{rw[aZ Y.out];exact hx};have f1:w2.frozen? ⟨W.heap.size,j,aB⟩=aF:=cW Y.out j;clear hx;go_wp2;go_roundg (N-(j+1));case measure=>omega
   case rel=>
    go_light
    refine⟨j+1,cs.setIfInBounds j (.slice F G v),by omega,by go_num,?_,eF Y.out j _,by rw[zCi];exact c3,λi hi=> ?_⟩
    .exact B2.out.setCell (by simp only;omega) _
    .have K:∀a:Addr,W.heap.size<a.block->(w2.setCell ⟨W.heap.size,j,aB⟩ (.slice F G v)).heap[a.block]? =w2.heap[a.block]? :=λa s=>bO _ _ (by dsimp only;omega);by_cases f:j=i
     .subst f;exact⟨F,G,v,by rw[zBn,zAq rfl,zAq (by omega)],RW.out.2.1,RW.out.1.stays λ_ a s _=>K a (RW.out.2.2 a s),RW.out.2.2⟩
     .obtain⟨w,l,c,g,m,E,z⟩:=L2.out i (by omega);exact⟨w,l,c,by rw[zBn,zAn f];exact g,m,E.stays λ_ a s _=>K a (z a s),z⟩
  .have L:j=N:=by{omega};subst L;go_wp2_with fail;generalize wr=B at*;go_loopg [35] j (λq x wr=>∃(i:Nat),i+q=j/\x= .int aD (i:Int)/\eI (allRows rows i) B wr);case atStart=>exact⟨0,by omega,rfl,eI.nil⟩
   case round=>
    obtain⟨i,hi,rfl,d1⟩:=hrel
    have D1:Hid (eI (allRows rows i) B wr):=d1
    clear d1
    have Q:W.heap.size<B.heap.size:=(zAa.1 P.out).1
    by_cases f:i<j
    .have r:Hid (∀b,W.heap.size<=b->b<B.heap.size->wr.heap[b]? =B.heap[b]?):=λb g m=>(D1.out.heap b m).trans (gU _ λp A=>by
      obtain⟨i',ep,A⟩:=gI A;have:=R.out _ (H.out.cell i' (by omega) p A).1;omega)
     obtain⟨w,l,c,g,m,E,z⟩:=C4.out i f;have k:wr.heap[W.heap.size]? =aA (aI cs 283 (0,0)):=(r.out _ (zAb _) Q).trans P.out;have e1:wr.cell? ⟨W.heap.size,i,aB⟩=aA (.slice w l c):=by rw[aZ k];exact g
     have H3:Hid (fO (rows i) w l wr):=E.stays λ_ a s bW=>r.out _ (by have:=z a s;omega) bW;have H4:Hid (∀a,w=aA a->∀p∈rows i,a.block≠p.1):=λa s p A=>by have h5:=z a s;have h6:=R.out _ (H.out.cell i f p A).1;omega
     have H5:Hid (∀p∈rows i,∃cs,wr.heap[p.1]? =aA (aI cs 272 (0,0))/\cs.size=6):=λp A=>by obtain⟨hD,X,g1,g2⟩:=H.out.cell i f p A;have g3:=R.out _ hD;rw[D1.out.heap _ (by omega)];refine lY _ ⟨X,?_,g2⟩;rw[C.out.block _ g3,Z.out _ (aG hD)];exact g1
     have H6:Hid (l<=c):=m;have Np:¬((i:Int)<0):=by{omega};have Vg:(i:Int)<(j:Int):=by{omega};clear g m E z k r;go_wp2_with fail;refine(IA (rows i) w l c wr H3.out H6.out (H.out.Rh i f) H5.out H4.out).mono ?_;rintro e w2 ⟨rfl,I⟩;have W2:Hid (eI (allRows rows (i+1)) B w2):=D1.out.trans I;clear I D1 H3 H4 H5 H6 e1;go_wp2;go_roundg (j-(i+1));case measure=>omega
     case rel=>
      go_light
      exact⟨i+1,by omega,by go_num,W2.out⟩
    .have O:i=j:=by{omega};subst O;go_wp2;go_ret;refine⟨⟨_,rfl⟩,?_⟩;have d1:=D1.out;have c1:=C.out;exact⟨zAw c1.size d1.size,λb k=>(d1.heap b (by omega)).trans (fS _ (c1.block b k)),d1.os.trans c1.os,d1.tape.trans c1.tape,d1.output.trans c1.output⟩
open Go.Conc Go.Ren Go.Proofs Go.Tr
def LS {α T a}{l b:List α}(h:gG T (a::l) b):∃c k,b=c::k/\T a c/\gG T l k:=by
 cases h with
 |cons e d=>exact⟨_,_,rfl,e,d⟩
def ZJ {P Al S fr c cs u x}(f:¬S fr (c::cs) u)(h:Go.Ren.Ends P Al S fr (c::cs) u)(hl:fr.leaving P u (aL x)):
  (∃D,Closed P Al D (c.finish x) cs u)/\Go.Ren.Ends P Al S (c.finish x) cs u/\One P S (c.finish x,cs,u) (fr,c::cs,u):=by
 cases h with
 |stop h=>exact absurd h f
 |step a n m l j=>
  obtain⟨b,e⟩:=l u.tape u.drawn [] aE;rw[zAy,zAy]at e;have o:stepG P aE {frame:=fr,callers:=c::cs,status:= .running,dying:=aB} u= .go {frame:=(n u.tape u.drawn).1,callers:=(n u.tape u.drawn).2.1,status:= .running,dying:=aB} (n u.tape u.drawn).2.2 b:=e;have s1:step P (lone fr (c::cs) u)= .next (lone (n u.tape u.drawn).1 (n u.tape u.drawn).2.1 (n u.tape u.drawn).2.2):=step_lone_go (by rw[o];rfl);rw[step_leave_returned hl]at s1;have s2:lone (c.finish x) cs u=lone (n u.tape u.drawn).1 (n u.tape u.drawn).2.1 (n u.tape u.drawn).2.2:=by injection s1
  have a3:u=(n u.tape u.drawn).2.2:=congrArg Machine.world s2;have g:({frame:=c.finish x,callers:=cs,status:= .running,dying:=aB}:zH)={frame:=(n u.tape u.drawn).1,callers:=(n u.tape u.drawn).2.1,status:= .running,dying:=aB}:=by have:=congrArg Machine.gs s2;simpa [lone]using this
  have i:c.finish x=(n u.tape u.drawn).1:=congrArg Goroutine.frame g;have a2:cs=(n u.tape u.drawn).2.1:=congrArg Goroutine.callers g;have k1:=m u.tape u.drawn;have d:=j u.tape u.drawn;rw[<-i,<-a2,<-a3]at k1 d;refine⟨k1,d,f,a,u.tape,u.drawn,aE,b,?_⟩;show stepG P aE (G fr (c::cs)) u= .go (G (c.finish x) cs) u b;rw[show stepG P aE (G fr (c::cs)) u=_ from e,<-i,<-a2,<-a3]
def Lv {Al π f A}(h:bF Al π (iU f) A):∃b,π f b/\A=iU b:=by
 cases h with
 |pointer g=>
  cases g with
  | @some a l i=>obtain⟨j,o,s⟩:=l;obtain⟨e,d,c⟩:=i;dsimp only at e d c;subst d;subst c;exact⟨j,e,rfl⟩
def UP (xs)(n i):(xs++aEz n aER).getD i aER=xs.getD i aER:=by
 rw[zAt,zAt];obtain h|h:=zDf i xs.size
 .rw[zCv h]
 .rw[zBx h,zEq,zBi h];split<;>rfl
def Yv (xs):Frame.enter Tryz.prog 233 xs .normal=uD (xs++aEz (18-xs.size) aER) [.code rZ]:=by unfold Frame.enter;rw[func233];rfl
def Km {xs ys more}(h:told xs++more=told ys):told xs=told ys:=by unfold told at h⊢;rw[List.singleton_append]at h;injection h with a b;rw[a]
def KI {P:zZ}{Al:zF}{D:zP}:∀(rows:List (Nat×ByteArray)){v:zW},bQ P Al Go.Ren.K0 (cH D) v v->bQ P Al Go.Ren.K0 (cH D) (cY rows v) (cY rows v)
 |[],_,h=>h
 |p::rows,v,h=>by refine KI rows (v:=oK v p) ?_;by_cases i:D p.1;{exact h.setCell (a:=⟨p.1,4,aB⟩) (a':=⟨p.1,4,aB⟩) ⟨⟨rfl,i⟩,rfl,rfl⟩ (λx=>x) (.string _)};{have g:∀b d,cH D b d->(oK v p).heap[b]? =v.heap[b]? :=λb d c=>qP λe=>i (by rw[<-e];exact c.2);have f:(oK v p).heap.size=v.heap.size:=Gh;exact yR h g (λb d c=>by rw[<-c.1];exact g b d c) (by rw[f];exact h.low.1) (by rw[f];exact h.low.1) rfl (λ_=>rfl)}
def Pn {P Al π v w}(i:bQ P Al Go.Ren.K0 π v w){g e}(j:π g e){cs ty fr}(h:v.heap[g]? =aA (aI cs ty fr)):∃d,w.heap[e]? =aA (aI d ty fr)/\d.size=cs.size:=by
 obtain⟨c,c',t,f,n,a,l,b,_,g5,_⟩|⟨_,o,a,_,b⟩|⟨y,m,a,_,b⟩:=i.blk g e j
 .rw[h]at a;cases a;have:=g5 (λx=>x);subst this;exact⟨c',l,b.size⟩
 .rw[h]at a;cases a;exact absurd rfl (b.1 _ _ _)
 .rw[h]at a;cases a;cases b
section
variable {R:zR}{xs QI:zA}{k:CallKind}{own own':zL}{v:zW}{D:zP}{Sh:zP}{gs:zG}{w:zW}{t:Trace}{q:Nat->Nat}{sl:Option (Nat×Nat)}{π:Rn}
def To {vb}(Yk:yN)(hz:xs.size<=20)(Ya:k= .normal\/Qz.Aj vb (900000+233))(hi:Apart zq Qm.prog.funcs Qm.Al (Frame.enter zq 233 xs k) own v\/BE zq Qm.prog.funcs Qm.Al 233 xs own v)(Z:Main zq Tryz.prog.funcs (Qz.Aj vb) Sh gs w t q π (Frame.enter zq 233 xs k) own v (Frame.enter zq 233 QI k) own')
  (hg:gs[0]? =aA (G (Frame.enter ⟨zq.toTables,Tryz.prog.funcs⟩ 233 QI k) own')) (Rg:own≠[]) (hc:Closed zq Qz.Al D (Frame.enter zq 233 xs k) own v)
  (hE:Go.Ren.Ends zq Qz.Al (Go.Ren.AtEnd zq R lD) (Frame.enter zq 233 xs k) own v):
  QE zq Tryz.prog.funcs Qz.Al (Qz.Aj vb) R lD (Apart zq Qm.prog.funcs Qm.Al) (Frame.enter zq 233 xs k,own,v) Sh π gs w sl t:=by
 have Ve:∀b,¬Go.Ren.K0 b:=λb h=>h;obtain rfl:k= .normal:=by obtain h|h:=Ya;{exact h};{exfalso;have h:=h;have:=(Qz.UZ vb 900233 (by omega)).1 h;omega}
 obtain⟨u,more,H,wz⟩:=Sx Qz.jX Qz.quits Qz.Xi (λxs=>⟨_,_,rfl,rfl⟩) hz hc hE;obtain⟨N,pa,bp,o,cp,bt,DW,pt,rows,he,ra,hF⟩:=wz u.tape u.drawn;replace hF:Fork N pa bp o bt DW pt rows u:=hF;have Y:=Ny hz (by simp) (Kn (Km he));have bW:∀b,DW b->b<v.heap.size:=λb z=>oI.lt H (nV hF.plain z) (hF.box b z);have oz:∀b,DW b->u.heap[b]? =v.heap[b]? :=λb z=>H.old b (bW b z);have xb:aY (Qz.Aj vb) π (full xs) (QI++aEz (43-QI.size) aER):=by have h:=Z.OR.frame.tmps;rw[GX,GX]at h;exact h
 rw[Y]at xb;obtain⟨A',B',hA,hB,hx'⟩:=Nx xb;obtain⟨I,Zy,rfl⟩:=Lv hA;obtain⟨B,rfl,Jt⟩:∃B,B'=jI B N cp/\(0<N->vU π pa B):=by
  cases hB with
  |slice h _ _=>exact⟨_,rfl,λ_=>h⟩
  |void _ a0=>exact⟨aA a0,rfl,λh=>absurd h (zEz _)⟩
 obtain⟨oy,U⟩:=Z.Vn vb Qz.Yh;have dz:¬DW vb:=λhD=>by have e:=oz vb hD;rw[U]at e;obtain⟨c,t,fr,g,_,O,_⟩|⟨_,o,g,O⟩:=hF.plain.blk vb hD;{rw[e]at g;cases g;exact O 0 0 rfl};{rw[e]at g;cases g;exact O.1 _ _ _ rfl}
 have hw:=Z.OR.world;have hold:∀b n,π b n->n<w.heap.size/\¬Sh n:=λb n z=>⟨DX hw z,Z.off b n z⟩;obtain⟨M,fo⟩:∃M,0<N->B=aA ⟨M,o,aB⟩/\π bp M:=by
  by_cases h0:0<N
  .have Jt:=Jt h0;rw[hF.nn h0]at Jt;cases Jt with
   | @some _ a' ha=>obtain⟨n,o',s'⟩:=a';obtain⟨g,K,O⟩:=ha;dsimp only at g K O;subst K;subst O;exact⟨n,λ_=>⟨rfl,g⟩⟩
  .exact⟨0,λh=>absurd h h0⟩
 have wy:∀k,0<N->(v.re w.tape w.drawn).cell? ⟨bp,k,aB⟩=u.cell? ⟨bp,k,aB⟩:=λk h0=>by obtain⟨g,K⟩:=hF.af h0;simp only[World.cell?];rw[H.old bp (oI.lt H g K)];rfl
 have px:∀i,∃s,i<N->vU π (pt i) s/\w.cell? ⟨M,o+i,aB⟩=aA (.pointer s):=λi=>by
  by_cases hi:i<N
  .obtain⟨x,x',g,K,O⟩|⟨g,_⟩:=hw.cell (a:=⟨bp,o+i,aB⟩) (a':=⟨M,o+i,aB⟩) ⟨(fo (by omega)).2,rfl,rfl⟩
   .rw[wy _ (by omega),hF.q0 i hi]at g;cases g;cases O with
    |pointer h=>exact⟨_,λ_=>⟨h,K⟩⟩
   .rw[wy _ (by omega),hF.q0 i hi]at g;cases g
  .exact⟨aB,λh=>absurd h hi⟩
 obtain⟨vv,jz⟩:=Classical.skolem.1 px;obtain⟨c0,m,rfl⟩:∃c0 m,own=c0::m:=by
  cases own with
  |nil=>exact absurd rfl Rg
  |cons a l=>exact⟨a,l,rfl⟩
 obtain⟨c,cs,rfl,hc0,dv⟩:=LS Z.OR.own;have ew:∀i,(QI++aEz (18-QI.size) aER).getD i aER=(full #[iU I,jI B N cp]).getD i aER:=λi=>by rw[UP,<-hx',UP]
 have WQ:18<=(QI++aEz (18-QI.size) aER).size:=by simp;omega
 have Yd:(QI++aEz (18-QI.size) aER).getD 0 aER=iU I:=by rw[ew,zAt,UT];rfl
 have ks:(QI++aEz (18-QI.size) aER).getD 1 aER=jI B N cp:=by rw[ew,zAt,US];rfl
 have yw:=Z.lv;rw[Qz.back]at yw;rw[Qz.back,Yv]at hg;generalize QI++aEz (18-QI.size) aER=tm at hg Yd ks WQ;have pf:tN Sh gs w t q (G (uD tm [.code rZ]) (c::cs)):=⟨hg,yw,Z.calm,Z.JK⟩;obtain⟨n1,Tt,w1,jq,t1,q1,g1,r1,z1,mv,rfl,d1,rfl⟩:=iK (S:=λg' w'=>g'=G (Frame.enter Tryz.prog 240 #[jI B N cp,.func (.func 236) #[iU I] #[]] .normal) (uD (t3 tm (iU I) (jI B N cp)) [aM (sQ 0) [3,4,5],.code Ix]::c::cs)/\∃d,w'=w.at d) pf (zAb _) (nm Yd ks WQ λw₁ r=>⟨⟨rfl,by obtain⟨d,rfl⟩:=r;exact⟨d,rfl⟩⟩,by obtain⟨d,rfl⟩:=r;rfl⟩);let X:Gc:={w:=w.at d1,Sh,N,bp:=M,o,cp,f:=236,first:= #[iU I],cap:= #[],pt:=vv,Rw:=λi q l cp h w=>Made DW π (rows i) q l cp h w,rwr:=λx hk=>Made.keep x hk,m0:=Tt.size,c:=uD (t3 tm (iU I) (jI B N cp)) [aM (sQ 0) [3,4,5],.code Ix],cs:=c::cs,pa:=B}
 have hwd:bQ zq (Qz.Aj vb) Go.Ren.K0 π (v.re w.tape d1) (w.at d1):=(Z.OR.rely (w₁:=w.at d1) rfl ⟨λ_ _ _=>rfl,zAb _,rfl⟩).world;obtain⟨n2,gd,w2,jo,t2,q2,bo,Kd,r2,g2,L2,C2,K2,yd,Vi,ps,wv,dm⟩:=UQ (X:=X) (sl:=jq) hF.lt Z.JK (λi hi=>(jz i hi).2) (λh0=>hold bp M (fo h0).2) (λh0=>(fo h0).1) func236 (by decide) (by simp[f236])
  (λi hi J bn w' g O K=>by
   have:=hF.QO (λk hk hD=>dz (by rw[<-Qz.QT hk];exact hD)) (v:=v.re w.tape d1) oz hwd (old:=X.old) hold hi Zy (jz i hi).1 J bn w' g O K;have e:X.first.push (.pointer (X.pt i))++X.cap= #[.pointer (aA ⟨I,0,aB⟩),.pointer (vv i)]:=by simp[X]
   rw[e];exact this) rfl mv.tc mv.lv mv.calm
 have hB0:X.B0=w.heap.size:=rfl;have hK2:=K2.size;have Xx:∀i,∃y:(zO×Nat×Nat)×List (Nat×ByteArray),i<N->Kd[i]? =aA (.slice y.1.1 y.1.2.1 y.1.2.2)/\oG (λb n=>DW b/\π b n) (rows i) y.2/\fO y.2 y.1.1 y.1.2.1 w2/\∀a,y.1.1=aA a->X.B0+6<=a.block/\a.block≠bo/\a.block<w2.heap.size:=λi=>by by_cases hi:i<N;{obtain⟨q,l,cp,h,g,K,cO,O,h4,h5⟩:=dm i hi;exact⟨((q,l,cp),cO),λ_=>⟨g,O,h4,λa ha=>K _ (h5 a ha)⟩⟩};{exact⟨((aB,0,0),[]),λh=>absurd h hi⟩}
 obtain⟨y,hy⟩:=Classical.skolem.1 Xx;have hrel:∀i,i<N->∀P∈(y i).2,∃p∈rows i,DW p.1/\π p.1 P.1:=λi hi P E=>by have hl:=sY (hy i hi).2.1;obtain⟨j,hj,e⟩:=List.getElem_of_mem E;have Zw:j<(rows i).length:=by{omega};have:=hl.2 j (rows i)[j] P (zAf Zw) (by rw[zAf hj,e]);exact⟨_,zCx Zw,this.1.1,this.1.2⟩
 have pj:∀b,X.WM b->b<w.heap.size\/b=w.heap.size+5\/b=w.heap.size+1\/b=w.heap.size+3:=Gc.yZ Z.JK;have ec:∀n,(∃b,π b n)->¬X.WM n:=λn ⟨b,z⟩ h=>by have g:=hold b n z;obtain h|h:=h;{exact g.2 h};{have:=g.1;omega}
 have sg:∀d,Ls X.WM (λi=>(y i).2) bo N (λi=>(y i).1) (w2.at d):=λd=>by
  refine⟨hF.lt,λi hi=>(aZ (w:=w2.at d) ps i).trans (hy i hi).1,λi hi=>⟨(hy i hi).2.2.1,?_,λP E=> ?_,λhn a ha=> ?_⟩,⟨λh=> ?_,Vi⟩,λi hi P E=>⟨?_,λj hj a ha _=> ?_⟩⟩;{rw[(sY (hy i hi).2.1).1];exact hF.Rh i hi};{obtain⟨p,hp,hD,C⟩:=hrel i hi P E;refine⟨ec _ ⟨_,C⟩,?_⟩;obtain⟨_,zi,g,K⟩:=hF.cell i hi p hp;rw[oz _ hD]at g;obtain⟨cs',O,h4⟩:=Pn hw C (show(v.re w.tape w.drawn).heap[p.1]? =_ from g);exact⟨cs',(K2.heap _ (hold _ _ C)).trans O,by omega⟩}
  .have g:=(hy i hi).2.2.2 a ha;refine⟨λh=> ?_,g.2.2,λP E e=> ?_⟩
   .obtain h|h|h|h:=pj _ h<;>omega
   .obtain⟨p,hp,hD,C⟩:=hrel i hi P E;have:=(hold _ _ C).1;omega
  .obtain h|h|h|h:=pj _ h<;>omega
  .obtain⟨p,hp,hD,C⟩:=hrel i hi P E;have:=(hold _ _ C).1;omega
  .obtain⟨p,hp,hD,C⟩:=hrel i hi P E;have:=(hold _ _ C).1;have g:=(hy j hj).2.2.2 a ha;omega
 have pe:tN X.WM gd w2 t2 q2 (G ((uD (t3 tm (iU I) (jI B N cp)) [aM (sQ 0) [3,4,5],.code Ix]).finish (.slice (aA ⟨bo,0,aB⟩) N N)) (c::cs)):=⟨g2,L2,C2,λb z=>by obtain h|h|h|h:=pj _ z<;>omega⟩;obtain⟨n3,ss,w3,sl3,t3',q3,g3,r3,z3,st3,⟨Rt,rfl,ky⟩,d3,rfl⟩:=iK (sl:=jo) (S:=λg' w'=>(∃tm',g'=G (uD tm' (.code IV::K3)) (c::cs)/\T9 tm' bo N 0)/\∃d,w'=w2.at d) pe (zAb _) (fg (A:=iU I) (Bv:=jI B N cp) WQ hF.lt λtm' w₁ r hT=>⟨⟨⟨tm',rfl,hT⟩,by obtain⟨d,rfl⟩:=r;exact⟨d,rfl⟩⟩,by obtain⟨d,rfl⟩:=r;rfl⟩);obtain⟨n4,zg,w4,vl,t4,q4,g4,r4,z4,jm,rfl,F⟩:=FZ (sg d3) N 0 (by omega) Rt ss (w2.at d3) sl3 t3' q3 ky eI.nil st3;have eh:=Ti Yk hF ra H Y ⟨hc.frame,.nil,hc.world,hc.nj⟩;obtain⟨Yq,l2,u2,D2,hS,rf,hD2,hE2,V⟩:=Lone.QZ Qz.jX (T:=Go.Ren.AtEnd zq R lD) (cs:=c0::m) (λ_ _ _ hs=>gP hs) eh ⟨hc.frame,.nil,gJ hc.world Ve _ _ _ _ (λ_ _=>rfl),hc.nj⟩ (hE.re (λ_ _ _ τ d h=>h.re τ d) (λ_ _=>1) 0);obtain⟨rfl,x,xp,hrw⟩:=hS;obtain⟨hx,Q⟩:=hrw u2.tape u2.drawn;subst hx;have Zz:=jW v aE;have L:∀b,b<v.heap.size->u2.heap[b]? =(cY (allRows rows N) v).heap[b]? :=λb z=>(Q.heap b (zAc z Zz.size)).trans (fS _ (Zz.old b z));have pd:v.heap.size<=u2.heap.size:=zAw Zz.size Q.size;have qb:u2.os=v.os:=Q.os;have hnT:¬Go.Ren.AtEnd zq R lD Yq ([]++c0::m) u2:=λh=>by obtain h|h:=h;{cases h.1};{cases h.1}
 obtain⟨⟨D1,kv⟩,sn,qc⟩:=ZJ hnT hE2 (by have:=xp u2.tape u2.drawn;rwa [gZ]at this);have xh:oG π (allRows rows N) (allRows (λi=>(y i).2) N):=CL λi hi=>DD (sY (hy i hi).2.1).1 λj a a' ha ab=>let h:=(sY (hy i hi).2.1).2 j a a' ha ab;⟨h.1.2,h.2⟩;have hpw:=Jw hw xh;have W:=hw.low;have xf:w2.heap.size<=w4.heap.size:=F.size;have h4:∀b n,π b n->w4.heap[n]? =(cY (allRows (λi=>(y i).2) N) w).heap[n]? :=λb n z=>by have g:=hold b n z;exact(F.heap n (show n<w2.heap.size by omega)).trans (fS _ (K2.heap n g))
 have wc:bQ zq (Qz.Aj vb) Go.Ren.K0 π (u2.re w4.tape w4.drawn) w4:=yR hpw (λb n z=>(L b (DY hw z)).trans (fS _ rfl)) h4 (by have h:=W.1;show _<u2.heap.size;have K:(v.re w.tape w.drawn).heap.size=v.heap.size:=rfl;omega) (by have:=W.2;omega) ((F.os.trans K2.os).trans (hw.os.trans qb.symm)) (λ_=>rfl);have pk:runNT Tryz.prog (n1+(n2+(n3+n4))) (crowd gs w sl) t=(.next (crowd zg w4 vl),t4):=by rw[runNT_add,r1];dsimp only;have r2':runNT Tryz.prog n2 (crowd Tt (w.at d1) jq) t1=(.next (crowd gd w2 jo),t2):=r2;rw[runNT_add,r2'];dsimp only;rw[runNT_add,r3];exact r4
 refine⟨n1+(n2+(n3+n4)),zg,w4,vl,t4,q4,X.WM,π,c0.finish (.tuple #[]),m,u2,D1,c.finish (.tuple #[]),cs,by rw[Qz.back];exact pk,jm.tc,⟨by rw[Qz.back];exact jm.lv,jm.calm,jm.JK,⟨hc0.finish (.tuple rfl λi v v' h _=>by simp at h),dv,wc⟩,λb n z=>ec n ⟨b,z⟩,λb z=> ?_⟩,kv,sn,⟨F.tape.trans K2.tape,F.os.trans K2.os,F.output.trans K2.output⟩,?_,?_,⟨λ_ _ h=>h,by omega,λn z g K=>⟨?_,g,λh=> ?_⟩⟩⟩
 .obtain rfl:=Qz.QT z;have qk:=(zAa.1 U).1;refine⟨oy,(L b qk).trans ((gU _ λp hp e=> ?_).trans U)⟩;obtain⟨i,hi,hp⟩:=gI hp;exact dz (by rw[<-e];exact(hF.cell i hi p hp).1)
 .right;obtain e|V:=V
  .exfalso;have e1:Yq=Frame.enter zq 233 xs .normal:=congrArg (λs:Ji=>s.1) e;have:=(xp u2.tape u2.drawn).1;rw[e1]at this;cases this
  .exact Sub.base (gP (l:=[]) (cs:=c0::m) (aG rfl)) (.more qc V)
 .obtain⟨D',py,Zt⟩:∃D',gG (cL ⟨zq.toTables,Qm.prog.funcs⟩ Qm.Al Go.Ren.K0 (cH D')) (c0::m) (c0::m)/\bQ ⟨zq.toTables,Qm.prog.funcs⟩ Qm.Al Go.Ren.K0 (cH D') v v:=by
   obtain⟨D',h⟩|⟨D',_,_,g,K⟩:=hi;{exact⟨D',h.own,h.world⟩};{exact⟨D',g,K⟩}
  obtain⟨a',k',e,ya,hf1⟩:=LS py;cases e;have hp2:=KI (allRows rows N) Zt;have Yb:∀b n,cH D' b n->u2.heap[b]? =(cY (allRows rows N) v).heap[b]? :=λb n z=>L b (DY Zt z);refine⟨D',ya.finish (.tuple rfl λi v v' h _=>by simp at h),hf1,yR hp2 Yb (λb n z=>by rw[<-z.1];exact Yb b n z) (by have:=Zt.low.1;omega) (by have:=Zt.low.1;omega) rfl (λ_=>rfl),Qm.nj⟩
 .rw[F.heap n (show n<w2.heap.size by omega),gU _ λP E e=> ?_]
  .exact K2.heap n ⟨z,K⟩
  .obtain⟨i,ep,E⟩:=gI E;obtain⟨p,_,_,C⟩:=hrel i ep P E;rw[e]at C;exact g _ C
 .obtain h|h:=h
  .exact K h
  .omega
end
abbrev AJ (vb:Nat):zF:=λf=>f=1000000\/f=1000002+vb
abbrev AS:zF:=λf=>f=1000001
abbrev AB (N:Nat):zF:=λf=>f=1000001\/f=1000002+N
structure Start (D:zP)(V W:zW):Prop where
 gW:∀b,b<=Tryz.prog.globals.size->D b
 lt:∀b,D b->b<W.heap.size
 size:V.heap.size=W.heap.size+1
 Vn:V.heap[W.heap.size]? =aA (aI #[.int aP 0] 0 (0,0))
 tape:W.tape=V.tape
 drawn:W.drawn=V.drawn
 os:W.os=V.os
 out:W.output=V.output
 blk:∀b,D b->(∃c c' t fr,V.heap[b]? =aA (aI c t fr)/\W.heap[b]? =aA (aI c' t fr)/\aY (AJ W.heap.size) (cH D) c c'/\aY AS (cH λx=>D x\/x=W.heap.size) c c)\/(b<=Tryz.prog.globals.size/\∃o,V.heap[b]? =aA o/\W.heap[b]? =aA o/\CX o)
structure Beside (D:zP)(N:Nat)(U V:zW):Prop where
 size:U.heap.size=V.heap.size
 os:V.os=U.os
 blk:∀b,D b->(∃c c' t fr,U.heap[b]? =aA (aI c t fr)/\V.heap[b]? =aA (aI c' t fr)/\aY (AB N) (cH D) c c')\/(b<=Tryz.prog.globals.size/\∃o,U.heap[b]? =aA o/\V.heap[b]? =aA o/\CX o)
def bF.al {Al A π}(g:∀f,Al f->A f){x y}(h:bF Al π x y):bF A π x y:=by
 induction h with
 |bool b=>exact .bool b
 |int i n=>exact .int i n
 |string s=>exact .string s
 |pointer h=>exact .pointer h
 |slice h n c=>exact .slice h n c
 |func k e p j _ _ i3 i4=>exact .func (g _ k) e p j i3 i4
 |nilFunc=>exact .nilFunc
 |iface t _ d=>exact .iface t d
 |nilIface=>exact .nilIface
 |jC=>exact .jC
 |gL=>exact .gL
 |agg e _ d=>exact .agg e d
 |tuple e _ d=>exact .tuple e d
 |junk o h=>exact .junk (g _ o) h
 |same m x=>exact .same (g _ m) x
 |void l a=>exact .void (g _ l) a
def aY.al {Al A π}(e:∀f,Al f->A f){x y}(h:aY Al π x y):aY A π x y:=⟨h.size,λi a b d c=>bF.al e (h.at' i a b d c)⟩
def two {Al:zF}{a b}(h:Al a/\Al b)(f)(x:f=a\/f=b):Al f:=x.elim (λe=>e▸h.1) λe=>e▸h.2
section
variable {P:zZ}{Al:zF}{D:zP}{U V W:zW}{N:Nat}
theorem Nk {E}(h:∀b,b<=P.globals.size->E b):Ok P (cH E):=⟨λ{a g b f} c e=>by rw[c.1,e.1],λ{b f} c _=>c.1,λb d=>⟨rfl,h b d⟩⟩
def Start.low (h:Start D V W):Tryz.prog.globals.size<W.heap.size:=h.lt _ (h.gW _ (zAb _))
def Start.self (i:Al 1000001)(h:Start D V W)(k:P.globals.size=Tryz.prog.globals.size):bQ P Al Go.Ren.K0 (cH λx=>D x\/x=W.heap.size) V V:=by
 refine⟨Nk λb a=>aG (h.gW b (by omega)),λb l a=> ?_,λ_ _=>rfl,λb a=>a.elim,by have:=h.low;have:=h.size;omega,rfl,λb a=>a.elim⟩;obtain⟨e,f⟩:=a;subst e;obtain f|rfl:=f
 .obtain⟨c,c',t,fr,g,_,_,d⟩|⟨g,o,d,_,j⟩:=h.blk b f
  .exact aG ⟨c,c,t,fr,fr,g,g,aY.al (λ_ x=>by rw[x];exact i) d,λx=>x.elim,λ_=>rfl,λx=>x.1.elim⟩
  .exact aH (aG ⟨by omega,o,d,d,j⟩)
 .exact aG ⟨_,_,_,_,_,h.Vn,h.Vn,.one (.int _ _),λx=>x.elim,λ_=>rfl,λx=>x.1.elim⟩
def Start.Jx (j:Al 1000000/\Al (1000002+W.heap.size))(h:Start D V W)(l:P.globals.size=Tryz.prog.globals.size):bQ P Al Go.Ren.K0 (cH D) V W:=by
 refine⟨Nk λb a=>h.gW b (by omega),λb m a=> ?_,λ_ _=>by rw[h.tape,h.drawn],λb a=>a.elim,by have:=h.low;have:=h.size;omega,h.os,λb a=>a.elim⟩;obtain⟨e,i⟩:=a;subst e;obtain⟨c,c',t,fr,g,f,d,_⟩|⟨g,o,d,f,k⟩:=h.blk b i
 .exact aG ⟨c,c',t,fr,fr,g,f,aY.al (two j) d,λx=>x.elim,λ_=>rfl,λx=>x.1.elim⟩
 .exact aH (aG ⟨by omega,o,d,f,k⟩)
def Beside.Jx (m:Al 1000001/\Al (1000002+N))(f:Start D V W)(h:Beside D N U V)(p:P.globals.size=Tryz.prog.globals.size)(j)(d):bQ P Al Go.Ren.K0 (cH D) (U.re j d) (V.re j d):=by
 refine⟨Nk λb a=>f.gW b (by omega),λb q a=> ?_,λ_ _=>rfl,λb a=>a.elim,?_,h.os,λb a=>a.elim⟩
 .obtain⟨e,l⟩:=a;subst e;obtain⟨c,c',t,fr,k,i,g⟩|⟨k,o,g,i,n⟩:=h.blk b l
  .exact aG ⟨c,c',t,fr,fr,k,i,aY.al (two m) g,λx=>x.elim,λ_=>rfl,λx=>x.1.elim⟩
  .exact aH (aG ⟨by omega,o,g,i,n⟩)
 .show _<U.heap.size/\_<V.heap.size;have:=f.low;have:=f.size;have:=h.size;omega
end
def Qz.gW:zq.globals.size=Tryz.prog.globals.size:=by rw[Qz.iM]
def Mn {fr v}(h:Apart zq Qm.prog.funcs Qm.Al fr [] v){c}(d:fr.mode= .panicking c)(g:lD c v):False:=by
 obtain⟨D,i⟩:=h;obtain⟨N,pa,bp,o,cp,j,k,pt,rows,e,_⟩:=g;have a:=i.frame.mode;rw[d,e]at a;cases a with
 |panicking h=>
  cases h with
  |cons h _=>
   have b:=h.1;dsimp only at b;cases b with
   |iface _ b=>
    cases b with
    |func f=>exact Qm.cq f
def Qz.Xp {k f fn}(h:Qz.Ak k f)(c:zq.funcs[f]? =aA fn):zq.inits.idxOf? f=aB:=by
 have b:((List.range 254).all λf=> !Qz.al f||(Tryz.prog.inits.idxOf? f).isNone)=aE:=by kernel_rfl
 have bW:f<254:=by have a:=(zAa.1 c).1;rw[EL.1]at a;exact a
 rw[Qz.iM];have h:(bif decide (f<254)then Qz.al f else(f==900219||k f))=aE:=h;rw[Dq (k:=λf=>f==900219||k f) bW]at h;have a:=zBq.1 b f (zBu.2 bW);rw[h]at a;simpa using a
def lD.re {c u}(h:lD c u)(b)(d):lD c (u.re b d):=by obtain⟨N,pa,bp,o,cp,f,D,pt,rows,e,a,hF⟩:=h;exact⟨N,pa,bp,o,cp,f,D,pt,rows,e,a,hF.re b d⟩
def Qm.Ds (K)(h:∀b,¬K b):cF ⟨zq.toTables,Qm.prog.funcs⟩ Qm.Al K:=by rw[Qz.Vq];exact Qm.jX K h
section
variable {R:zR}
def jump {vb}(d:yN)(f)(xs x)(k:CallKind)(own own')(v)(D)(Sh)(gs)(w)(t)(q)(sl)(π)(e:Tryz.prog.funcs[f]?≠zq.funcs[f]?)(j:xs.size<=20)(g:k= .normal\/Qz.Aj vb (900000+f))
  (hi:Apart zq Qm.prog.funcs Qm.Al (Frame.enter zq f xs k) own v\/BE zq Qm.prog.funcs Qm.Al f xs own v) (n:Main zq Tryz.prog.funcs (Qz.Aj vb) Sh gs w t q π (Frame.enter zq f xs k) own v (Frame.enter zq f x k) own') (l:gs[0]? =aA (G (Frame.enter ⟨zq.toTables,Tryz.prog.funcs⟩ f x k) own')) (c:own≠[]) (m:Closed zq Qz.Al D (Frame.enter zq f xs k) own v)
  (a:Go.Ren.Ends zq Qz.Al (Go.Ren.AtEnd zq R lD) (Frame.enter zq f xs k) own v):QE zq Tryz.prog.funcs Qz.Al (Qz.Aj vb) R lD (Apart zq Qm.prog.funcs Qm.Al) (Frame.enter zq f xs k,own,v) Sh π gs w sl t:=by
 have b:=zCb λh=>e (Qz.same h).symm;obtain rfl|rfl|rfl|rfl|rfl|rfl|rfl|rfl|rfl:=b
 .exact Tp j hi n l m a
 .exact To d j g hi n l c m a
 .obtain⟨_,h⟩|⟨_,i,_⟩:=hi
  .exact absurd h.frame.al Qm.Uy
  .exact absurd i Qm.Uy
 .exact(refused Qz.func149 rfl a).elim
 .exact(refused Qz.func150 rfl a).elim
 .exact(refused Qz.func151 rfl a).elim
 .exact(refused Qz.func152 rfl a).elim
 .exact(refused Qz.func153 rfl a).elim
 .exact(refused Qz.func154 rfl a).elim
def Left (R:zR)(D:zP)(W:zW)(b:zY)(w':zW):Prop:=
 ∃x v a S,R x v/\bF (Qz.Aj W.heap.size) a x b/\bQ zq (Qz.Aj W.heap.size) Go.Ren.K0 a (v.re w'.tape w'.drawn) w'/\iZ (cH D) (λ_=>False) W a S w'/\w'.tape=W.tape/\w'.os=W.os/\w'.output=W.output/\∀c,¬a W.heap.size c
def Sk (Yk:yN){f args V W D}(L:Qm.Al f)(bW:f<254)(s:¬Qz.jB f)(ha:aY (λ_=>False) (cH D) args args)(m:Start D V W)(hR:∀x u n d,R x u->R x (u.re n d))
  (h:∀n d,Calls zq f args (V.re n d) λe w'=>(∃x,e=aL x/\R x w')\/∃c,e= .panicked c/\lD c w')
  (hU:∀N,V.heap.size<=N->∃U R',Beside D N U V/\(∀w',¬R' .outgrown w')/\∀n d,Calls zq f args (U.re n d) R'):
  ∃M last o w' t',runNT Tryz.prog (M+1) (solo (G (Frame.enter Tryz.prog f args .normal) []) W) #[]=(.ended o w',t')/\runN Tryz.prog M (solo (G (Frame.enter Tryz.prog f args .normal) []) W)= .next last/\step Tryz.prog last= .ended o w'/\Conc.Good Tryz.prog (Left R D W) last o w' t':=by
 have g:∀b,¬Go.Ren.K0 b:=λb h=>h;have hf:=Qm.sub L;have Z:∀b p,cH D b p->cH (λx=>D x\/x=W.heap.size) b p:=λb p h=>⟨h.1,aG h.2⟩;have X:aY Qz.Al (cH λx=>D x\/x=W.heap.size) args args:=(aY.al (λ_ x=>x.elim) ha).mono Z;have haM:aY Qm.Al (cH λx=>D x\/x=W.heap.size) args args:=(aY.al (λ_ x=>x.elim) ha).mono Z;have haJ:aY (Qz.Aj W.heap.size) (cH D) args args:=aY.al (λ_ x=>x.elim) ha;have hfj:Qz.Aj W.heap.size f:=Qz.other bW hf;have I:=m.self Qz.Yi Qz.gW;have y:=HU Qz.nj Qz.jX hf X I (E:=lD) hR (λ_ _ n d h=>lD.re h n d) h;have hI:=Bh (Q:=zq) (fs:=Tryz.prog.funcs) (fm:=Qm.prog.funcs) (Al:=Qz.Al) (Am:=Qm.Al) Qz.Xb Qz.mz (Qz.jX _ g) Qm.Ds λf Rg=>by
   by_cases F:f=233;{rw[F];exact Qz.cu}
   .by_cases C:f=170
    .rw[C];exact Qz.cv
    .exact absurd (Qm.same F C) Rg
 have hfr:=qY (P:=zq) f args;have T:Closed zq Qz.Al (λx=>D x\/x=W.heap.size) (Frame.enter zq f args .normal) [] V:=⟨cL.enter (Qz.jX _ g) hf X (aG rfl),.nil,I,Qz.nj⟩;have hcM:Closed ⟨zq.toTables,Qm.prog.funcs⟩ Qm.Al (λx=>D x\/x=W.heap.size) (Frame.enter zq f args .normal) [] V:=by
  have e:Frame.enter zq f args .normal=Frame.enter ⟨zq.toTables,Qm.prog.funcs⟩ f args .normal:=by have F:f≠233:=λe=>s (by rw[e];decide);have C:f≠170:=λe=>s (by rw[e];decide);unfold Frame.enter;rw[Qm.same F C]
  rw[e];exact⟨cL.enter (Qm.Ds _ g) L haM (aG rfl),.nil,m.self Qm.Yi Qz.gW,Qm.nj⟩
 have w:Main zq Tryz.prog.funcs (Qz.Aj W.heap.size) (λ_=>False) #[G (Frame.enter Tryz.prog f args .normal) []] W #[] (λ_=>0) (cH D) (Frame.enter zq f args .normal) [] V (Frame.enter zq f args .normal) []:=
  ⟨leavers_one _ _,⟨⟨past_nil.clean,λi a F C=>(past_nil.known i a F C).imp id λx=>x.1.elim,past_nil.over,past_nil.hears,by simp⟩,λb j=>j.elim⟩,λb j=>j.elim,⟨cL.enter (Qz.yK _ _ g) hfj haJ (aG rfl),.nil,by
   have e:V.re W.tape W.drawn=V:=by rw[m.tape,m.drawn,gZ]
   rw[e];exact m.Jx ⟨Qz.ru,Qz.Yh⟩ Qz.gW⟩,λb p _ h=>h,λb j=>by obtain rfl:=Qz.QT j;exact⟨λp h=>absurd (m.lt _ h.2) (zEz _),m.Vn⟩⟩
 have hH:=Tc (P:=zq) (Al:=Qz.Al) (S:=Go.Ren.AtEnd zq R lD) Qz.jX T (A2:=Qz.Aj W.heap.size) (vb:=W.heap.size) (λk B=>Qz.QT B) (by have:=m.size;omega) λN hN=>by
  obtain⟨U,R',j,hR',hC⟩:=hU N hN;exact⟨Qz.Ab N,U,cH D,R',Qz.yK _ _ g,Qz.other bW hf,Qz.nbj,λk B=>Qz.av B,aY.al (λ_ x=>x.elim) ha,λn d=>j.Jx Qz.hasB m Qz.gW n d,j.size,λb p h=>h.1,λb p h e=>by rw[<-h.1]at e;subst e;exact absurd (m.lt _ h.2) (zEz _),hR',hC⟩
 obtain⟨N,Tt,w1,jq,t1,q1,z,H,fr1,v,q,r1,g1,A,hAt,⟨et,eo,eu⟩,K,t⟩:=Hh (Inv:=Apart zq Qm.prog.funcs Qm.Al) (InvE:=BE zq Qm.prog.funcs Qm.Al) Qz.shape Qz.res Qz.jX (Qz.yK _ _ g) hI (jump Yk) hH y (aG rfl) (λ_=>False) #[G (Frame.enter Tryz.prog f args .normal) []] W #[] (λ_=>0) aB (cH D) (λx=>D x\/x=W.heap.size) (Frame.enter zq f args .normal) [] w (by rw[GZ s];rfl) T ⟨_,hcM⟩;rw[Qz.back]at r1;have Y:=A.lv;rw[Qz.back]at Y;obtain⟨_,x,hx,hr⟩|⟨_,_,c,hm,he⟩:=hAt;rotate_left
 .exact(Mn K hm (by have:=he v.tape v.drawn;rwa [gZ]at this)).elim
 have O:Goes Tryz.prog aE Go.Conc.AtRel (λ_ _ _=>False) (Go.Conc.AtEnd Tryz.prog (λl=>∃b,blk l=aA b/\z b) w1.heap.size (Left R D W)) 0 (G q []) w1:=λw₁ r=>by obtain⟨d,rfl⟩:=r;have B:WN zq (Qz.Aj W.heap.size) Go.Ren.K0 H fr1 [] v q [] (w1.at d):=A.OR.rely rfl ⟨λ_ _ _=>rfl,zAb _,rfl⟩;obtain⟨x',es,hv,_,J,Nq⟩:=Nd Qz.shape rfl B hx (Qz.res _) (let⟨_,_,_,_,q4,_⟩:=hx v.tape v.drawn;Qz.Xp A.OR.frame.al q4);rw[Qz.back]at J;refine⟨rfl,x',es,J,λe he=>Oj (Sh:=z) (λb p j=>⟨A.off b p j,DX A.OR.world j⟩) (Nq e he),x,v,H,z,?_,hv,B.world,⟨t.sub,t.size,t.still⟩,et,eo,eu,(A.Vn _ Qz.Yh).1⟩;have:=hr v.tape v.drawn;rwa [gZ]at this
 obtain⟨N2,last,o,w',t',r2,r3,r4,r5⟩:=beside_ends (λ_ _ _ h=>h.elim) (sl:=jq) g1 Y A.calm.past O;have hs:solo (G (Frame.enter Tryz.prog f args .normal) []) W=crowd #[G (Frame.enter Tryz.prog f args .normal) []] W aB:=rfl;refine⟨N+N2,last,o,w',t',?_,?_,r4,r5⟩
 .rw[hs,zCc,runNT_add,r1];exact r2
 .rw[hs,<-runNT_fst _ _ _ #[],runNT_add,r1];rw[runNT_fst];exact r3
end
open Go.RowKit Go.Proofs Go.Ren Go.Conc
section
variable {N:Nat}{pa:zO}{bp o cp bt:Nat}{D:zP}{pt:Nat->zO}{rows:Nat->List (Nat×ByteArray)}{W W':zW}
def Gl (hF:Fork N pa bp o bt D pt rows W)(j:N<=cp):Calls zq 233 #[iU bt,jI pa N cp] W λe W'=>
  (e=aL (.tuple #[])/\eI (allRows rows N) W W')\/(e= .panicked (told (full #[iU bt,jI pa N cp]))/\oI W W'/\zb W W'):=by
 intro cs;have l:(full #[iU bt,jI pa N cp]).size=43:=lI (by simp);have h:=jW W aE;have i:Frame.enter zq 233 #[iU bt,jI pa N cp] .normal=gR (full #[iU bt,jI pa N cp]) [.code Qz.rZ]:=by rw[GX];rfl
 rw[i];by_cases m:Fz W.tape W.drawn=0
 .obtain⟨fr,own,B,⟨k,z,n,y,v⟩,a⟩:=Lone.steps (KM (S:=λfr own u=>own=[]/\u=(boxed W aE).re W.tape (W.drawn+1)/\fr.fn=233/\fr.mode= .panicking (told (full #[iU bt,jI pa N cp]))/\fr.defers=[]) W.tape W.drawn m l λfr r q p _=>⟨rfl,rfl,r,q,p⟩);subst k;subst z;exact⟨.panicked (told (full #[iU bt,jI pa N cp])),(boxed W aE).re W.tape (W.drawn+1),fr,aH ⟨rfl,⟨h.size,h.old,h.new⟩,⟨rfl,rfl,rfl,h.size,h.old⟩⟩,a,n,y,v,Qz.f233,by rw[n];exact Qz.func233⟩
 .have A:(full #[iU bt,jI pa N cp]).getD 0 aER=iU bt:=by{rw[zAt,UT];rfl};have k:(full #[iU bt,jI pa N cp]).getD 1 aER=jI pa N cp:=by rw[zAt,US];rfl
  have f:=Dl N pa bp o cp bt D pt rows W hF j ((boxed W aE).re W.tape (W.drawn+1)) λb c=>by
   have bW:b<W.heap.size:=by obtain c|⟨s,rfl⟩:=c;{exact nV hF.plain c};{exact(hF.af s).1}
   exact h.old b bW
  have t:Calls zq 170 #[(full #[iU bt,jI pa N cp]).getD 0 aER,(full #[iU bt,jI pa N cp]).getD 1 aER] ((boxed W aE).re W.tape (W.drawn+1)) λe W'=>(∃x,e=aL x)/\eI (allRows rows N) ((boxed W aE).re W.tape (W.drawn+1)) W':=by rw[A,k];exact f
  obtain⟨w,fr,d,a,g,hl⟩:=VO l W.tape W.drawn m t cs;refine⟨aL (.tuple #[]),w,fr,aG ⟨rfl,zAw h.size d.size,λb c=> ?_,d.os,d.tape,d.output⟩,a,g,hl⟩;exact(d.heap b (zAc c h.size)).trans (fS _ (h.old b c))
end
end Go.Ga
namespace Go.Proofs
open Go.Ga
@[simp]def Qz.call13:=Qz.cl func13
@[simp]def Qz.call14:=Qz.cl func14
@[simp]def Qz.call15:=Qz.cl func15
@[simp]def Qz.call16:=Qz.cl func16
@[simp]def Qz.call19:=Qz.cl func19
@[simp]def Qz.call20:=Qz.cl func20
@[simp]def Qz.call21:=Qz.cl func21
@[simp]def Qz.call22:=Qz.cl func22
@[simp]def Qz.call23:=Qz.cl func23
@[simp]def Qz.call24:=Qz.cl func24
@[simp]def Qz.call25:=Qz.cl func25
@[simp]def Qz.call33:=Qz.cl func33
@[simp]def Qz.call34:=Qz.cl func34
@[simp]def Qz.call35:=Qz.cl func35
@[simp]def Qz.call36:=Qz.cl func36
@[simp]def Qz.call37:=Qz.cl func37
@[simp]def Qz.call38:=Qz.cl func38
@[simp]def Qz.call39:=Qz.cl func39
@[simp]def Qz.call40:=Qz.cl func40
@[simp]def Qz.call41:=Qz.cl func41
@[simp]def Qz.call52:=Qz.cl func52
@[simp]def Qz.call53:=Qz.cl func53
@[simp]def Qz.call54:=Qz.cl func54
@[simp]def Qz.call55:=Qz.cl func55
@[simp]def Qz.call56:=Qz.cl func56
@[simp]def Qz.call57:=Qz.cl func57
@[simp]def Qz.call58:=Qz.cl func58
@[simp]def Qz.call59:=Qz.cl func59
@[simp]def Qz.call60:=Qz.cl func60
@[simp]def Qz.call61:=Qz.cl func61
@[simp]def Qz.call63:=Qz.cl func63
@[simp]def Qz.call64:=Qz.cl func64
@[simp]def Qz.call65:=Qz.cl func65
@[simp]def Qz.call76:=Qz.cl func76
@[simp]def Qz.call77:=Qz.cl func77
@[simp]def Qz.call78:=Qz.cl func78
@[simp]def Qz.call79:=Qz.cl func79
@[simp]def Qz.call80:=Qz.cl func80
@[simp]def Qz.call81:=Qz.cl func81
@[simp]def Qz.call82:=Qz.cl func82
@[simp]def Qz.call83:=Qz.cl func83
@[simp]def Qz.call84:=Qz.cl func84
@[simp]def Qz.call85:=Qz.cl func85
@[simp]def Qz.call87:=Qz.cl func87
@[simp]def Qz.call88:=Qz.cl func88
@[simp]def Qz.call95:=Qz.cl func95
@[simp]def Qz.call96:=Qz.cl func96
@[simp]def Qz.call97:=Qz.cl func97
@[simp]def Qz.call98:=Qz.cl func98
@[simp]def Qz.call99:=Qz.cl func99
@[simp]def Qz.call100:=Qz.cl func100
@[simp]def Qz.call101:=Qz.cl func101
@[simp]def Qz.call107:=Qz.cl func107
@[simp]def Qz.call108:=Qz.cl func108
@[simp]def Qz.call109:=Qz.cl func109
@[simp]def Qz.call110:=Qz.cl func110
@[simp]def Qz.call117:=Qz.cl func117
@[simp]def Qz.call118:=Qz.cl func118
@[simp]def Qz.call121:=Qz.cl func121
@[simp]def Qz.call127:=Qz.cl func127
@[simp]def Qz.call128:=Qz.cl func128
@[simp]def Qz.call130:=Qz.cl func130
@[simp]def Qz.call133:=Qz.cl func133
@[simp]def Qz.call161:=Qz.cl func161
@[simp]def Qz.call214:=Qz.cl func214
@[simp]def Qz.call215:=Qz.cl func215
@[simp]def Qz.call216:=Qz.cl func216
@[simp]def Qz.call217:=Qz.cl func217
@[simp]def Qz.call220:=Qz.cl func220
@[simp]def Qz.call221:=Qz.cl func221
@[simp]def Qz.call222:=Qz.cl func222
@[simp]def Qz.call223:=Qz.cl func223
@[simp]def Qz.call224:=Qz.cl func224
@[simp]def Qz.call225:=Qz.cl func225
@[simp]def Qz.call226:=Qz.cl func226
@[simp]def Qz.call227:=Qz.cl func227
@[simp]def Qz.call228:=Qz.cl func228
@[simp]def Qz.call229:=Qz.cl func229
@[simp]def Qz.call230:=Qz.cl func230
@[simp]def Qz.call231:=Qz.cl func231
@[simp]def Qz.call232:=Qz.cl func232
@[simp]def Qz.call234:=Qz.cl func234
@[simp]def Qz.call237:=Qz.cl func237
@[simp]def Qz.call238:=Qz.cl func238
@[simp]def Qz.call239:=Qz.cl func239
@[simp]def Qz.call241:=Qz.cl func241
@[simp]def Qz.call242:=Qz.cl func242
@[simp]def Qz.call243:=Qz.cl func243
@[simp]def Qz.call246:=Qz.cl func246
@[simp]def Qz.call219:=Qz.call Qz.func219
@[simp]def Qz.call233:=Qz.call Qz.func233
end Go.Proofs
namespace Go.Proofs.Zq.Sha
open Go
def ofInt32 (a:BitVec 32):aE9 32 (a.toNat:Int)=a:=by apply BitVec.eq_of_toNat_eq;simp
def Ps (a b:BitVec 32):bits .and aO (a.toNat:Int) (b.toNat:Int)=((a&&&b).toNat:Int):=by show IntKind.u32.wrap ((aE9 32 (a.toNat:Int)&&&aE9 32 (b.toNat:Int)).toNat:Int)=_;rw[ofInt32,ofInt32,aFf];have:=(a&&&b).isLt;omega
def Dw (a b:BitVec 32):bits .or aO (a.toNat:Int) (b.toNat:Int)=((a|||b).toNat:Int):=by show IntKind.u32.wrap ((aE9 32 (a.toNat:Int)|||aE9 32 (b.toNat:Int)).toNat:Int)=_;rw[ofInt32,ofInt32,aFf];have:=(a|||b).isLt;omega
def VX (a b:BitVec 32):bits .xor aO (a.toNat:Int) (b.toNat:Int)=((a^^^b).toNat:Int):=by show IntKind.u32.wrap ((aE9 32 (a.toNat:Int)^^^aE9 32 (b.toNat:Int)).toNat:Int)=_;rw[ofInt32,ofInt32,aFf];have:=(a^^^b).isLt;omega
def Pr (a:BitVec 32):bits .xor aO 4294967295 (a.toNat:Int)=((~~~a).toNat:Int):=by
 have h:=VX (aFa 32 4294967295) a;have e:((aFa 32 4294967295).toNat:Int)=4294967295:=by decide
 rw[e]at h;rw[h];congr 2
def mW (n):((2^n:Nat):Int)=(2:Int)^n:=by
 induction n with
 |zero=>rfl
 |succ n i=>rw[Nat.pow_succ,aFj,i,Int.pow_succ];rfl
def Fu (a:BitVec 32)(n):IntKind.u32.wrap ((a.toNat:Int)*2^n)=((a<<<n).toNat:Int):=by rw[aFf,BitVec.toNat_shiftLeft,Nat.shiftLeft_eq,<-mW,Int.natCast_emod,aFj];rfl
def Fs (a:BitVec 32)(n):(a.toNat:Int).fdiv (2^n)=((a>>>n).toNat:Int):=by rw[BitVec.toNat_ushiftRight,Nat.shiftRight_eq_div_pow,<-mW,aFk _ (zDz _),Int.natCast_ediv]
def uK (x:BitVec 32)(n:Nat):BitVec 32:=x>>>n|||x<<<(32-n)
def S0 (x:BitVec 32):BitVec 32:=uK x 2^^^uK x 13^^^uK x 22
def S1 (x:BitVec 32):BitVec 32:=uK x 6^^^uK x 11^^^uK x 25
def s0 (x:BitVec 32):BitVec 32:=uK x 7^^^uK x 18^^^x>>>3
def s1 (x:BitVec 32):BitVec 32:=uK x 17^^^uK x 19^^^x>>>10
def add_mod (a b:BitVec 32):((a.toNat:Int)+(b.toNat:Int))%4294967296=((a+b).toNat:Int):=by rw[BitVec.toNat_add];omega
def Ci (a:BitVec 32)(n):((a.toNat:Int)*2^n)%4294967296=((a<<<n).toNat:Int):=by rw[<-Fu,aFf]
def Ch (a:BitVec 32)(n):(a.toNat:Int)/2^n=((a>>>n).toNat:Int):=by rw[<-Fs,<-mW,aFk _ (zDz _)]
def Sn (x:BitVec 32)(n):bits .or aO ((x.toNat:Int)*2^(32-n)%4294967296) ((x.toNat:Int)/2^n)=((uK x n).toNat:Int):=by rw[Ci,Ch,Dw,uK,BitVec.or_comm]
def Ba (a b:BitVec 32):bits .and aQ (a.toNat:Int) (b.toNat:Int)=((a&&&b).toNat:Int):=by
 have f:=a.isLt;have h:=b.isLt;have d:a.toNat&&&b.toNat<2^32:=Nat.and_lt_two_pow _ h;show IntKind.u64.wrap ((aE9 64 (a.toNat:Int)&&&aE9 64 (b.toNat:Int)).toNat:Int)=_;have e:∀c:BitVec 32,(aE9 64 (c.toNat:Int)).toNat=c.toNat:=λc=>by have:=c.isLt;rw[aFb,aFc];exact aFl (by omega)
 rw[aFd,e,e,aFd];simp only[aFg,aFh,aFi];simp;omega
def Az (a b:BitVec 32):bits .xor aQ (a.toNat:Int) (b.toNat:Int)=((a^^^b).toNat:Int):=by
 have d:=a.isLt;have h:=b.isLt;have f:=Nat.xor_lt_two_pow d h;show IntKind.u64.wrap ((aE9 64 (a.toNat:Int)^^^aE9 64 (b.toNat:Int)).toNat:Int)=_;have e:∀c:BitVec 32,(aE9 64 (c.toNat:Int)).toNat=c.toNat:=λc=>by have:=c.isLt;rw[aFb,aFc];exact aFl (by omega)
 rw[aFe,e,e,aFe];simp only[aFg,aFh,aFi];simp;omega
def cj (a:BitVec 32):(4294967295:Int)-(a.toNat:Int)=((~~~a).toNat:Int):=by have:=a.isLt;rw[BitVec.toNat_not];omega
def V (x:BitVec 32):Int:=(x.toNat:Int)
def Qb (x:BitVec 32):0<=V x:=zDz _
def tf (x:BitVec 32):V x<4294967296:=by have:=x.isLt;unfold V;omega
def V_add (a b:BitVec 32):(V a+V b)%4294967296=V (a+b):=add_mod a b
def V_and (a b:BitVec 32):bits .and aO (V a) (V b)=V (a&&&b):=Ps a b
def V_or (a b:BitVec 32):bits .or aO (V a) (V b)=V (a|||b):=Dw a b
def V_xor (a b:BitVec 32):bits .xor aO (V a) (V b)=V (a^^^b):=VX a b
def V_not (a:BitVec 32):bits .xor aO IntKind.u32.max (V a)=V (~~~a):=Pr a
def V_shr (a:BitVec 32)(n:Nat):V a/2^n=V (a>>>n):=Ch a n
def ij (a:BitVec 32)(n:Nat):(V a*2^n)%4294967296=V (a<<<n):=Ci a n
def ik (x:BitVec 32)(n):bits .or aO (V x*2^(32-n)%4294967296) (V x/2^n)=V (uK x n):=Sn x n
def lj (a b:BitVec 32):bits .and aQ (V a) (V b)=V (a&&&b):=Ba a b
def V64_xor (a b:BitVec 32):bits .xor aQ (V a) (V b)=V (a^^^b):=Az a b
def lh (a:BitVec 32):4294967295-V a=V (~~~a):=cj a
def im (a:BitVec 32):IntKind.u64.wrap (V a)=V a:=by have b:=Qb a;have h:=tf a;simp only[aFg,aFh,aFi];simp;omega
def Zc (a:BitVec 32):V a/(8:Int)=V (a>>>3):=V_shr a 3
def Un (a:BitVec 32):V a/(1024:Int)=V (a>>>10):=V_shr a 10
end Go.Proofs.Zq.Sha
namespace Go.Proofs.Zq.Tail
open Go Go.RowKit Go.Sort
section
variable {P:zZ}{ops:zQ}{md:Region.Mode}{C:zW->Prop}
def fX (P:zZ)(md:Region.Mode)(ops:zQ)(C:zW->Prop)(n:Nat)(L:Array Bool->Act->Prop):Nat->Array Bool->Act->Prop
 |0,listed,a=>L listed a
 |f+1,listed,a=>Region.ready md ops listed≠[]/\∀i∈Region.ready md ops listed,i<n/\qOp P ops C i (fX P md ops C n L f (listed.setIfInBounds i aE)) a
def PV {n g L Q}(j:∀listed a w,C w->L listed a->wpAny P md ops Q g listed a w)(f):
  ∀(listed)(a)(w),C w->fX P md ops C n L f listed a->wpAny P md ops Q (f+g) listed a w:=by
 induction f with
 |zero=>intro listed a w c h;rw[zAx];exact j _ _ _ c h
 |succ f e=>intro listed a w c h;rw[show f+1+g=(f+g)+1 from by omega];exact⟨λk=>absurd k h.1,λi hi=>wpOp_of_qOp c (λm d b l=>e _ m d b l) (h.2 i hi).2⟩
def ZR {n i t v L}(hi:ops[i]? =aA t)(u:Region.noSelect ops=aE)
  (hs:Region.sinkB md ops n=aE) (I:Region.chainB md ops n=aE) (G:n<ops.size) (z:i<n)
  (r:∀listed a,L listed a->∀j∈Region.ready md ops listed,n<=j) (f):
  ∀(listed)(a),HeadInv md ops n listed->
   (∀j o,ops[j]? =aA o->j≠i->listed.getD j aE=aF->(∀e∈o.after,Region.binds md e=aE->e.on≠i)->t.apart ops o=aE)->
   i∈Region.ready md ops listed->YieldsIn P ops C t v a->
   fX P md ops C n L f (listed.setIfInBounds i aE) (a.put t.dst v)->fX P md ops C n L (f+1) listed a:=by
 have bh:=Region.noSelect_spec u;induction f with
 |zero=>intro listed a inv _ s B H;have l:=(mem_ready.1 s).1;refine⟨List.ne_nil_of_mem s,λj q=> ?_⟩;have d:=aFm λh=>tail_waits hs I G inv _ i rfl z l j h q;by_cases c:j=i;{subst c;exact⟨d,B.qOp hi H⟩};{have:=r _ _ H j (ready_mono q c);omega}
 |succ f M=>
  intro listed a inv g s B H;have l:=(mem_ready.1 s).1;refine⟨List.ne_nil_of_mem s,λj q=> ?_⟩;have d:=aFm λh=>tail_waits hs I G inv _ i rfl z l j h q;by_cases c:j=i;{subst c;exact⟨d,B.qOp hi H⟩}
  refine⟨d,?_⟩;obtain⟨m,o,p,A⟩:=mem_ready.1 q;have w:∀e∈o.after,Region.binds md e=aE->e.on≠i:=λe O Q F=>by have K:=A e O Q;rw[F,getD_both l]at K;cases K
  have R:=qOp_put p (g j o p c m w) (λcs b=>bh i t cs b hi) (λcs b=>bh j o cs b p) B (H.2 j (ready_mono q c)).2;refine qOp_mono (λS J=>M (listed.setIfInBounds j aE) S (inv.set q d) (λk ok N E x D=>g k ok N E ?_ D) (ready_mono s (zEa c)) J.1 ?_) R
  .by_cases y:j=k
   .subst y;exact m
   .rw[getD_set_ne aE y]at x;exact x
  .rw[zEp _ _ c];exact J.2
def Hz {n g L}(c:Region.noSelect ops=aE)(hs:Region.sinkB md ops n=aE)(x:Region.chainB md ops n=aE)(u:n<ops.size)(l):
  ∀(k)(listed)(a),(∀j,j<l.length->l[j]? =ops[k+j]?)->k+l.length=n->HeadInv md ops n listed->
  Region.lexHead md ops g l.length k listed=aE->wpQuiet P ops C L l a->
  fX P md ops C n (λb p=>Region.seqB md ops g n b=aE/\L p) l.length listed a:=by
 induction l with
 |nil=>intro k listed a _ i _ e h;obtain rfl:k=n:=by{simpa using i};exact⟨e,h⟩
 |cons o l q=>intro k listed a hl i inv e h;have f:ops[k]? =aA o:=by{simpa using(hl 0 (by simp)).symm};simp only[zAh,Region.lexHead,zBc]at e;simp only[zAh]at i;obtain⟨⟨s,w⟩,m⟩:=e;have d:k∈Region.ready md ops listed:=by{simpa using s};have t:qOp P ops C k (wpQuiet P ops C L l) a:=by{unfold qOp;simp only[f];exact h};obtain⟨v,r,z⟩:=yieldsIn_of_qOp f t;refine ZR f c hs x u (by omega) (λb p y=>seqB_ready y.1) l.length listed a inv (Region.free_spec f w) d r ?_;refine q (k+1) _ _ (λj A=> ?_) (by omega) (inv.set d (by omega)) m z;have:=hl (j+1) (by simp;omega);simpa [zCc,zFw 1 j]using this
def lU {id Q a w}{l:List Oper}(n)(u:P.follows .mixedOrders=aE)(p:Region.lexTailB .any l.toArray n=aE)
  (x:C {w with drawn:=w.drawn+1})
  (h:wpQuiet P l.toArray C (λa'=>∀w',C w'->wpList P l.toArray Q (l.drop n) a' w') (l.take n) a):(Code.region id l.toArray aE).wp P Q a w:=by
 simp only[Region.lexTailB,zBc,zBl]at p;obtain⟨⟨⟨⟨c,k⟩,r⟩,v⟩,d⟩:=p;have s:n<l.length:=by simpa using k
 have b:(l.take n).length=n:=by simp;omega
 have e:(l.drop n).length=l.toArray.size-n:=by simp
 have i:HeadInv .any l.toArray n (aEz l.toArray.size aF):=
  ⟨by simp,λj y _ hl=>(by rw[getD_replicate_false]at hl;cases hl),λt _ q=>getD_in (by simpa using q) (getD_replicate_false _ _)⟩
 have H:=Hz c r v k (l.take n) 0 _ a (λj m=>by
  have g:j<n:=by rw[b]at m;exact m
  simp[g]) (by simpa using b) i (by rw[b];exact d) h
 refine wp_region_any u ?_;have:=PV (λlisted a' w' f o=>by have:=wpAny_of_seq (l.drop n) n listed a' w' (λj=>by simp[zEu]) (by rw[e];exact o.1) (o.2 w' f);rwa [e]at this) _ _ _ _ x H
 rw[b,show n+(l.toArray.size-n)=l.toArray.size by omega]at this;exact this
def Eu {id:Nat}{Q:zX}{a:Act}{w:zW}{l:List Oper}(n:Nat)(b:P.follows .mixedOrders=aE)(c:Region.lexTailB .any l.toArray n=aE)
  (h:wpQuiet P l.toArray (λw'=>∃n,w'=w.drewN n) (λa'=>∀w',(∃n,w'=w.drewN n)->wpList P l.toArray Q (l.drop n) a' w') (l.take n) a):(Code.region id l.toArray aE).wp P Q a w:=
 lU (C:=λw'=>∃n,w'=w.drewN n) n b c ⟨1,rfl⟩ h
def vJ {id:Nat}{Q:zX}{a:Act}{w:zW}{l:List Oper}(n:Nat)(b:P.follows .mixedOrders=aE)(c:Region.lexTailB .any l.toArray n=aE)
  (h:wpQuiet P l.toArray (λw'=>∃p:Regrown,w'=grow (redrawn w p.d) p.os) (λa'=>∀w',(∃p:Regrown,w'=grow (redrawn w p.d) p.os)->wpList P l.toArray Q (l.drop n) a' w') (l.take n) a):(Code.region id l.toArray aE).wp P Q a w:=
 lU (C:=λw'=>∃p:Regrown,w'=grow (redrawn w p.d) p.os) n b c ⟨⟨w.drawn+1,#[]⟩,by rw[grow_empty];rfl⟩ h
end
end Go.Proofs.Zq.Tail
