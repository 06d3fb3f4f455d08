import Derived.ProofKit
import Derived.RowKit3
import Derived.WalkKit
import Derived.Deep.LoopGhost
import Derived.Deep.Light
import Derived.LoopN
import Derived.Laws.BitsAllLaws
import Derived.StillTail
import Derived.Deep.Quiet
import Derived.Deep.QuietTactic
import Derived.BigQuiet
import Derived.Lib.QuietBelow
import Derived.Test.YtghpcgagijhlaaaGreatDoorG05
set_option linter.all false
set_option maxRecDepth 100000
set_option maxHeartbeats 16000000
open Option renaming some->aA,none->aB
open Bool renaming true->aF,false->aG
open Or renaming inl->aH,inr->aI
open Go.Ending renaming returned->aM
open Go.Item renaming inRegion->aN
open Go.Obj renaming cells->aJ
open Go.IntKind renaming i64->aD,u32->aP,u64->aR,u8->aQ
open Array renaming replicate->Bt
open BitVec renaming ofInt->Fh,toNat_shiftLeft->aME,toNat_ushiftRight->aMF,toNat_or->aMG,toNat_and->aMH,toNat_xor->aMI
open Go renaming undef->ij
open Go.IntKind renaming wrap_u32'->NM,wrap->NL,bits->NK,signed->Mz
open Int renaming natCast_emod->My,natCast_mul->aMO,fdiv_eq_ediv_of_nonneg->aMP,natCast_nonneg->OH
open Nat renaming shiftRight_eq_div_pow->aMR,div_le_self->aMS
open Go.Proofs.Tryz
open List renaming length->zAH,toArray->zAL
open Array renaming setIfInBounds->zAI,toList->zAM
open Go.World renaming setCell->zAJ,alloc->zAK
open Go.Proofs.Tryz renaming prog->zAN
section
variable {P:Prop}
def P4(h:P:=by simp only[NL,NK,Mz];exact j3):=h
def P5(h:P:=by obtain⟨p,hp,hD,E⟩:=hrel i hi P F;have:=(hold _ _ E).1;exact bm):=h
def j9(h:P:=by go_num):=h
def zAA(h:P:=by obtain⟨d,rfl⟩:=r;exact⟨d,rfl⟩):=h
end
namespace Go
abbrev Dc:=@Go.below_regrown
abbrev Em:=@Go.wp_region_quiet_below
abbrev Dn:=@Go.wpQuiet_nil
abbrev Im:=@Go.Calls.quiet_of_same
end Go
namespace Go.Proofs
open Go.RowKit Go.Ren
section
variable {Q Q':zZ}(w:zW)
def XG {t}(h:Q.info? t=aB)(u)(es):(typeInfo t).runT Q u es=(.halt (.stuck "no such type") u,es):=by show(match Q.info? t with|some i=>pure i|none=>stuck "no such type":Sem TypeInfo).runT Q u es=_;rw[h];rfl
def Jn {t}(h:Q.underlying t=aB)(u)(es):(underlying t).runT Q u es=(.halt (.stuck "no such type") u,es):=E9
def JC {t}(h:Q.info? t=Q'.info? t)(u)(es):(typeInfo t).runT Q u es=(typeInfo t).runT Q' u es:=by cases hi:Q'.info? t with|none=>rw[XG (h.trans hi),XG hi]|some i=>rw[GY (h.trans hi),GY hi]
def Iz {t}(h:Q.underlying t=Q'.underlying t)(u)(es):(underlying t).runT Q u es=(underlying t).runT Q' u es:=by cases hi:Q'.underlying t with|none=>rw[Jn (h.trans hi),Jn hi]|some i=>rw[uJ (h.trans hi),uJ hi]
def ay {t}(h:Q.underlying t=Q'.underlying t)(u)(es):(isAgg t).runT Q u es=(isAgg t).runT Q' u es:=by unfold isAgg;rw[bI,bI,Iz h];cases(underlying t).runT Q' u es with|mk r e=>cases r with|ok d u1=>cases d<;>rfl|halt h u1=>rfl
def Sr {t}(h:Q.info? t=Q'.info? t)(u)(es):(zeroValue t).runT Q u es=(zeroValue t).runT Q' u es:=by unfold zeroValue;rw[bI,bI,JC h];cases(typeInfo t).runT Q' u es with|mk r e=>cases r with|ok i u1=>dsimp only;cases i.zero<;>rfl|halt h u1=>rfl
def KB {α}{s:Sem α}(h:∀u es,s.runT Q u es=s.runT Q' u es):s.run Q w=s.run Q' w:=by rw[<-Sem.runT_fst Q _ _ #[],h,Sem.runT_fst]
end
section
variable(w:zW)
@[simp]theorem Qz.typeInfo (n:zD):(typeInfo n).run zq w=(typeInfo n).run zAN w:=KB w λu e=>JC (Qz.info n) u e
@[simp]theorem Qz.zAa (n):(underlying n).run zq w=(underlying n).run zAN w:=KB w λu e=>Iz (Qz.eR n) u e
@[simp]theorem Qz.sizeOf (n):(Go.sizeOf n).run zq w=(Go.sizeOf n).run zAN w:=KB w λu e=>by unfold Go.sizeOf;rw[bI,bI,JC (Qz.info n)];exact j1
@[simp]theorem Qz.isAgg (n:zD):(isAgg n).run zq w=(isAgg n).run zAN w:=KB w λu e=>ay (Qz.eR n) u e
@[simp]theorem Qz.zeroValue (n:zD):(zeroValue n).run zq w=(zeroValue n).run zAN w:=KB w λu e=>Sr (Qz.info n) u e
@[simp]theorem Qz.aGO (t):zq.underlying t=Tryz.prog.underlying t:=Qz.eR t
end
def Qz.fn {f:zN}{fn:Func}(a:Tryz.prog.funcs[f]? =aA fn)(h:¬Qz.kP f:=by decide):zq.funcs[f]? =aA fn:=(Qz.same h).trans a
end Go.Proofs
namespace Go.Ga
open Go.RowKit Go.Proofs Go.Ren
def Qz.call {f:zN}{fn:Func}{c:Code}(a:zq.funcs[f]? =aA fn)(h:(fn.name== "runtime.NumGoroutine")=aG:=by kernel_rfl)(b:fn.body=aA c:=by rfl)(xs:zA)(w:zW):(callFunc f xs).run zq w= .ok (.enter f xs) w:=by rw[<-Sem.runT_fst zq _ _ #[],nF a h b]
def Qz.cl {f:zN}{fn:Func}{c:Code}(b:Tryz.prog.funcs[f]? =aA fn)(h:¬Qz.kP f:=by decide)(a:(fn.name== "runtime.NumGoroutine")=aG:=by kernel_rfl)(d:fn.body=aA c:=by rfl)(xs:zA)(w:zW):=Qz.call (Qz.fn b h) a d xs w
@[simp]def Qz.aAp:=Qz.call (Qz.fn Tryz.func235)
@[simp]def Qz.aAo:=Qz.call (Qz.fn Tryz.func236)
def aMc {w:zW}{g:Nat}{cs:zA}{t:zD}(h:w.heap[g]? =aA (aJ cs t (0,0)))(i:Nat):w.frozen? (g,i)=aG:=eI h i
def zAz (w:zW)(c:Nat)(s:ByteArray)(o:Obj):fB [(c,s)] w (zAK (zAJ w (c,4) (.string s)) o):=by have h:(zAJ w (c,4) (.string s)).heap.size=w.heap.size:=lP _ _ _;refine⟨j1,λb a=> ?_,rfl,rfl,rfl⟩;rw[alloc_old _ _ (h▸a)];rfl
def MJ:Ro:=by intro rows q l cp W E hl J a d;obtain rfl:l=zAH rows:=E.1;have P:=hid E;have S:=hid a;have Q:=hid d;clear E a d;go_enter (Qz.fn func235),ntmps235;go_wp2_with fail;go_loopg [6] (zAH rows) (λn x wr=>∃(j:Nat),j+n=zAH rows/\x= .int aD (j:Int)/\fB (rows.take j) W wr);(case atStart=>exact⟨0,bm,rfl,fB.nil⟩);case round=>obtain⟨j,X,rfl,c1⟩:=hrel;have C:=hid c1;clear c1;by_cases h:j<zAH rows;{have I:rows≠[]:=λe=>by{rw[e]at h;simp at h};let⟨g,U,e,G⟩:=P.2 I;subst e;let⟨r,k1⟩:=G j rows[j] (Be h);have f:=Fp h;have k:=Q _ rfl;dsimp only at k;have B:g<W.heap.size:=by{unfold World.cell? at r;dsimp only at r;cases hb:W.heap[g]? with|none=>rw[hb]at r;cases r|some V=>exact(Ax.1 hb).1};have w:=(C.heap g B).trans (iL _ λp L=>Dp (k p (List.mem_of_mem_take L)));have m:∀i,wr.cell? (g,i)=W.cell? ⟨g,i,aB⟩:=λi=>by{simp only[World.cell?];rw[w]};let⟨F,o,u⟩:=S _ f;let⟨O,b,D⟩:=nG (rows.take j) ⟨F,o,u⟩;rw[<-C.out.heap _ (Ax.1 o).1]at b;have K0:=(m _).trans r;have K1:=(m _).trans k1;have K:=(Ax.1 b).1;generalize z:rows[j].1=c at*;generalize t:rows[j].2=s at*;have H:rows[j]? =aA (c,s):=by{rw[Be h,<-z,<-t]};have R:=hid H;clear H;obtain⟨T,A⟩:∃y,O[4]? =aA y:=⟨_,Ef bm⟩;have M:=(bG b 4).trans A;have N:=eI b 4;clear G f k w m o u b D r k1 I z t;go_wp2_with fail;go_roundg (zAH rows-(j+1));(case measure=>omega);case rel=>go_light;refine⟨j+1,bm,j9,?_⟩;rw[Hg,R.out];exact C.out.trans (zAz wr c s _)};.have v:j=zAH rows:=bm;subst v;go_wp2;go_end0;refine⟨rfl,?_⟩;have:=C.out;rwa [KC bm]at this
def Qz.ntmps170:Qz.f170.ntmps=43:=rfl
def Vi {N:Nat}(c:N<2147483648)(w:zW):(Instr.makeSlice 287 (.int aD (N:Int)) (.int aD (N:Int))).run zq w= .ok (.slice w N N) (zAK w (aJ (madeCells #[.slice aB 0 0] N) 283)):=by let⟨i,b,a,h,d⟩:=TP;have e:=run_make w 287 283 i (.slice aB 0 0) j1 ((Qz.info 283).trans b) a aD aD N N bm bm ji bm;rw[h]at e;simpa [Value.cells]using e
theorem gS.lt {rows:List (Nat×ByteArray)}{q:zO}{l:Nat}{w:zW}(h:gS rows q l w)(c:rows≠[]){a:Addr}(d:q=aA a):a.block<w.heap.size:=by let⟨g,o,e,b⟩:=h.2 c;rw[d]at e;cases e;obtain⟨p,hp⟩:∃p,rows[0]? =aA p:=by{cases rows<;>simp_all};have f:=(b 0 p hp).1;unfold World.cell? at f;exact ji
def gS.stays {rows:List (Nat×ByteArray)}{q:zO}{l:Nat}{w w':zW}(h:gS rows q l w)(hk:rows≠[]->∀a,q=aA a->a.block<w.heap.size->w'.heap[a.block]? =w.heap[a.block]?):gS rows q l w':=by by_cases b:rows=[];{exact⟨h.1,ji⟩};grind[lt,keep]
def kv (rows:Nat->List (Nat×ByteArray))(W w:zW)(cs:zA)(j:Nat):Prop:=∀i,i<j->∃q l cp,cs[i]? =aA (.slice q l cp)/\l<=cp/\gS (rows i) q l w/\∀a,q=aA a->W.heap.size<a.block
def Kr:CO:=by intro N pa bp o cp bt D pt rows u hF hcp W t;have hlt:=hF.lt;have U:=Vi (N:=N) bm;have H:=hid hF;have Z:=hid t;have Q:Hid (∀b,D b->b<W.heap.size):=λb k=>by{have g:=t b (aH k);have m:=pB hF.plain k;rw[Ef m]at g;exact(Ax.1 g).1};have HB:Hid (0<N->bp<W.heap.size):=λh0=>by{have g:=t bp (aI ⟨h0,rfl⟩);have m:=(hF.ur h0).1;rw[Ef m]at g;exact(Ax.1 g).1};clear hF t;dsimp only[jF,jX];go_enter Qz.func170,Qz.ntmps170;unfold Qz.Ic;go_wp2_with fail;go_loopg [28] N (λq x wr=>∃(j:Nat)(cs:zA),j+q=N/\x= .int aD (j:Int)/\zb W wr/\wr.heap[W.heap.size]? =aA (aJ cs 283 (0,0))/\cs.size=N/\kv rows W wr cs j);(case atStart=>exact⟨0,madeCells #[.slice aB 0 0] N,bm,rfl,(Av _ _).alloc (je _) _,by show(W.heap.push _)[W.heap.size]? =_;exact j0,size_madeCells _ _,λi h=>bm⟩);case round=>obtain⟨j,cs,hj,rfl,c1,c2,c3,c4⟩:=hrel;have C:=hid c1;have O:=hid c2;have C4:=hid c4;clear c1 c2 c4 U;by_cases L:j<N;{have S:=H.pae bm;have V:=HB bm;subst S;have k0:wr.cell? (bp,o+j)=aA (.pointer (pt j)):=by{rw[<-H.out.q0 j L];simp only[World.cell?];rw[C.out.block bp V,Z.out bp (aI ⟨bm,rfl⟩)]};have Hv:Hid (EL D u wr):=λb k ob T=>aH (by rw[C.out.block b (Q.out b k),Z.out b (aH k)];exact T);go_wp2_with fail;refine(H.work j L wr Hv).mono ?_;rintro e w2 ⟨E,F,v,rfl,hle,n,y,d⟩;have I:=C.size;have P:=(Ax.1 O).1;have B2:Hid (zb W w2):=⟨d.os.trans C.os,d.tape.trans C.tape,d.output.trans C.output,Az I d.size,λb k=>(d.block b bm).trans (C.block b k)⟩;have Y:=hid ((d.block _ P).trans O);have L2:Hid (kv rows W w2 cs j):=λi hi=>by{let⟨w,l,c,g,m,B,z⟩:=C4 i hi;exact⟨w,l,c,g,m,B.stays λ_ a _ hlt=>d.block _ hlt,z⟩};have RW:Hid (gS (rows j) E F w2/\F<=v/\∀a,E=aA a->W.heap.size<a.block):=⟨n,hle,λa s=>Ao P (y a s)⟩;clear k0 d C O C4 Hv n y hle;obtain⟨x,hx⟩:∃x,cs[j]? =aA x:=⟨_,Ef bm⟩;have e1:w2.cell? (W,j)=aA x:=by{rw[bG Y.out];exact hx};have f1:=eI Y j;clear hx;go_wp2;go_roundg (N-(j+1));(case measure=>omega);case rel=>go_light;refine⟨j+1,zAI cs j (.slice E F v),bm,j9,?_,dM Y j _,by rw[Nb];exact c3,λi hi=> ?_⟩;{exact B2.setCell (by simp only;exact bm) _};.have J:∀a:Addr,W.heap.size<a.block->(zAJ w2 (W,j) (.slice E F v)).heap[a.block]? =w2.heap[a.block]? :=λa s=>cB _ _ (by dsimp only;exact bm);by_cases f:j=i;{subst f;exact⟨E,F,v,by rw[Hq,AE rfl,AE bm],RW.2.1,RW.1.stays λ_ a s _=>J a (RW.2.2 a s),RW.2.2⟩};.obtain⟨w,l,c,g,m,B,z⟩:=L2 i bm;exact⟨w,l,c,by rw[Hq,AF f];exact g,m,B.stays λ_ a s _=>J a (z a s),z⟩};.have K:j=N:=bm;subst K;go_wp2_with fail;generalize wr=R at*;go_loopg [35] j (λq x wr=>∃(i:Nat),i+q=j/\x= .int aD (i:Int)/\fB (allRows rows i) R wr);(case atStart=>exact⟨0,bm,rfl,fB.nil⟩);case round=>obtain⟨i,hi,rfl,d1⟩:=hrel;have D1:=hid d1;clear d1;have P:=(Ax.1 O).1;by_cases f:i<j;{have r:Hid (∀b,W.heap.size<=b->b<R.heap.size->wr.heap[b]? =R.heap[b]?):=λb g m=>(D1.heap b m).trans (iL _ λp A=>by let⟨i',qi,A⟩:=iA A;have:=Q _ (H.cell i' (by omega) p A).1;omega);let⟨w,l,c,g,m,B,z⟩:=C4 i f;have k:=(r _ (je _) P).trans O;have e1:wr.cell? (W,i)=aA (.slice w l c):=by{rw[bG k];exact g};have H3:Hid (gS (rows i) w l wr):=B.stays λ_ a s hlt=>r _ (by have:=z a s;exact bm) hlt;have H4:Hid (∀a,w=aA a->∀p∈rows i,a.block≠p.1):=λa s p A=>by{have h5:=z a s;have h6:=Q _ (H.cell i f p A).1;omega};have H5:Hid (∀p∈rows i,∃cs,wr.heap[p.1]? =aA (aJ cs 272 (0,0))/\cs.size=6):=λp A=>by{let⟨hD,X,g1,g2⟩:=H.cell i f p A;have g3:=Q _ hD;rw[D1.out.heap _ bm];refine nG _ ⟨X,?_,g2⟩;rw[C.out.block _ g3,Z.out _ (aH hD)];exact g1};have H6:=hid m;clear g m B z k r;go_wp2_with fail;refine(MJ (rows i) w l c wr H3 H6 (H.VD i f) H5 H4).mono ?_;rintro e w2 ⟨rfl,G⟩;have W2:=hid (D1.out.trans G);clear G D1 H3 H4 H5 H6 e1;go_wp2;go_roundg (j-(i+1));(case measure=>omega);case rel=>go_light;exact⟨i+1,bm,j9,W2⟩};.have M:i=j:=bm;subst M;go_wp2;go_ret;refine⟨⟨_,rfl⟩,?_⟩;have d1:=D1.out;have c1:=C.out;exact⟨Az c1.size d1.size,λb k=>(d1.heap b bm).trans (gK _ (c1.block b k)),d1.os.trans c1.os,d1.tape.trans c1.tape,d1.output.trans c1.output⟩
open Go.Conc Go.Ren Go.Proofs Go.Tr
def QH {α T a}{l b:List α}(h:gZ T (a::l) b):∃c k,b=c::k/\T a c/\gZ T l k:=by cases h with|cons h1 d=>exact⟨_,_,rfl,h1,d⟩
def zCp {P Al S fr c cs u x}(f:¬S fr (c::cs) u)(h:Go.Ren.Ends P Al S fr (c::cs) u)(hl:fr.leaving P u (aM x)): (∃D,Closed P Al D (c.finish x) cs u)/\Go.Ren.Ends P Al S (c.finish x) cs u/\One P S (c.finish x,cs,u) (fr,c::cs,u):=by cases h with|stop h=>exact absurd h f|step a n h1 l j=>let⟨b,e⟩:=l u.tape u.drawn [] aF;rw[Bj,Bj]at e;have m:stepG P aF {frame:=fr,callers:=c::cs,status:= .running,dying:=aB} u= .go {frame:=(n u.tape u.drawn).1,callers:=(n u.tape u.drawn).2.1,status:= .running,dying:=aB} (n u.tape u.drawn).2.2 b:=e;have s1:step P (lone fr (c::cs) u)= .next (lone (n u.tape u.drawn).1 (n u.tape u.drawn).2.1 (n u.tape u.drawn).2.2):=step_lone_go (by rw[m];rfl);rw[step_leave_returned hl]at s1;have s2:lone (c.finish x) cs u=lone (n u.tape u.drawn).1 (n u.tape u.drawn).2.1 (n u.tape u.drawn).2.2:=by{injection s1};have a3:u=(n u.tape u.drawn).2.2:=congrArg Machine.world s2;have g:({frame:=c.finish x,callers:=cs,status:= .running,dying:=aB}:zH)={frame:=(n u.tape u.drawn).1,callers:=(n u.tape u.drawn).2.1,status:= .running,dying:=aB}:=by{have:=congrArg Machine.gs s2;simpa [lone]using this};have i:c.finish x=(n u.tape u.drawn).1:=congrArg Goroutine.frame g;have a2:cs=(n u.tape u.drawn).2.1:=congrArg Goroutine.callers g;have k1:=h1 u.tape u.drawn;have d:=j u.tape u.drawn;rw[<-i,<-a2,<-a3]at k1 d;refine⟨k1,d,f,a,u.tape,u.drawn,aF,b,?_⟩;show stepG P aF (G fr (c::cs)) u= .go (G (c.finish x) cs) u b;rw[show stepG P aF (G fr (c::cs)) u=_ from e,<-i,<-a2,<-a3]
def Ue {Al π f A}(h:bM Al π (jF f) A):∃b,π f b/\A=jF b:=by cases h with|pointer hp=>cases hp with| @some a j g=>let⟨i,o,s⟩:=j;let⟨e,d,c⟩:=g;dsimp only at e d c;subst d;subst c;exact⟨i,e,rfl⟩
def ZX (xs)(n i):(xs++Bt n ij).getD i ij=xs.getD i ij:=by rw[Ez,Ez];obtain h|h:=Gn i xs.size;{rw[Array.getElem?_append_left h]};.rw[Nd h,Nr,JZ h];split<;>rfl
def qz (xs):Frame.enter zAN 233 xs .normal=xF (xs++Bt (18-xs.size) ij) [.code sY]:=by unfold Frame.enter;rw[func233];rfl
def Sv {xs ys more}(h:told xs++more=told ys):told xs=told ys:=by unfold told at h⊢;rw[List.singleton_append]at h;injection h with h1 a;rw[h1]
def ON {P:zZ}{Al:zF}{D:zP}:∀(rows:List (Nat×ByteArray)){v:zW},bV P Al Go.Ren.K0 (cO D) v v->bV P Al Go.Ren.K0 (cO D) (dE rows v) (dE rows v)
 |[],_,h=>h
 |p::rows,v,h=>by refine ON rows (v:=qZ v p) ?_;by_cases i:D p.1;{exact h.setCell (a:=⟨p.1,4,aB⟩) (a':=⟨p.1,4,aB⟩) ⟨⟨rfl,i⟩,rfl,rfl⟩ (λx=>x) (.string _)};{have g:∀b d,cO D b d->(qZ v p).heap[b]? =v.heap[b]? :=λb d c=>vO λe=>i (by rw[<-e];exact c.2);have f:(qZ v p).heap.size=v.heap.size:=aMM;exact CU h g (λb d c=>by rw[<-c.1];exact g b d c) (by rw[f];exact h.low.1) (by rw[f];exact h.low.1) rfl (λ_=>rfl)}
def Yf {P Al π v w}(i:bV P Al Go.Ren.K0 π v w){g e}(j:π g e){cs ty fr}(h:v.heap[g]? =aA (aJ cs ty fr)):∃d,w.heap[e]? =aA (aJ d ty fr)/\d.size=cs.size:=by obtain⟨c,c',t,f,n,a,l,b,_,g5,_⟩|⟨_,o,a,_,b⟩|⟨y,m,a,_,b⟩:=i.blk g e j;{rw[h]at a;cases a;have:=g5 (λx=>x);subst this;exact⟨c',l,b.size⟩};{rw[h]at a;cases a;exact absurd rfl (b.1 _ _ _)};.rw[h]at a;cases a;cases b
section
variable {R:zR}{xs VB:zA}{k:CallKind}{own own':zL}{v:zW}{D:zP}{Sh:zP}{gs:zG}{w:zW}{t:Trace}{q:Nat->Nat}{sl:Option (Nat×Nat)}{π:Rn}
def fq {vb:Nat}(qo:CO)(hz:xs.size<=20)(yq:k= .normal\/Qz.Aj vb (900000+233))(hi:Apart zq Qm.prog.funcs Qm.Al (Frame.enter zq 233 xs k) own v\/EX zq Qm.prog.funcs Qm.Al 233 xs own v)(Z:Main zq Tryz.prog.funcs (Qz.Aj vb) Sh gs w t q π (Frame.enter zq 233 xs k) own v (Frame.enter zq 233 VB k) own')
  (hg:gs[0]? =aA (G (Frame.enter ⟨zq.toTables,Tryz.prog.funcs⟩ 233 VB k) own')) (TR:own≠[]) (hc:Closed zq Qz.Al D (Frame.enter zq 233 xs k) own v)
  (hE:Go.Ren.Ends zq Qz.Al (Go.Ren.AtEnd zq R mJ) (Frame.enter zq 233 xs k) own v):
  UX zq Tryz.prog.funcs Qz.Al (Qz.Aj vb) R mJ (Apart zq Qm.prog.funcs Qm.Al) (Frame.enter zq 233 xs k,own,v) Sh π gs w sl t:=by
 have hk0:∀b,¬Go.Ren.K0 b:=λb h=>h;obtain rfl:k= .normal:=by obtain h|h:=yq;{exact h};{exfalso;have h:Qz.Aj vb 900233:=h;have:=(Qz.Ai vb 900233 (by omega)).1 h;omega}
 obtain⟨u,more,B,hu3⟩:=dp (λ_ _=>ew) Qz.jW Qz.quits Qz.oi (λxs=>⟨_,_,rfl,rfl⟩) hz hc (Qz.sound hz hc hE) hE;obtain⟨N,pa,bp,o,cp,bt,DW,pt,rows,he,hcp,hF⟩:=hu3 u.tape u.drawn;replace hF:Fork N pa bp o bt DW pt rows (dL u):=hF;clear hu3;generalize dL u=u at hF B;have Y:full xs=full #[jF bt,jX pa N cp]:=Wv hz (by simp) (Sw (Sv he));have hlt:∀b,DW b->b<v.heap.size:=λb z=>kU.lt B (pB hF.plain z) (hF.box b z);have huv:∀b,DW b->u.heap[b]? =v.heap[b]? :=λb z=>B.old b (hlt b z);have htm:bB (Qz.Aj vb) π (full xs) (VB++Bt (43-VB.size) ij):=by have h:=Z.xE.frame.tmps;rw[EB,EB]at h;exact h
 rw[Y]at htm;obtain⟨A',B',hA,hB,hx'⟩:=Wt htm;obtain⟨I,hbt,rfl⟩:=Ue hA;obtain⟨C,rfl,Zz⟩:∃C,B'=jX C N cp/\(0<N->yE π pa C):=by
  cases hB with
  |slice h _ _=>exact⟨_,rfl,λ_=>h⟩
  |void _ a0=>exact⟨aA a0,rfl,λh=>absurd h (Io _)⟩
 obtain⟨aCv,U⟩:=Z.kp vb Qz.ql;have yk:¬DW vb:=λhD=>by have e:=huv vb hD;rw[U]at e;obtain⟨c,t,fr,g,_,O,_⟩|⟨_,o,g,O⟩:=hF.plain.blk vb hD;{rw[e]at g;cases g;exact O 0 0 rfl};{rw[e]at g;cases g;exact O.1 _ _ _ rfl}
 have hw:=Z.xE.world;have hold:∀b n,π b n->n<w.heap.size/\¬Sh n:=λb n z=>⟨IW hw z,Z.off b n z⟩;obtain⟨M,zk⟩:∃M,0<N->C=aA ⟨M,o,aB⟩/\π bp M:=by
  by_cases h0:0<N
  .have Zz:=Zz h0;rw[hF.pae h0]at Zz;cases Zz with
   | @some _ a' ha=>obtain⟨n,o',s'⟩:=a';obtain⟨g,K,O⟩:=ha;dsimp only at g K O;subst K;subst O;exact⟨n,λ_=>⟨rfl,g⟩⟩
  .exact⟨0,λh=>absurd h h0⟩
 have huc:∀k,0<N->(v.re w.tape w.drawn).cell? ⟨bp,k,aB⟩=u.cell? ⟨bp,k,aB⟩:=λk h0=>by obtain⟨g,K⟩:=hF.ur h0;simp only[World.cell?];rw[B.old bp (kU.lt B g K)];rfl
 have hq0:∀i,∃s,i<N->yE π (pt i) s/\w.cell? ⟨M,o+i,aB⟩=aA (.pointer s):=λi=>by
  by_cases hi:i<N
  .obtain⟨x,x',g,K,O⟩|⟨g,_⟩:=hw.cell (a:=⟨bp,o+i,aB⟩) (a':=⟨M,o+i,aB⟩) ⟨(zk (by omega)).2,rfl,rfl⟩
   .rw[huc _ (by omega),hF.q0 i hi]at g;cases g;cases O with
    |pointer h=>exact⟨_,λ_=>⟨h,K⟩⟩
   .rw[huc _ (by omega),hF.q0 i hi]at g;cases g
  .exact⟨aB,λh=>absurd h hi⟩
 obtain⟨pt',hpt⟩:=Classical.skolem.1 hq0;obtain⟨c0,m,rfl⟩:∃c0 m,own=c0::m:=by
  cases own with
  |nil=>exact absurd rfl TR
  |cons a l=>exact⟨a,l,rfl⟩
 obtain⟨c,cs,rfl,hc0,yg⟩:=QH Z.xE.own;have yv:∀i,(VB++Bt (18-VB.size) ij).getD i ij=(full #[jF I,jX C N cp]).getD i ij:=λi=>by rw[ZX,<-hx',ZX]
 have LR:18<=(VB++Bt (18-VB.size) ij).size:=by simp;omega
 have hg0:(VB++Bt (18-VB.size) ij).getD 0 ij=jF I:=by rw[yv,Ez,Aa];rfl
 have yz:(VB++Bt (18-VB.size) ij).getD 1 ij=jX C N cp:=by rw[yv,Ez,ZZ];rfl
 have hLv:=Z.lv;rw[Qz.back]at hLv;rw[Qz.back,qz]at hg;generalize VB++Bt (18-VB.size) ij=tm at hg hg0 yz LR;have aCD:vC Sh gs w t q (G (xF tm [.code sY]) (c::cs)):=⟨hg,hLv,Z.calm,Z.NN⟩;obtain⟨n1,gf,w1,sl1,t1,q1,g1,r1,z1,st1,rfl,d1,rfl⟩:=jB (sl:=sl) (S:=λg' w'=>g'=G (Frame.enter Tryz.prog 240 #[jX C N cp,.func (.func 236) #[jF I] #[]] .normal) (xF (t3 tm (jF I) (jX C N cp)) [aN (uK 0) [3,4,5],.code Qr]::c::cs)/\∃d,w'=w.at d) aCD (je _) (aB8 hg0 yz LR λw₁ r=>⟨⟨rfl,by obtain⟨d,rfl⟩:=r;exact⟨d,rfl⟩⟩,by obtain⟨d,rfl⟩:=r;rfl⟩);let X:Gc:={w:=w.at d1,Sh,N,bp:=M,o,cp,f:=236,first:= #[jF I],cap:= #[],pt:=pt',Rw:=λi q l cp h w=>Made DW π (rows i) q l cp h w,rwr:=λx hk=>Made.keep x hk,m0:=gf.size,c:=xF (t3 tm (jF I) (jX C N cp)) [aN (uK 0) [3,4,5],.code Qr],cs:=c::cs,pa:=C}
 have hwd:bV zq (Qz.Aj vb) Go.Ren.K0 π (v.re w.tape d1) (w.at d1):=(Z.xE.rely (w₁:=w.at d1) rfl ⟨λ_ _ _=>rfl,je _,rfl⟩).world;obtain⟨n2,gs2,w2,sl2,t2,q2,bo,Sq,r2,g2,L2,C2,K2,hbo,Wi,Gm,hvs,ya⟩:=ZY (X:=X) (sl:=sl1) hF.lt Z.NN (λi hi=>(hpt i hi).2) (λh0=>hold bp M (zk h0).2) (λh0=>(zk h0).1) func236 (by decide) (by simp[f236])
  (λi hi J te w' g O K=>by
   have:=hF.VH (λk hk hD=>yk (by rw[<-Qz.VP hk];exact hD)) (v:=v.re w.tape d1) huv hwd (old:=X.old) hold hi hbt (hpt i hi).1 J te w' g O K;have e:X.first.push (.pointer (X.pt i))++X.cap= #[.pointer (aA ⟨I,0,aB⟩),.pointer (pt' i)]:=by simp[X]
   rw[e];exact this) rfl st1.at0 st1.lv st1.calm
 have hB0:X.B0=w.heap.size:=rfl;have hK2:=K2.size;have qb:∀i,∃y:(zO×Nat×Nat)×List (Nat×ByteArray),i<N->Sq[i]? =aA (.slice y.1.1 y.1.2.1 y.1.2.2)/\pN (λb n=>DW b/\π b n) (rows i) y.2/\gS y.2 y.1.1 y.1.2.1 w2/\∀a,y.1.1=aA a->X.B0+6<=a.block/\a.block≠bo/\a.block<w2.heap.size:=λi=>by by_cases hi:i<N;{obtain⟨q,l,cp,h,g,K,dB,O,h4,h5⟩:=ya i hi;exact⟨((q,l,cp),dB),λ_=>⟨g,O,h4,λa ha=>K _ (h5 a ha)⟩⟩};{exact⟨((aB,0,0),[]),λh=>absurd h hi⟩}
 obtain⟨y,hy⟩:=Classical.skolem.1 qb;have hrel:∀i,i<N->∀P∈(y i).2,∃p∈rows i,DW p.1/\π p.1 P.1:=λi hi P F=>by have hl:=uQ (hy i hi).2.1;obtain⟨j,hj,e⟩:=List.getElem_of_mem F;have tz:j<(rows i).length:=by{omega};have:=hl.2 j (rows i)[j] P (Be tz) (by rw[Be hj,e]);exact⟨_,Fp tz,this.1.1,this.1.2⟩
 have hsh:∀b,X.Cn b->b<w.heap.size\/b=w.heap.size+5\/b=w.heap.size+1\/b=w.heap.size+3:=Gc.DK Z.NN;have yl:∀n,(∃b,π b n)->¬X.Cn n:=λn ⟨b,z⟩ h=>by have g:=hold b n z;obtain h|h:=h;{exact g.2 h};{have:=g.1;omega}
 have hLs:∀d,Ls X.Cn (λi=>(y i).2) bo N (λi=>(y i).1) (w2.at d):=λd=>by
  refine⟨hF.lt,λi hi=>(bG (w:=w2.at d) Gm i).trans (hy i hi).1,λi hi=>⟨(hy i hi).2.2.1,?_,λP F=> ?_,λhn a ha=> ?_⟩,⟨λh=> ?_,Wi⟩,λi hi P F=>⟨?_,λj hj a ha _=> ?_⟩⟩;{rw[(uQ (hy i hi).2.1).1];exact hF.VD i hi};{obtain⟨p,hp,hD,E⟩:=hrel i hi P F;refine⟨yl _ ⟨_,E⟩,?_⟩;obtain⟨_,cs0,g,K⟩:=hF.cell i hi p hp;rw[huv _ hD]at g;obtain⟨cs',O,h4⟩:=Yf hw E (show(v.re w.tape w.drawn).heap[p.1]? =_ from g);exact⟨cs',(K2.heap _ (hold _ _ E)).trans O,by omega⟩}
  .have g:=(hy i hi).2.2.2 a ha;refine⟨λh=> ?_,g.2.2,λP F e=> ?_⟩
   .obtain h|h|h|h:=hsh _ h<;>omega
   .obtain⟨p,hp,hD,E⟩:=hrel i hi P F;have:=(hold _ _ E).1;omega
  .obtain h|h|h|h:=hsh _ h<;>omega
  .obtain⟨p,hp,hD,E⟩:=hrel i hi P F;have:=(hold _ _ E).1;omega
  .obtain⟨p,hp,hD,E⟩:=hrel i hi P F;have:=(hold _ _ E).1;have g:=(hy j hj).2.2.2 a ha;omega
 have aCC:vC X.Cn gs2 w2 t2 q2 (G ((xF (t3 tm (jF I) (jX C N cp)) [aN (uK 0) [3,4,5],.code Qr]).finish (.slice (aA ⟨bo,0,aB⟩) N N)) (c::cs)):=⟨g2,L2,C2,λb z=>by obtain h|h|h|h:=hsh _ z<;>omega⟩;obtain⟨n3,gs3,w3,sl3,t3',q3,g3,r3,z3,st3,⟨bc,rfl,hT3⟩,d3,rfl⟩:=jB (sl:=sl2) (S:=λg' w'=>(∃tm',g'=G (xF tm' (.code ND::K3)) (c::cs)/\T9 tm' bo N 0)/\∃d,w'=w2.at d) aCC (je _) (zh (A:=jF I) (Bv:=jX C N cp) LR hF.lt λtm' w₁ r hT=>⟨⟨⟨tm',rfl,hT⟩,by obtain⟨d,rfl⟩:=r;exact⟨d,rfl⟩⟩,by obtain⟨d,rfl⟩:=r;rfl⟩);obtain⟨n4,gs4,w4,sl4,t4,q4,g4,r4,z4,st4,rfl,H⟩:=LJ (hLs d3) N 0 (by omega) bc gs3 (w2.at d3) sl3 t3' q3 hT3 fB.nil st3;have yo:=fe qo hF hcp B Y ⟨hc.frame,.nil,hc.world,hc.nj⟩;obtain⟨um,l2,u2,D2,hS,hc2,hD2,hE2,V⟩:=Lone.VS Qz.jW (T:=Go.Ren.AtEnd zq R mJ) (cs:=c0::m) (λ_ _ _ hs=>fF hs) yo ⟨hc.frame,.nil,gU hc.world hk0 _ _ _ _ (λ_ _=>rfl),hc.nj⟩ (hE.re (λ_ _ _ τ d h=>h.re τ d) (λ_ _=>1) 0);obtain⟨rfl,x,Wd,hrw⟩:=hS;obtain⟨hx,Q⟩:=hrw u2.tape u2.drawn;subst hx;have zl:=kR v aF;have L:∀b,b<v.heap.size->u2.heap[b]? =(dE (allRows rows N) v).heap[b]? :=λb z=>(Q.heap b (Ao z zl.size)).trans (gK _ (zl.old b z));have aHV:v.heap.size<=u2.heap.size:=Az zl.size Q.size;have aCL:u2.os=v.os:=Q.os;have hnT:¬Go.Ren.AtEnd zq R mJ um ([]++c0::m) u2:=λh=>by obtain h|h:=h;{cases h.1};{cases h.1}
 obtain⟨⟨D1,qj⟩,hE1,aCM⟩:=zCp hnT hE2 (by have:=Wd u2.tape u2.drawn;rwa [iS]at this);have hrr:pN π (allRows rows N) (allRows (λi=>(y i).2) N):=GD λi hi=>IE (uQ (hy i hi).2.1).1 λj a a' ha ue=>let h:=(uQ (hy i hi).2.1).2 j a a' ha ue;⟨h.1.2,h.2⟩;have hpw:=Sf hw hrr;have W:=hw.low;have hs4:w2.heap.size<=w4.heap.size:=H.size;have h4:∀b n,π b n->w4.heap[n]? =(dE (allRows (λi=>(y i).2) N) w).heap[n]? :=λb n z=>by have g:=hold b n z;exact(H.heap n (show n<w2.heap.size by omega)).trans (gK _ (K2.heap n g))
 have tj:bV zq (Qz.Aj vb) Go.Ren.K0 π (u2.re w4.tape w4.drawn) w4:=CU hpw (λb n z=>(L b (IX hw z)).trans (gK _ rfl)) h4 (by have h:=W.1;show _<u2.heap.size;have K:(v.re w.tape w.drawn).heap.size=v.heap.size:=rfl;omega) (by have:=W.2;omega) ((H.os.trans K2.os).trans (hw.os.trans aCL.symm)) (λ_=>rfl);have aCH:runNT Tryz.prog (n1+(n2+(n3+n4))) (crowd gs w sl) t=(.next (crowd gs4 w4 sl4),t4):=by rw[runNT_add,r1];dsimp only;have r2':runNT Tryz.prog n2 (crowd gf (w.at d1) sl1) t1=(.next (crowd gs2 w2 sl2),t2):=r2;rw[runNT_add,r2'];dsimp only;rw[runNT_add,r3];exact r4
 refine⟨n1+(n2+(n3+n4)),gs4,w4,sl4,t4,q4,X.Cn,π,c0.finish (.tuple #[]),m,u2,D1,c.finish (.tuple #[]),cs,by rw[Qz.back];exact aCH,st4.at0,⟨by rw[Qz.back];exact st4.lv,st4.calm,st4.NN,⟨hc0.finish (.tuple rfl λi v v' h _=>by simp at h),yg,tj⟩,λb n z=>yl n ⟨b,z⟩,λb z=> ?_⟩,qj,hE1,⟨H.tape.trans K2.tape,H.os.trans K2.os,H.output.trans K2.output⟩,?_,?_,⟨λ_ _ h=>h,by omega,λn z g K=>⟨?_,g,λh=> ?_⟩⟩⟩
 .obtain rfl:=Qz.VP z;have aCU:=(Ax.1 U).1;refine⟨aCv,(L b aCU).trans ((iL _ λp hp e=> ?_).trans U)⟩;obtain⟨i,hi,hp⟩:=iA hp;exact yk (e▸((hF.cell i hi p hp).1))
 .right;obtain e|V:=V
  .exfalso;have e1:um=Frame.enter zq 233 xs .normal:=congrArg (λs:Sa=>s.1) e;have:=(Wd u2.tape u2.drawn).1;rw[e1]at this;cases this
  .exact Sub.base (fF (l:=[]) (cs:=c0::m) (aH rfl)) (.more aCM V)
 .obtain⟨D',oG,fw⟩:∃D',gZ (cV ⟨zq.toTables,Qm.prog.funcs⟩ Qm.Al Go.Ren.K0 (cO D')) (c0::m) (c0::m)/\bV ⟨zq.toTables,Qm.prog.funcs⟩ Qm.Al Go.Ren.K0 (cO D') v v:=by
   obtain⟨D',h⟩|⟨D',_,_,g,K⟩:=hi;{exact⟨D',h.own,h.world⟩};{exact⟨D',g,K⟩}
  obtain⟨a',k',e,hf0,hf1⟩:=QH oG;cases e;have qf:=ON (allRows rows N) fw;have Rv:∀b n,cO D' b n->u2.heap[b]? =(dE (allRows rows N) v).heap[b]? :=λb n z=>L b (IX fw z);refine⟨D',hf0.finish (.tuple rfl λi v v' h _=>by simp at h),hf1,CU qf Rv (λb n z=>by rw[<-z.1];exact Rv b n z) (by have:=fw.low.1;omega) (by have:=fw.low.1;omega) rfl (λ_=>rfl),Qm.nj⟩
 .rw[H.heap n (show n<w2.heap.size by omega),iL _ λP F e=> ?_]
  .exact K2.heap n ⟨z,K⟩
  .obtain⟨i,qi,F⟩:=iA F;obtain⟨p,_,_,E⟩:=hrel i qi P F;rw[e]at E;exact g _ E
 .obtain h|h:=h
  .exact K h
  .omega
end
abbrev AJ (vb:Nat):zF:=λf=>f=1000000\/f=1000002+vb
abbrev AS:zF:=λf=>f=1000001
abbrev AB (N:Nat):zF:=λf=>f=1000001\/f=1000002+N
structure Start (D:zP)(V W:zW):Prop where
 iJ:∀b,b<=Tryz.prog.globals.size->D b
 lt:∀b,D b->b<W.heap.size
 size:V.heap.size=W.heap.size+1
 kp:V.heap[W.heap.size]? =aA (aJ #[.int aQ 0] 0 (0,0))
 tape:W.tape=V.tape
 drawn:W.drawn=V.drawn
 os:W.os=V.os
 out:W.output=V.output
 blk:∀b,D b->(∃c c' t fr,V.heap[b]? =aA (aJ c t fr)/\W.heap[b]? =aA (aJ c' t fr)/\bB (AJ W) (cO D) c c'/\bB AS (cO λx=>D x\/x=W.heap.size) c c)\/(b<=Tryz.prog.globals.size/\∃o,V.heap[b]? =aA o/\W.heap[b]? =aA o/\NG o)
structure Beside (D:zP)(N:Nat)(U V:zW):Prop where
 size:U.heap.size=V.heap.size
 os:V.os=U.os
 blk:∀b,D b->(∃c c' t fr,U.heap[b]? =aA (aJ c t fr)/\V.heap[b]? =aA (aJ c' t fr)/\bB (AB N) (cO D) c c')\/(b<=Tryz.prog.globals.size/\∃o,U.heap[b]? =aA o/\V.heap[b]? =aA o/\NG o)
def bM.al {Al A π}(g:∀f,Al f->A f){x y}(h:bM Al π x y):bM A π x y:=by induction h with|bool b=>exact .bool b|int i n=>exact .int i n|string s=>exact .string s|pointer h=>exact .pointer h|slice h n c=>exact .slice h n c|func k e p j _ _ i3 i4=>exact .func (g _ k) e p j i3 i4|nilFunc=>exact .nilFunc|iface t _ d=>exact .iface t d|nilIface=>exact .nilIface|lT=>exact .lT|jO=>exact .jO|agg e _ d=>exact .agg e d|tuple e _ d=>exact .tuple e d|junk o h=>exact .junk (g _ o) h|same m x=>exact .same (g _ m) x|void l a=>exact .void (g _ l) a
def bB.al {Al A π}(e:∀f,Al f->A f){x y}(h:bB Al π x y):bB A π x y:=⟨h.size,λi a b d c=>bM.al e (h.at' i a b d c)⟩
theorem two {Al:zF}{a b}(h:Al a/\Al b)(f)(x:f=a\/f=b):Al f:=ji
section
variable {P:zZ}{Al:zF}{D:zP}{U V W:zW}{N:Nat}
theorem Vy {E}(h:∀b,b<=P.globals.size->E b):Ok P (cO E):=⟨λ{a f b e} h1 d=>by rw[h1.1,d.1],λ{b e} h1 _=>h1.1,λb c=>⟨rfl,h b c⟩⟩
theorem Start.low (h:Start D V W):Tryz.prog.globals.size<W.heap.size:=h.lt _ (h.iJ _ (je _))
def Start.self (j:Al 1000001)(h:Start D V W)(i:P.globals.size=Tryz.prog.globals.size):bV P Al Go.Ren.K0 (cO λx=>D x\/x=W.heap.size) V V:=by refine⟨Vy λb a=>aH (h.iJ b bm),λb l a=> ?_,λ_ _=>rfl,λb a=>a.elim,by have:=h.low;exact G9,rfl,λb a=>a.elim⟩;let⟨e,d⟩:=a;subst e;obtain d|rfl:=d;{obtain⟨c,c',t,fr,f,_,_,g⟩|⟨f,o,g,_,k⟩:=h.blk b d;{exact aH ⟨c,c,t,fr,fr,f,f,bB.al ji g,λx=>x.elim,λ_=>rfl,λx=>x.1.elim⟩};exact ji};.exact aH ⟨_,_,_,_,_,h.kp,h.kp,.one (.int _ _),λx=>x.elim,λ_=>rfl,bm⟩
def Start.Sg (j:Al 1000000/\Al (1000002+W.heap.size))(h:Start D V W)(k:P.globals.size=Tryz.prog.globals.size):bV P Al Go.Ren.K0 (cO D) V W:=by refine⟨Vy λb a=>h.iJ b bm,λb m a=> ?_,λ_ _=>by rw[h.tape,h.drawn],λb a=>a.elim,by have:=h.low;exact G9,h.os,λb a=>a.elim⟩;let⟨e,i⟩:=a;subst e;obtain⟨c,c',t,fr,f,g,d,_⟩|⟨f,o,d,g,l⟩:=h.blk b i;{exact aH ⟨c,c',t,fr,fr,f,g,bB.al (two j) d,λx=>x.elim,λ_=>rfl,λx=>x.1.elim⟩};exact ji
def Beside.Sg (m:Al 1000001/\Al (1000002+N))(k:Start D V W)(h:Beside D N U V)(p:P.globals.size=Tryz.prog.globals.size)(i)(d):bV P Al Go.Ren.K0 (cO D) (U.re i d) (V.re i d):=by refine⟨Vy λb a=>k.iJ b bm,λb q a=> ?_,λ_ _=>rfl,λb a=>a.elim,?_,h.os,λb a=>a.elim⟩;{obtain⟨e,l⟩:=a;subst e;obtain⟨c,c',t,fr,j,g,f⟩|⟨j,o,f,g,n⟩:=h.blk b l;{exact aH ⟨c,c',t,fr,fr,j,g,bB.al (two m) f,λx=>x.elim,λ_=>rfl,λx=>x.1.elim⟩};.exact aI (aH ⟨bm,o,f,g,n⟩)};.show _<U.heap.size/\_<V.heap.size;grind[Start.size,size,Start.low]
end
def Qz.iJ:zq.globals.size=Tryz.prog.globals.size:=by rw[Qz.jJ]
def Uz {fr v}(h:Apart zq Qm.prog.funcs Qm.Al fr [] v){c}(d:fr.mode= .panicking c)(f:mJ c v):False:=by let⟨D,g⟩:=h;let⟨N,pa,bp,o,cp,j,k,pt,rows,e,_⟩:=f;have a:=g.frame.mode;rw[d,e]at a;cases a with|panicking h=>cases h with|cons h _=>have b:=h.1;dsimp only at b;cases b with|iface _ b=>cases b with|func i=>have:(Qm.ck (·==1000001)).al 158=aG:=c9;exact ji
def Qz.oy {k f fn}(h:Qz.Ak k f)(c:zq.funcs[f]? =aA fn):zq.inits.idxOf? f=aB:=by have b:((List.range 254).all λf=> !Qz.al f||(Tryz.prog.inits.idxOf? f).isNone)=aF:=by{kernel_rfl};have hlt:f<254:=by{have a:=(Ax.1 c).1;rw[JL.1]at a;exact a};rw[Qz.jJ];have h:(bif decide (f<254)then Qz.al f else(f==900219||k f))=aF:=h;rw[aAm (k:=λf=>f==900219||k f) hlt]at h;have a:=Ej.1 b f (JH.2 hlt);rw[h]at a;simpa using a
def mJ.re {c u}(h:mJ c u)(b)(d):mJ c (u.re b d):=by let⟨N,pa,bp,o,cp,f,D,pt,rows,e,a,hF⟩:=h;exact⟨N,pa,bp,o,cp,f,D,pt,rows,e,a,hF.re b d⟩
def Qm.Kw (K)(h:∀b,¬K b):cN ⟨zq.toTables,Qm.prog.funcs⟩ Qm.Al K:=by rw[Qz.ks];exact Qm.jW K h
section
variable {R:zR}
def jump {vb}(d:CO)(f)(xs x)(k:CallKind)(own own')(v)(D)(Sh)(gs)(w)(t)(q)(sl)(π)(e:Tryz.prog.funcs[f]?≠zq.funcs[f]?)(hz:xs.size<=20)(g:k= .normal\/Qz.Aj vb (900000+f))
  (hi:Apart zq Qm.prog.funcs Qm.Al (Frame.enter zq f xs k) own v\/EX zq Qm.prog.funcs Qm.Al f xs own v) (m:Main zq Tryz.prog.funcs (Qz.Aj vb) Sh gs w t q π (Frame.enter zq f xs k) own v (Frame.enter zq f x k) own') (j:gs[0]? =aA (G (Frame.enter ⟨zq.toTables,Tryz.prog.funcs⟩ f x k) own')) (c:own≠[]) (l:Closed zq Qz.Al D (Frame.enter zq f xs k) own v)
  (a:Go.Ren.Ends zq Qz.Al (Go.Ren.AtEnd zq R mJ) (Frame.enter zq f xs k) own v):UX zq Tryz.prog.funcs Qz.Al (Qz.Aj vb) R mJ (Apart zq Qm.prog.funcs Qm.Al) (Frame.enter zq f xs k,own,v) Sh π gs w sl t:=by
 have b:=Dv λh=>e (Qz.same h).symm;obtain rfl|rfl|rfl|rfl|rfl|rfl|rfl|rfl|rfl:=b
 .exact ft hz hi m j l a
 .exact fq d hz g hi m j c l a
 .obtain⟨_,h⟩|⟨_,i,_⟩:=hi
  .exact absurd h.frame.al Qm.jr
  .exact absurd i Qm.jr
 .exact(refused Qz.func149 rfl a).elim
 .exact(refused Qz.func150 rfl a).elim
 .exact(refused Qz.func151 rfl a).elim
 .exact(refused Qz.func152 rfl a).elim
 .exact(refused Qz.func153 rfl a).elim
 .exact(refused Qz.func154 rfl a).elim
def Left (R:zR)(D:zP)(W:zW)(b:zY)(w':zW):Prop:= ∃x v a S,R x v/\bM (Qz.Aj W) a x b/\bV zq (Qz.Aj W) Go.Ren.K0 a (v.re w'.tape w'.drawn) w'/\kF (cO D) (λ_=>False) W a S w'/\w'.tape=W.tape/\w'.os=W.os/\w'.output=W.output/\∀c,¬a W c
def bw (qo:CO){f args V W D}(L:Qm.Al f)(hlt:f<254)(s:¬Qz.kP f)(ha:bB (λ_=>False) (cO D) args args)(m:Start D V W)(hR:∀x u n d,R x u->R x (u.re n d)) (h:∀n d,Calls zq f args (V.re n d) λe w'=>(∃x,e=aM x/\R x w')\/∃c,e= .panicked c/\mJ c w') (hU:∀N,V.heap.size<=N->∃U R',Beside D N U V/\(∀w',¬R' .outgrown w')/\∀n d,Calls zq f args (U.re n d) R'): ∃M last o w' t',runNT zAN (M+1) (solo (G (Frame.enter zAN f args .normal) []) W) #[]=(.ended o w',t')/\runN zAN M (solo (G (Frame.enter zAN f args .normal) []) W)= .next last/\step zAN last= .ended o w'/\Conc.Good zAN (Left R D W) last o w' t':=by have g:∀b,¬Go.Ren.K0 b:=λb h=>h;have hf:=Qm.sub L;have Z:∀b p,cO D b p->cO (λx=>D x\/x=W.heap.size) b p:=λb p h=>⟨h.1,aH h.2⟩;have X:bB Qz.Al (cO λx=>D x\/x=W.heap.size) args args:=(bB.al (λ_ x=>x.elim) ha).mono Z;have haM:bB Qm.Al (cO λx=>D x\/x=W.heap.size) args args:=(bB.al (λ_ x=>x.elim) ha).mono Z;have haJ:bB (Qz.Aj W) (cO D) args args:=bB.al (λ_ x=>x.elim) ha;have hfj:Qz.Aj W f:=Qz.other hlt hf;have I:=m.self Qz.qm Qz.iJ;have y:=aMm Qz.nj Qz.jW hf X I (E:=mJ) hR (λ_ _ n d h=>mJ.re h n d) h;have hI:=zGn (Q:=zq) (fs:=Tryz.prog.funcs) (fm:=Qm.prog.funcs) (Al:=Qz.Al) (Am:=Qm.Al) Qz.nu Qz.aB0 (Qz.jW _ g) Qm.Kw λf TR=>by{by_cases F:f=233;{rw[F];exact Qz.xh};.by_cases C:f=170;{rw[C];exact Qz.xi};.exact absurd (Qm.same F C) TR};have hfr:=xW (P:=zq) f args;have T:Closed zq Qz.Al (λx=>D x\/x=W.heap.size) (Frame.enter zq f args .normal) [] V:=⟨cV.enter (Qz.jW _ g) hf X (aH rfl),.nil,I,Qz.nj⟩;have hcM:Closed ⟨zq.toTables,Qm.prog.funcs⟩ Qm.Al (λx=>D x\/x=W.heap.size) (Frame.enter zq f args .normal) [] V:=by{have e:Frame.enter zq f args .normal=Frame.enter ⟨zq.toTables,Qm.prog.funcs⟩ f args .normal:=by{have F:f≠233:=λe=>s N9;have C:f≠170:=λe=>s N9;unfold Frame.enter;rw[Qm.same F C]};rw[e];exact⟨cV.enter (Qm.Kw _ g) L haM (aH rfl),.nil,m.self Qm.qm Qz.iJ,Qm.nj⟩};have w:Main zq Tryz.prog.funcs (Qz.Aj W) (λ_=>False) #[G (Frame.enter zAN f args .normal) []] W #[] (λ_=>0) (cO D) (Frame.enter zq f args .normal) [] V (Frame.enter zq f args .normal) []:= ⟨leavers_one _ _,⟨⟨past_nil.clean,λi a F C=>(past_nil.known i a F C).imp id λx=>x.1.elim,past_nil.over,past_nil.hears,j0⟩,λb j=>j.elim⟩,λb j=>j.elim,⟨cV.enter (Qz.CK _ _ g) hfj haJ (aH rfl),.nil,by have e:V.re W.tape W.drawn=V:=by{rw[m.tape,m.drawn,iS]};rw[e];exact m.Sg ⟨Qz.aDn,Qz.ql⟩ Qz.iJ⟩,λb p _ h=>h,λb j=>by obtain rfl:=Qz.VP j;exact⟨λp h=>absurd (m.lt _ h.2) (Io _),m.kp⟩⟩;have hH:=dy (P:=zq) (Al:=Qz.Al) (S:=Go.Ren.AtEnd zq R mJ) Qz.jW T (A2:=Qz.Aj W) (vb:=W.heap.size) (λk B=>Qz.VP B) (by have:=m.size;exact bm) λN hN=>by{let⟨U,R',j,hR',hC⟩:=hU N hN;exact⟨Qz.Ab N,U,cO D,R',Qz.CK _ _ g,Qz.other hlt hf,Qz.nbj,λk B=>Qz.vj B,bB.al (λ_ x=>x.elim) ha,λn d=>j.Sg Qz.hasB m Qz.iJ n d,j.size,λb p h=>h.1,λb p h e=>by rw[<-h.1]at e;subst e;exact absurd (m.lt _ h.2) (Io _),hR',hC⟩};let⟨N,gf,w1,sl1,t1,q1,z,H,fr1,v,q,r1,g1,A,hAt,⟨et,eo,eu⟩,K,t⟩:=Of (Inv:=Apart zq Qm.prog.funcs Qm.Al) (InvE:=EX zq Qm.prog.funcs Qm.Al) Qz.shape Qz.res Qz.jW (Qz.CK _ _ g) hI (jump qo) hH y (aH rfl) (λ_=>False) #[G (Frame.enter zAN f args .normal) []] W #[] (λ_=>0) aB (cO D) (λx=>D x\/x=W.heap.size) (Frame.enter zq f args .normal) [] w (by rw[MH s];rfl) T ⟨_,hcM⟩;rw[Qz.back]at r1;have Y:=A.lv;rw[Qz.back]at Y;obtain⟨_,x,hx,hr⟩|⟨_,_,c,hm,he⟩:=hAt;rotate_left;{exact(Uz K hm (by have:=he v.tape v.drawn;rwa [iS]at this)).elim};have O:Goes zAN aF Go.Conc.AtRel (λ_ _ _=>False) (Go.Conc.AtEnd zAN (λl=>∃b,blk l=aA b/\z b) w1.heap.size (Left R D W)) 0 (G q []) w1:=λw₁ r=>by{obtain⟨d,rfl⟩:=r;have B:CQ zq (Qz.Aj W) Go.Ren.K0 H fr1 [] v q [] (w1.at d):=A.xE.rely rfl ⟨λ_ _ _=>rfl,je _,rfl⟩;let⟨x',es,hv,_,J,zc⟩:=Vr Qz.shape rfl B hx (Qz.res _) (let⟨_,_,_,_,q4,_⟩:=hx v.tape v.drawn;Qz.oy A.xE.frame.al q4);rw[Qz.back]at J;refine⟨rfl,x',es,J,λe he=>Xn (Sh:=z) (λb p j=>⟨A.off b p j,IW A.xE.world j⟩) (zc e he),x,v,H,z,?_,hv,B.world,⟨t.sub,t.size,t.still⟩,et,eo,eu,(A.kp _ Qz.ql).1⟩;have:=hr v.tape v.drawn;rwa [iS]at this};let⟨N2,last,o,w',t',r2,r3,r4,r5⟩:=beside_ends (λ_ _ _ h=>h.elim) (sl:=sl1) g1 Y A.calm.past O;have hs:solo (G (Frame.enter zAN f args .normal) []) W=crowd #[G (Frame.enter zAN f args .normal) []] W aB:=rfl;refine⟨N+N2,last,o,w',t',?_,?_,r4,r5⟩;{rw[hs,Gp,runNT_add,r1];exact r2};.rw[hs,<-runNT_fst _ _ _ #[],runNT_add,r1];rw[runNT_fst];exact r3
end
open Go.RowKit Go.Proofs Go.Ren Go.Conc
section
variable {N:Nat}{pa:zO}{bp o cp bt:Nat}{D:zP}{pt:Nat->zO}{rows:Nat->List (Nat×ByteArray)}{W W':zW}
def zEo (hF:Fork N pa bp o bt D pt rows W)(g:yB W)(k:N<=cp):Calls zq 233 #[jF bt,jX pa N cp] W λe W'=>(e=aM (.tuple #[])/\fB (allRows rows N) W W')\/(e= .panicked (told (full #[jF bt,jX pa N cp]))/\Fl W'/\kU W (dL W')/\zb W (dL W')):=by intro cs;have m:(full #[jF bt,jX pa N cp]).size=43:=lG j0;have h:=kR W aF;have j:Frame.enter zq 233 #[jF bt,jX pa N cp] .normal=fI (full #[jF bt,jX pa N cp]) [.code Qz.sY]:=by{rw[EB];rfl};rw[j];by_cases n:Eb W.tape W.drawn=0;{obtain⟨fr,own,E,⟨l,B,r,A,z⟩,a⟩:=Lone.steps (OP (S:=λfr own u=>own=[]/\u=(Cv (boxed W aF)).re W.tape (W.drawn+1)/\fr.fn=233/\fr.mode= .panicking (told (full #[jF bt,jX pa N cp]))/\fr.defers=[]) W.tape W.drawn n g m λfr v t s _=>⟨rfl,rfl,v,t,s⟩);subst l;subst B;have p:=(jQ (MX (lZ g.cell) aF W.tape W.drawn)).1.trans g.cell;have q:dL ((Cv (boxed W aF)).re W.tape (W.drawn+1))=(boxed W aF).re W.tape (W.drawn+1):=congrArg (λu:zW=>u.re W.tape (W.drawn+1)) (OT p);exact⟨.panicked (told (full #[jF bt,jX pa N cp])),(Cv (boxed W aF)).re W.tape (W.drawn+1),fr,aI ⟨rfl,Xa p,by rw[q];exact⟨h.size,h.old,h.new⟩,by rw[q];exact⟨rfl,rfl,rfl,h.size,h.old⟩⟩,a,r,A,z,Qz.f233,by rw[r];exact Qz.func233⟩};.have C:(full #[jF bt,jX pa N cp]).getD 0 ij=jF bt:=by{rw[Ez,Aa];rfl};have l:(full #[jF bt,jX pa N cp]).getD 1 ij=jX pa N cp:=by{rw[Ez,ZZ];rfl};have f:=Kr N pa bp o cp bt D pt rows W hF k ((boxed W aF).re W.tape (W.drawn+1)) λb c=>by{have hlt:b<W.heap.size:=by{obtain c|⟨g,rfl⟩:=c;{exact pB hF.plain c};{exact(hF.ur g).1}};exact h.old b hlt};have y:Calls zq 170 #[(full #[jF bt,jX pa N cp]).getD 0 ij,(full #[jF bt,jX pa N cp]).getD 1 ij] ((boxed W aF).re W.tape (W.drawn+1)) λe W'=>(∃x,e=aM x)/\fB (allRows rows N) ((boxed W aF).re W.tape (W.drawn+1)) W':=by{rw[C,l];exact f};let⟨w,fr,d,a,i,hl⟩:=Bn m W.tape W.drawn n y cs;refine⟨aM (.tuple #[]),w,fr,aH ⟨rfl,Az h.size d.size,λb c=> ?_,d.os,d.tape,d.output⟩,a,i,hl⟩;exact(d.heap b (Ao c h.size)).trans (gK _ (h.old b c))
end
end Go.Ga
namespace Go.Proofs
open Go.Ga
@[simp]def Qz.call10:=Qz.cl func10
@[simp]def Qz.call11:=Qz.cl func11
@[simp]def Qz.call16:=Qz.cl func16
@[simp]def Qz.call19:=Qz.cl func19
@[simp]def Qz.call21:=Qz.cl func21
@[simp]def Qz.call23:=Qz.cl func23
@[simp]def Qz.call24:=Qz.cl func24
@[simp]def Qz.call25:=Qz.cl func25
@[simp]def Qz.call26:=Qz.cl func26
@[simp]def Qz.call27:=Qz.cl func27
@[simp]def Qz.call28:=Qz.cl func28
@[simp]def Qz.call29:=Qz.cl func29
@[simp]def Qz.call30:=Qz.cl func30
@[simp]def Qz.call33:=Qz.cl func33
@[simp]def Qz.call35:=Qz.cl func35
@[simp]def Qz.call36:=Qz.cl func36
@[simp]def Qz.call38:=Qz.cl func38
@[simp]def Qz.call39:=Qz.cl func39
@[simp]def Qz.call40:=Qz.cl func40
@[simp]def Qz.call41:=Qz.cl func41
@[simp]def Qz.call42:=Qz.cl func42
@[simp]def Qz.call43:=Qz.cl func43
@[simp]def Qz.call44:=Qz.cl func44
@[simp]def Qz.call45:=Qz.cl func45
@[simp]def Qz.call46:=Qz.cl func46
@[simp]def Qz.call47:=Qz.cl func47
@[simp]def Qz.call48:=Qz.cl func48
@[simp]def Qz.call49:=Qz.cl func49
@[simp]def Qz.call50:=Qz.cl func50
@[simp]def Qz.call51:=Qz.cl func51
@[simp]def Qz.call52:=Qz.cl func52
@[simp]def Qz.call53:=Qz.cl func53
@[simp]def Qz.call57:=Qz.cl func57
@[simp]def Qz.call58:=Qz.cl func58
@[simp]def Qz.call59:=Qz.cl func59
@[simp]def Qz.call60:=Qz.cl func60
@[simp]def Qz.call61:=Qz.cl func61
@[simp]def Qz.call62:=Qz.cl func62
@[simp]def Qz.call63:=Qz.cl func63
@[simp]def Qz.call64:=Qz.cl func64
@[simp]def Qz.call65:=Qz.cl func65
@[simp]def Qz.call66:=Qz.cl func66
@[simp]def Qz.call67:=Qz.cl func67
@[simp]def Qz.call68:=Qz.cl func68
@[simp]def Qz.call69:=Qz.cl func69
@[simp]def Qz.call70:=Qz.cl func70
@[simp]def Qz.call71:=Qz.cl func71
@[simp]def Qz.call72:=Qz.cl func72
@[simp]def Qz.call73:=Qz.cl func73
@[simp]def Qz.call74:=Qz.cl func74
@[simp]def Qz.call75:=Qz.cl func75
@[simp]def Qz.call76:=Qz.cl func76
@[simp]def Qz.call77:=Qz.cl func77
@[simp]def Qz.call78:=Qz.cl func78
@[simp]def Qz.call79:=Qz.cl func79
@[simp]def Qz.call80:=Qz.cl func80
@[simp]def Qz.call82:=Qz.cl func82
@[simp]def Qz.call85:=Qz.cl func85
@[simp]def Qz.call87:=Qz.cl func87
@[simp]def Qz.call88:=Qz.cl func88
@[simp]def Qz.call90:=Qz.cl func90
@[simp]def Qz.call91:=Qz.cl func91
@[simp]def Qz.call92:=Qz.cl func92
@[simp]def Qz.call93:=Qz.cl func93
@[simp]def Qz.call94:=Qz.cl func94
@[simp]def Qz.call95:=Qz.cl func95
@[simp]def Qz.call96:=Qz.cl func96
@[simp]def Qz.call97:=Qz.cl func97
@[simp]def Qz.call98:=Qz.cl func98
@[simp]def Qz.call100:=Qz.cl func100
@[simp]def Qz.call101:=Qz.cl func101
@[simp]def Qz.call102:=Qz.cl func102
@[simp]def Qz.call104:=Qz.cl func104
@[simp]def Qz.call105:=Qz.cl func105
@[simp]def Qz.call106:=Qz.cl func106
@[simp]def Qz.call107:=Qz.cl func107
@[simp]def Qz.call108:=Qz.cl func108
@[simp]def Qz.call109:=Qz.cl func109
@[simp]def Qz.call110:=Qz.cl func110
@[simp]def Qz.call118:=Qz.cl func118
@[simp]def Qz.call119:=Qz.cl func119
@[simp]def Qz.call120:=Qz.cl func120
@[simp]def Qz.call121:=Qz.cl func121
@[simp]def Qz.call127:=Qz.cl func127
@[simp]def Qz.call128:=Qz.cl func128
@[simp]def Qz.call129:=Qz.cl func129
@[simp]def Qz.call130:=Qz.cl func130
@[simp]def Qz.call133:=Qz.cl func133
@[simp]def Qz.call161:=Qz.cl func161
@[simp]def Qz.call212:=Qz.cl func212
@[simp]def Qz.call213:=Qz.cl func213
@[simp]def Qz.call214:=Qz.cl func214
@[simp]def Qz.call215:=Qz.cl func215
@[simp]def Qz.call216:=Qz.cl func216
@[simp]def Qz.call217:=Qz.cl func217
@[simp]def Qz.call218:=Qz.cl func218
@[simp]def Qz.call220:=Qz.cl func220
@[simp]def Qz.call221:=Qz.cl func221
@[simp]def Qz.call222:=Qz.cl func222
@[simp]def Qz.call223:=Qz.cl func223
@[simp]def Qz.call224:=Qz.cl func224
@[simp]def Qz.call225:=Qz.cl func225
@[simp]def Qz.call226:=Qz.cl func226
@[simp]def Qz.call227:=Qz.cl func227
@[simp]def Qz.call228:=Qz.cl func228
@[simp]def Qz.call229:=Qz.cl func229
@[simp]def Qz.call230:=Qz.cl func230
@[simp]def Qz.call231:=Qz.cl func231
@[simp]def Qz.call232:=Qz.cl func232
@[simp]def Qz.call234:=Qz.cl func234
@[simp]def Qz.call237:=Qz.cl func237
@[simp]def Qz.call238:=Qz.cl func238
@[simp]def Qz.call239:=Qz.cl func239
@[simp]def Qz.call241:=Qz.cl func241
@[simp]def Qz.call242:=Qz.cl func242
@[simp]def Qz.call243:=Qz.cl func243
@[simp]def Qz.call246:=Qz.cl func246
@[simp]def Qz.call219:=Qz.call Qz.func219
@[simp]def Qz.call233:=Qz.call Qz.func233
end Go.Proofs
namespace Go.Proofs.Zq.Sha
open Go
theorem ofInt32 (a:BitVec 32):Fh 32 (a.toNat:Int)=a:=ji
def Ym (a b:BitVec 32):bits .and aP (a.toNat:Int) (b.toNat:Int)=((a&&&b).toNat:Int):=by show IntKind.u32.wrap ((Fh 32 (a.toNat:Int)&&&Fh 32 (b.toNat:Int)).toNat:Int)=_;grind[ofInt32,NM]
def La (a b:BitVec 32):bits .or aP (a.toNat:Int) (b.toNat:Int)=((a|||b).toNat:Int):=by show IntKind.u32.wrap ((Fh 32 (a.toNat:Int)|||Fh 32 (b.toNat:Int)).toNat:Int)=_;grind[ofInt32,NM]
def By (a b:BitVec 32):bits .xor aP (a.toNat:Int) (b.toNat:Int)=((a^^^b).toNat:Int):=by show IntKind.u32.wrap ((Fh 32 (a.toNat:Int)^^^Fh 32 (b.toNat:Int)).toNat:Int)=_;grind[ofInt32,NM]
theorem jH (n):((2^n:Nat):Int)=(2:Int)^n:=ji
def zEn (a:BitVec 32)(n):IntKind.u32.wrap ((a.toNat:Int)*2^n)=((a<<<n).toNat:Int):=by rw[NM,aME,Mf,<-jH,My,aMO];rfl
theorem PE (a:BitVec 32)(n):(a.toNat:Int).fdiv (2^n)=((a>>>n).toNat:Int):=by rw[aMF,aMR,<-jH,aMP _ (OH _),Int.natCast_ediv]
def oD (x:BitVec 32)(n:Nat):BitVec 32:=x>>>n|||x<<<(32-n)
def S0 (x:BitVec 32):BitVec 32:=oD x 2^^^oD x 13^^^oD x 22
def S1 (x:BitVec 32):BitVec 32:=oD x 6^^^oD x 11^^^oD x 25
def s0 (x:BitVec 32):BitVec 32:=oD x 7^^^oD x 18^^^x>>>3
def s1 (x:BitVec 32):BitVec 32:=oD x 17^^^oD x 19^^^x>>>10
def add_mod (a b:BitVec 32):((a.toNat:Int)+b.toNat)%4294967296=((a+b).toNat:Int):=ji
def Jg (a:BitVec 32)(n):((a.toNat:Int)*2^n)%4294967296=((a<<<n).toNat:Int):=by rw[<-zEn,NM]
def Jf (a:BitVec 32)(n):(a.toNat:Int)/2^n=((a>>>n).toNat:Int):=by grind[OH,jH,aMP,PE]
def cm (x:BitVec 32)(n):bits .or aP ((x.toNat:Int)*2^(32-n)%4294967296) ((x.toNat:Int)/2^n)=((oD x n).toNat:Int):=by rw[Jg,Jf,La,oD,BitVec.or_comm]
def Qs (a b:Nat)(d:a<2^64)(h:b<2^64):bits .or aR (a:Int) (b:Int)=((a|||b:Nat):Int):=by have f:=Nat.or_lt_two_pow d h;show IntKind.u64.wrap ((Fh 64 (a:Int)|||Fh 64 (b:Int)).toNat:Int)=_;have e:∀c:Nat,c<2^64->(Fh 64 (c:Int)).toNat=c:=by{grind};rw[aMG,e a d,e b h];exact P4
def zCm (a b:BitVec 32):bits .and aR (a.toNat:Int) (b.toNat:Int)=((a&&&b).toNat:Int):=by have h:=b.isLt;have d:a.toNat&&&b.toNat<2^32:=Nat.and_lt_two_pow _ h;show IntKind.u64.wrap ((Fh 64 (a.toNat:Int)&&&Fh 64 (b.toNat:Int)).toNat:Int)=_;have e:∀c:BitVec 32,(Fh 64 (c.toNat:Int)).toNat=c.toNat:=λc=>by{have:=c.isLt;grind};rw[aMH,e,e,aMH];exact P4
def zCn (a b:BitVec 32):bits .xor aR (a.toNat:Int) (b.toNat:Int)=((a^^^b).toNat:Int):=by have d:=a.isLt;have h:=b.isLt;have f:=Nat.xor_lt_two_pow d h;show IntKind.u64.wrap ((Fh 64 (a.toNat:Int)^^^Fh 64 (b.toNat:Int)).toNat:Int)=_;have e:∀c:BitVec 32,(Fh 64 (c.toNat:Int)).toNat=c.toNat:=λc=>by{have:=c.isLt;grind};rw[aMI,e,e,aMI];exact P4
def xf (a:BitVec 32):(4294967295:Int)-a.toNat=((~~~a).toNat:Int):=by have:=a.isLt;exact ji
def cg (x:BitVec 32)(n:Nat)(b:n<=32):(bits .or aR ((x.toNat:Int).fdiv (2^n)) (IntKind.u64.wrap ((x.toNat:Int)*2^(32-n))))%4294967296=((oD x n).toNat:Int):=by
 have c:=x.isLt;have hlt:x.toNat*2^(32-n)<2^64:=by
  have:2^(32-n)<=2^32:=Nat.pow_le_pow_right bm bm;calc x.toNat*2^(32-n)<=x.toNat*2^32:=Nat.mul_le_mul_left _ this
   _<2^32*2^32:=by omega
   _=2^64:=j2
 have a:(x.toNat:Int).fdiv (2^n)=((x.toNat/2^n:Nat):Int):=by grind
 have e:IntKind.u64.wrap ((x.toNat:Int)*2^(32-n))=((x.toNat*2^(32-n):Nat):Int):=by rw[<-jH,<-aMO];generalize x.toNat*2^(32-n)=y at hlt;simp only[NL,NK,Mz];grind
 have h:x.toNat/2^n<2^64:=by have:=aMS x.toNat (2^n);omega
 rw[a,e,Qs _ _ h hlt];rw[show(4294967296:Int)=((2^32:Nat):Int)from j2,<-My,Nat.or_mod_two_pow];rw[oD,aMG,aMF,aME,aMR,Mf];have:x.toNat/2^n%2^32=x.toNat/2^n:=Nat.mod_eq_of_lt (by have:=aMS x.toNat (2^n);exact bm);rw[this]
def V (x:BitVec 32):Int:=(x.toNat:Int)
def eV (x:BitVec 32):0<=V x:=OH _
def wO (x:BitVec 32):V x<4294967296:=by have:=x.isLt;unfold V;exact bm
def V_add (a b:BitVec 32):(V a+V b)%4294967296=V (a+b):=add_mod a b
def V_and (a b:BitVec 32):bits .and aP (V a) (V b)=V (a&&&b):=Ym a b
def V_or (a b:BitVec 32):bits .or aP (V a) (V b)=V (a|||b):=La a b
def V_xor (a b:BitVec 32):bits .xor aP (V a) (V b)=V (a^^^b):=By a b
def V_not (a:BitVec 32):bits .xor aP IntKind.u32.max (V a)=V (~~~a):=by have h:=By (BitVec.ofNat 32 4294967295) a;exact j5
def V_shr (a:BitVec 32)(n:Nat):V a/2^n=V (a>>>n):=Jf a n
def V64_and (a b:BitVec 32):bits .and aR (V a) (V b)=V (a&&&b):=zCm a b
def V64_xor (a b:BitVec 32):bits .xor aR (V a) (V b)=V (a^^^b):=zCn a b
def V64_not (a:BitVec 32):4294967295-V a=V (~~~a):=xf a
def ix (x:BitVec 32)(n:Nat)(h:n<=32):bits .or aR ((V x).fdiv (2^n)) (IntKind.u64.wrap (V x*2^(32-n)))%4294967296=V (oD x n):=cg x n h
def V64_wrap (a:BitVec 32):IntKind.u64.wrap (V a)=V a:=by have b:=eV a;have h:=wO a;exact P4
def Yx (a:BitVec 32):V a/(8:Int)=V (a>>>3):=V_shr a 3
def iw (a:BitVec 32):V a/(1024:Int)=V (a>>>10):=V_shr a 10
def Yy (x:BitVec 32)(n:Nat)(a:n<=32):(bits .or aR (V (x>>>n)) (IntKind.u64.wrap (V x*2^(32-n)))).tmod 4294967296=V (oD x n):=by have h:=ix x n a;have e:(V x).fdiv (2^n)=V (x>>>n):=PE x n;rw[e]at h;exact j5
end Go.Proofs.Zq.Sha
namespace Go.Proofs.Zq.Tail
open Go Go.RowKit Go.Sort
section
variable {P:zZ}{ops:zQ}{md:Region.Mode}{C:zW->Prop}
def eU (P:zZ)(md:Region.Mode)(ops:zQ)(C:zW->Prop)(n:Nat)(L:Array Bool->Act->Prop):Nat->Array Bool->Act->Prop
 |0,listed,a=>L listed a|f+1,listed,a=>Region.ready md ops listed≠[]/\∀i∈Region.ready md ops listed,i<n/\qOp P ops C i (eU P md ops C n L f (zAI listed i aF)) a
def UO {n g L Q}(j:∀listed a w,C w->L listed a->wpAny P md ops Q g listed a w)(f): ∀(listed)(a)(w),C w->eU P md ops C n L f listed a->wpAny P md ops Q (f+g) listed a w:=by induction f with|zero=>intro listed a w c h;rw[Ce];exact j _ _ _ c h|succ f e=>intro listed a w c h;rw[show f+1+g=(f+g)+1 from bm];exact⟨λk=>absurd k h.1,λi hi=>wpOp_of_qOp c (λm d b l=>e _ m d b l) (h.2 i hi).2⟩
def zDp {n i x v L}(hi:ops[i]? =aA x)(q:Region.noSelect ops=aF) (hs:Region.sinkB md ops n=aF) (E:Region.chainB md ops n=aF) (D:n<ops.size) (w:i<n) (o:∀listed a,L listed a->∀j∈Region.ready md ops listed,n<=j) (f): ∀(listed)(a),HeadInv md ops n listed->(∀j p,ops[j]? =aA p->j≠i->listed.getD j aF=aG->(∀e∈p.after,Region.binds md e=aF->e.on≠i)->x.apart ops p=aF)->i∈Region.ready md ops listed->YieldsIn P ops C x v a->eU P md ops C n L f (zAI listed i aF) (a.put x.dst v)->eU P md ops C n L (f+1) listed a:=by have sel:=Region.noSelect_spec q;induction f with|zero=>intro listed a inv _ y B H;have g:=(mem_ready.1 y).1;refine⟨ji,λj m=> ?_⟩;have l:=NZ λh=>tail_waits hs E D inv _ i rfl w g j h m;by_cases b:j=i;{grind[YieldsIn.qOp]};{have:=o _ _ H j (ready_mono m b);omega}|succ f I=>intro listed a inv c y B H;have g:=(mem_ready.1 y).1;refine⟨ji,λj m=> ?_⟩;have l:=NZ λh=>tail_waits hs E D inv _ i rfl w g j h m;by_cases b:j=i;{grind[YieldsIn.qOp]};refine⟨l,?_⟩;let⟨d,p,r,F⟩:=mem_ready.1 m;have s:∀e∈p.after,Region.binds md e=aF->e.on≠i:=by{grind[getD_both]};have K:=qOp_put r (c j p r b d s) ji ji B (H.2 j (ready_mono m b)).2;refine qOp_mono (λM G=>I (zAI listed j aF) M (inv.set m l) (λk ok J A t z=>c k ok J A ?_ z) (ready_mono y (Dp b)) G.1 ?_) K;{by_cases u:j=k;{subst u;exact d};.rw[getD_set_ne aF u]at t;exact t};.rw[Nw _ _ b];exact G.2
def Pd {n g L}(c:Region.noSelect ops=aF)(hs:Region.sinkB md ops n=aF)(w:Region.chainB md ops n=aF)(t:n<ops.size)(l): ∀(k)(listed)(a),(∀j,j<zAH l->l[j]? =ops[k+j]?)->k+zAH l=n->HeadInv md ops n listed->Region.lexHead md ops g (zAH l) k listed=aF->wpQuiet P ops C L l a->eU P md ops C n (λb p=>Region.seqB md ops g n b=aF/\L p) (zAH l) listed a:=by induction l with|nil=>intro k listed a _ m _ e h;obtain rfl:k=n:=j5;exact⟨e,h⟩|cons o l q=>intro k listed a hl m inv e h;have f:ops[k]? =aA o:=by{simpa using(hl 0 j0).symm};simp only[Bf,Region.lexHead,De]at e;simp only[Bf]at m;let⟨⟨z,u⟩,i⟩:=e;have d:k∈Region.ready md ops listed:=ji;have s:qOp P ops C k (wpQuiet P ops C L l) a:=by{unfold qOp;simp only[f];exact h};let⟨v,r,y⟩:=yieldsIn_of_qOp f s;refine zDp f c hs w t bm (λb p x=>seqB_ready x.1) (zAH l) listed a inv (Region.free_spec f u) d r ?_;refine q (k+1) _ _ (λj A=> ?_) bm (inv.set d bm) i y;have:=hl (j+1) j3;exact ji
def nC {id Q a w}{l:List Oper}(n)(p:P.follows .mixedOrders=aF)(j:Region.lexTailB .any (zAL l) n=aF) (r:C {w with drawn:=w.drawn+1}) (h:wpQuiet P (zAL l) C (λa'=>∀w',C w'->wpList P (zAL l) Q (l.drop n) a' w') (l.take n) a):(Code.region id (zAL l) aF).wp P Q a w:=by simp only[Region.lexTailB,De,Ev]at j;let⟨⟨⟨⟨c,o⟩,k⟩,q⟩,d⟩:=j;have m:n<zAH l:=by{assumption};have b:zAH (l.take n)=n:=by{simp;omega};have e:zAH (l.drop n)=l.toArray.size-n:=by{simp};have i:HeadInv .any (zAL l) n (Bt l.toArray.size aG):= ⟨j0,by grind[getD_replicate_false],j1⟩;have H:=Pd c k q o (l.take n) 0 _ a ji bm i (by rw[b];exact d) h;refine wp_region_any p ?_;have:=UO (λlisted a' w' f g=>by have:=wpAny_of_seq (l.drop n) n listed a' w' ji (by rw[e];exact g.1) (g.2 w' f);rwa [e]at this) _ _ _ _ r H;rw[b,show n+(l.toArray.size-n)=l.toArray.size from bm]at this;exact this
def vK {id:Nat}{Q:zX}{a:Act}{w:zW}{l:List Oper}(n:Nat)(b:P.follows .mixedOrders=aF)(c:Region.lexTailB .any (zAL l) n=aF) (h:wpQuiet P (zAL l) (λw'=>∃n,w'=w.drewN n) (λa'=>∀w',(∃n,w'=w.drewN n)->wpList P (zAL l) Q (l.drop n) a' w') (l.take n) a):(Code.region id (zAL l) aF).wp P Q a w:=nC (C:=λw'=>∃n,w'=w.drewN n) n b c ⟨1,rfl⟩ h
def sJ {id:Nat}{Q:zX}{a:Act}{w:zW}{l:List Oper}(n:Nat)(b:P.follows .mixedOrders=aF)(c:Region.lexTailB .any (zAL l) n=aF) (h:wpQuiet P (zAL l) (λw'=>∃p:Regrown,w'=grow (redrawn w p.d) p.os) (λa'=>∀w',(∃p:Regrown,w'=grow (redrawn w p.d) p.os)->wpList P (zAL l) Q (l.drop n) a' w') (l.take n) a):(Code.region id (zAL l) aF).wp P Q a w:=nC (C:=λw'=>∃p:Regrown,w'=grow (redrawn w p.d) p.os) n b c ⟨⟨w.drawn+1,#[]⟩,by rw[grow_empty];rfl⟩ h
def aMN {f:zN}{args:zA}{w:zW}{m n:Nat}{v:zY} (h:Calls P f args (w.drewN (m+n)) λe w'=>e=aM v/\∃k,w'=(w.drewN (m+n)).drewN k):Calls P f args (w.drewN (m+n)) λe a=>e=aM v/\∃k,a=w.drewN (m+k):=h.mono λ_ _ ⟨he,k,hk⟩=>⟨he,n+k,by grind[Nat.add_assoc,World.drewN_drewN]⟩
end
end Go.Proofs.Zq.Tail
