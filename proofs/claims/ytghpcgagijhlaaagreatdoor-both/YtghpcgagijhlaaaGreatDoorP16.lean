import Derived.Conc.TokenWalk
import Derived.Test.YtghpcgagijhlaaaGreatDoorP15
set_option linter.all false
set_option maxRecDepth 100000
set_option maxHeartbeats 16000000
open Option renaming some->aA,none->aB
open Bool renaming true->aE,false->aF
open Or renaming inl->aG,inr->aH
open Go.Item renaming inRegion->aM
open Go.Obj renaming cells->aI
open Go.IntKind renaming i64->aD
open Array renaming replicate->aCy,replicate_succ->aCT
open Go renaming execOp->aCF
open Go.GStep renaming after->aCU
namespace Go.Ren
open Go.Conc
section
variable {P:zZ}{mn:Bool}{J:zW->Prop}{S:(zP)->(zP)->zU}
def cX.keep:∀{t:Tree}{rs l:zP}{g:zH}{w:zW},(∀b,rs b->¬l b/\b<w.heap.size)->cX P mn J S t rs l g w->
  cX P mn J (λf e o d=>f=rs/\(∀b,rs b->¬e b/\b<d.heap.size)/\(∀b,rs b->d.heap[b]? =w.heap[b]?)/\S f e o d) t rs l g w
 | .leaf,rs,l,g,w,i,h=>λa r j=>⟨rfl,λb c=>⟨(i b c).1,zAc (i b c).2 r.size⟩,λb c=>r.dF b (aG c),h a r j⟩
 | .node ch,rs,l,g,w,i,h=>⟨h.1,λa r j=>by
   obtain⟨o,d,v,u,n,s,q⟩:=h.2 a r j;refine⟨o,d,v,u,n,s,?_⟩;have m:∀b,rs b->¬grown l a d b/\b<d.heap.size:=λb c=>by have bU:=zAc (i b c).2 r.size;exact⟨λx=>x.elim (i b c).1 λy=>by omega,zAc bU n.size⟩
   have p:∀b,rs b->d.heap[b]? =w.heap[b]? :=λb c=>(n.keep b (zAc (i b c).2 r.size) (i b c).1).trans (r.dF b (aG c))
   exact(q.keep m).mono λf e g w x=>⟨x.1,x.2.1,λb c=>(x.2.2.1 b c).trans (p b c),x.2.2.2⟩⟩
end
end Go.Ren
namespace Go.Ga
open Go.Conc Go.Ren Go.Proofs Go.RowKit Go.Conc.Lib
def Works (J:zW->Prop)(rs:zP)(w:zW)(f:zN)(args:zA)(s:ByteArray):Prop:=
 ∀(c:zC)(cs:zL)(d:zP),(∀b,rs b->¬d b/\b<w.heap.size)->∃t,cX Tryz.prog aF J (λr a g w=>g.status= .running/\∃h,stepG Tryz.prog aF g w= .go (G (c.finish (.string s)) cs) w h/\∀e∈h,VU r a e) t rs d (G (Frame.enter Tryz.prog f args .normal) (c::cs)) w
def PZ.keep {rs:zP}{w w':zW}{b1 b2 b3 b4 Cr:Nat}{at':Int}{fv p0 p1:zY}(h:PZ rs w b1 b2 b3 b4 Cr at' fv p0 p1)(c:∀b,rs b->w'.heap[b]? =w.heap[b]?):PZ rs w' b1 b2 b3 b4 Cr at' fv p0 p1:=by
 have a:∀b i,rs b->w'.cell? ⟨b,i,aB⟩=w.cell? ⟨b,i,aB⟩:=λb i d=>by simp only[World.cell?];rw[c b d]
 exact⟨h.r1,h.r2,h.r3,h.r4,(a _ _ h.r1).trans h.c1,(a _ _ h.r2).trans h.c2,(a _ _ h.r3).trans h.c3,(a _ _ h.r4).trans h.c4,(a _ _ h.r4).trans h.c5⟩
def XC (e d c b a l:Bool):(Region.ready .any pS #[e,d,c,b,a,l,aF]).isEmpty=aF:=by cases e<;>cases d<;>cases c<;>cases b<;>cases a<;>cases l<;>kernel_rfl
def Eh {f d c b l a:Bool}{i:Nat}(h:i∈Region.ready .any pS #[f,d,c,b,l,a,aF]):
  (i=0/\f=aF)\/(i=1/\d=aF)\/(i=2/\c=aF)\/(i=3/\b=aF)\/(i=4/\l=aF/\c=aE/\b=aE)\/(i=5/\a=aF/\d=aE/\l=aE)\/(i=6/\f=aE/\a=aE/\l=aE):=by
 have g:∀j∈Region.ready .any pS #[f,d,c,b,l,a,aF],((j==0&& !f)||(j==1&& !d)||(j==2&& !c)||(j==3&& !b)||(j==4&& !l&&c&&b)||(j==5&& !a&&d&&l)||(j==6&&f&&a&&l))=aE:=by
  have e:(Region.ready .any pS #[f,d,c,b,l,a,aF]).all (λj=>(j==0&& !f)||(j==1&& !d)||(j==2&& !c)||(j==3&& !b)||(j==4&& !l&&c&&b)||(j==5&& !a&&d&&l)||(j==6&&f&&a&&l))=aE:=by cases f<;>cases d<;>cases c<;>cases b<;>cases l<;>cases a<;>kernel_rfl
  intro j m
  exact zCa.1 e j m
 have:=g i h
 simp only[zDo,zBd,zCk,Bool.not_eq_true',or_assoc,and_assoc]at this
 exact this
def go_over (fuel t:Nat):Region.linearise.go .any pS fuel t #[aE,aE,aE,aE,aE,aE,aE] []=[]:=by
 cases fuel with
 |zero=>rfl
 |succ fuel=>
  simp only[Region.linearise.go];have e:((List.range pS.size).filter λi=> !(#[aE,aE,aE,aE,aE,aE,aE]:Array Bool).getD i aE&&((pS[i]?).map (·.after.all λe=> !Region.binds .any e||(#[aE,aE,aE,aE,aE,aE,aE]:Array Bool).getD e.on aF)).getD aF)=[]:=by kernel_rfl
  rw[e]
  rfl
def To (e d c b a l:Bool):Nat:=(!e).toNat+(!d).toNat+(!c).toNat+(!b).toNat+(!a).toNat+(!l).toNat
section
variable {J:zW->Prop}{St:(zP)->(zP)->zU}{rs:zP}{ds:List Deferred}{k:zI}{cs:zL}{c0:zY}{b1 b2 b3 b4 Cr:Nat}{at':Int}{p0 p1:zY}
 {f:zN} {fn:Func} {first cap:zA} {s:ByteArray}
def SI (hf:Tryz.prog.funcs[f]? =aA fn)(Y:¬fn.name= "runtime.NumGoroutine")(W:¬fn.body=aB){w₀:zW}
  (hW:∀w,(∀b,rs b->w.heap[b]? =w₀.heap[b]?)->Works J rs w f (first.push (.agg #[p0,p1])++cap) s)
  (hS:∀ws q v u p w,J w->St rs ws (QC c0 b1 b2 b3 b4 ds k cs (.chan (aA Cr)) q v u p (.agg #[.int aD at',.string s]) [6]) w):
  ∀(fuel:Nat)(o g d l n m:Bool)(y q v u p x:zY)(ws:zP)(w:zW)(t:Nat),To o g d l n m<fuel->(∀b,rs b->¬ws b/\b<w.heap.size)->(∀b,rs b->w.heap[b]? =w₀.heap[b]?)->
   PZ rs w b1 b2 b3 b4 Cr at' (.func (.func f) first cap) p0 p1->(o=aE->y= .chan (aA Cr))->(g=aE->q= .int aD at')->(d=aE->v= .func (.func f) first cap)->(l=aE->u= .agg #[p0,p1])->(n=aE->p= .string s/\d=aE/\l=aE)->(m=aE->x= .agg #[.int aD at',.string s]/\g=aE/\n=aE)->
   ∃tr,cX Tryz.prog aF J St tr rs ws (QC c0 b1 b2 b3 b4 ds k cs y q v u p x (Region.linearise.go .any pS fuel t #[o,g,d,l,n,m,aF] [])) w:=by
 intro fuel
 induction fuel with
 |zero=>intro o g d l n m y q v u p x ws w t E;omega
 |succ fuel I=>
  intro o g d l n m y q v u p x ws w t E H G z L K V U B C;refine Gn (λh=> ?_) (λi c A hfu hi=> ?_) t
  .exfalso;obtain h|h:=h
   .omega
   .have:=XC o g d l n m;rw[h]at this;simp at this
  .obtain rfl:c=fuel:=by omega
   obtain⟨rfl,r⟩|⟨rfl,r⟩|⟨rfl,r⟩|⟨rfl,r⟩|⟨rfl,r,r2,r3⟩|⟨rfl,r,r1,r4⟩|⟨rfl,r0,r5,r4⟩:=Eh hi
   .subst r;exact w0 z (I aE g d l n m _ q v u p x ws w A (by simp[To]at E⊢;omega) H G z (λ_=>rfl) K V U B C)
   .subst r;exact w1 z (I o aE d l n m y _ v u p x ws w A (by simp[To]at E⊢;omega) H G z L (λ_=>rfl) V U B (λh=>⟨(C h).1,rfl,(C h).2.2⟩))
   .subst r;exact w2 z (I o g aE l n m y q _ u p x ws w A (by simp[To]at E⊢;omega) H G z L K (λ_=>rfl) U (λh=>⟨(B h).1,rfl,(B h).2.2⟩) C)
   .subst r;exact w3 z (I o g d aE n m y q v _ p x ws w A (by simp[To]at E⊢;omega) H G z L K V (λ_=>rfl) (λh=>⟨(B h).1,(B h).2.1,rfl⟩) C)
   .subst r;obtain rfl:=V r2;obtain rfl:=U r3;refine w4 hf Y W ?_;obtain⟨tr,yn⟩:=hW w G (QC c0 b1 b2 b3 b4 ds k cs y q (.func (.func f) first cap) (.agg #[p0,p1]) p x (4::Region.linearise.go .any pS c A #[o,g,d,l,aE,m,aF] [])).frame cs ws H;refine(yn.keep H).bind λX D g' w' Q=> ?_;by_cases hJ:∃a,cQ X D w' a/\J a
    .obtain⟨M,N,O⟩:=hJ;obtain⟨rfl,_,_,R,_⟩:=Q M N O;refine cX.step R λa r j=> ?_;obtain⟨_,yg,T,_,es,F,Z⟩:=Q a r j;refine⟨_,a,es,F,Does.refl D a,λe he=>by rw[dZ];exact Z e he,?_⟩;rw[dZ];exact I o g d l aE m y q _ _ (.string s) x D a A (by simp[To]at E⊢;omega) yg (λb W=>(T b W).trans (G b W)) (z.keep T) L K (λ_=>rfl) (λ_=>rfl) (λ_=>⟨rfl,r2,r3⟩) (λh=>⟨(C h).1,(C h).2.1,rfl⟩)
    .exact⟨.leaf,λa r j=>absurd ⟨a,r,j⟩ hJ⟩
   .subst r;obtain rfl:=K r1;obtain⟨rfl,_⟩:=B r4;exact w5 (I o g d l n aE y _ v u _ _ ws w A (by simp[To]at E⊢;omega) H G z L K V U B (λ_=>⟨rfl,r1,r4⟩))
   .subst r0;subst r5;obtain⟨rfl,r1,_⟩:=C rfl;obtain⟨rfl,r2,r3⟩:=B r4;subst r1;subst r2;subst r3;subst r4;obtain rfl:=L rfl;have eg:Region.linearise.go .any pS c A ((#[aE,aE,aE,aE,aE,aE,aF]:Array Bool).setIfInBounds 6 aE) []=[]:=go_over c A;rw[eg];exact BZ λa _ j=>hS ws _ _ _ _ a j
end
open Go.Conc Go.Ren Go.Proofs Go.RowKit Go.Conc.Lib Go.Wg
open Go.ConcR (KK WgAt stA smA DC0 Payload)
open Go.ConcN (WgLive)
open Go.ConcR.Gen (body_done)
def root (P:zZ):zC:={(default:zC)with fn:=P.funcs.size,defers:=[],mode:= .panicking [goexitEntry]}
section
variable {P:zZ}
def Dh (w:zW):stepG P aF (G (root P) []) w= .go {G (root P) []with status:= .finished} w #[]:=by simp[stepG,G,root,unwind,goexitEntry,Frame.catches];rfl
def Di {b:zC}{a:Act}{todo:zI}{fn:Func}(c:b.kind= .deferred)(e:a.defers=[])(d:P.funcs[b.fn]? =aA fn)(h:fn.results= #[])(w:zW):
  stepG P aF (G {b.at a todo with mode:= .returning} [root P]) w= .go (G (root P) []) w #[]:=by
 simp[stepG,G,unwind,Frame.at,e,d,doReturn,c,root,goexitEntry,results_none h,events_results_none h,seen,aCU]
def GO {b:zC}{a:Act}{todo:zI}{fn:Func}(c:b.kind= .deferred)(e:a.defers=[])(d:P.funcs[b.fn]? =aA fn)(h:fn.results= #[]):QuitsD P 2 0 (G {b.at a todo with mode:= .returning} [root P]):=
 aH ⟨rfl,_,#[],by simp,Di c e d h,aH ⟨rfl,_,#[],by simp,Dh,⟨rfl,rfl⟩⟩⟩
def LH {f:zN}{fn:Func}{c:Code}{a:zA}(b:P.funcs[f]? =aA fn)(h:¬fn.name= "runtime.NumGoroutine")(d:fn.body=aA c)(w:zW):
  stepG P aF (born P ⟨.fn (.func f) a,#[]⟩) w= .go (G ((baseD f).at {tmps:=a++aCy (fn.ntmps-a.size) undef,defers:=[]} [.code c]) [root P]) w #[]:=by
 have e:=enter_atD (P:=P) a b d
 rw[<-e]
 simp[stepG,born,unwind,callDeferred,invoke,callFunc,b,h,d,aCU,seen_none,G,root]
def tJ {R:zW->zW->Prop}{Stop:zU}{m:Nat}{g a:zH}{w:zW}(b:g.status= .running)(h:∀w₁,stepG P aF g w₁= .go a w₁ #[])(c:∀w₁,R w w₁->Go.Conc.Goes P aF R DC0 Stop m a w₁):Go.Conc.Goes P aF R DC0 Stop (m+1) g w:=
 aH ⟨b,λw₁ r=>by rw[h w₁,goes_go];exact⟨⟨rfl,rfl⟩,c w₁ r⟩⟩
end
section
variable(S:Sp){T:zA}
instance:Payload:=⟨3⟩
def ZV (k:S.P=Tryz.prog)(h:S.ty=Tryz.link.tWg)(w:zW)(l:S.J w):
  S.On S.D6 (G ((baseD 182).at ⟨T,[dcall 183 #[.pointer (aA ⟨S.Wg,0,aB⟩)]]⟩ (aM pS []::[])) [root Tryz.prog]) w:=by
 obtain⟨P,ty,Wg,Cr,Cd,n,m0,val,M,Fin,lH,mX⟩:=S
 dsimp only at k h
 subst k
 subst h
 obtain⟨m,o⟩:=Zr (L:=Tryz.link) (P:=Tryz.prog) (R:=λ_ d=>WgLive Tryz.link.tWg Wg d) (F:=λ_=>True) (Wg:=Wg) (c:={(baseD 182).at ⟨T,[]⟩ []with mode:= .returning}) (cs:=[root Tryz.prog]) Tryz.Ac ⟨λ_ r=>⟨trivial,r⟩,λ_=>trivial,λ_=>trivial⟩ rfl (GO (b:=baseD 182) (a:=⟨T,[]⟩) rfl rfl Tryz.func182 rfl) w ⟨trivial,l⟩
 refine⟨m+1+1+1,?_⟩
 refine tJ rfl (λ_=>zGm) λd j=> ?_
 refine tJ rfl (λ_=>stepG_end) λg i=> ?_
 refine tJ rfl (λw=>stepG_unwind_enter (P:=Tryz.prog) (main:=aF) (b:=baseD 182) (a:=⟨T,[dcall 183 #[.pointer (aA ⟨Wg,0,aB⟩)]]⟩) (todo:=[]) (ds:=[]) rfl Tryz.func183 rfl rfl) λf e=> ?_
 exact Go.Conc.Goes.rely (λ_ _ _ _ x=>x) o e
def QI (m:S.P=Tryz.prog)(h:S.ty=Tryz.link.tWg){rs:zP}{w:zW}{b1 c b3 a:Nat}{at':Int}{p0 p1:zY}{f:zN}{fn:Func}{first cap:zA}{s:ByteArray}
  (r:∀b,rs b->b<w.heap.size) (u:PZ rs w b1 c b3 a S.Cr at' (.func (.func f) first cap) p0 p1) (q:Tryz.prog.funcs[f]? =aA fn) (g:¬fn.name= "runtime.NumGoroutine") (i:¬fn.body=aB)
  (v:∀w',(∀b,rs b->w'.heap[b]? =w.heap[b]?)->Works S.J rs w' f (first.push (.agg #[p0,p1])++cap) s):
  ∃e,cX Tryz.prog aF S.J (S.AtSend (.agg #[.int aD at',.string s])) e rs (λ_=>False) (born Tryz.prog ⟨.fn (.func 182) #[.pointer (aA ⟨S.Wg,0,aB⟩),.pointer (aA ⟨b1,0,aB⟩),.pointer (aA ⟨c,0,aB⟩),.pointer (aA ⟨b3,0,aB⟩),.pointer (aA ⟨a,0,aB⟩)],#[]⟩) w:=by
 refine bO rfl (LH Tryz.func182 (by simp[Tryz.f182]) rfl) ?_
 have A:(#[.pointer (aA ⟨S.Wg,0,aB⟩),.pointer (aA ⟨b1,0,aB⟩),.pointer (aA ⟨c,0,aB⟩),.pointer (aA ⟨b3,0,aB⟩),.pointer (aA ⟨a,0,aB⟩)]:zA)++aCy (Tryz.f182.ntmps-5) undef= #[.pointer (aA ⟨S.Wg,0,aB⟩),.pointer (aA ⟨b1,0,aB⟩),.pointer (aA ⟨c,0,aB⟩),.pointer (aA ⟨b3,0,aB⟩),.pointer (aA ⟨a,0,aB⟩),undef,undef,undef,undef,undef,undef]:=by simp[Tryz.f182,aCT]
 simp only[zAl,zAe,zBm,Nat.reduceAdd,zAv]
 rw[A]
 refine bO rfl (λ_=>zGn) ?_
 refine bO rfl (λ_=>zGx) ?_
 refine bO rfl (λ_=>stepG_defer (P:=Tryz.prog) rfl rfl (by simp[baseD]) rfl) ?_
 refine bO rfl (λ_=>zGm) ?_
 walk_nrm
 show∃e,cX Tryz.prog aF S.J (S.AtSend (.agg #[.int aD at',.string s])) e rs (λ_=>False) (G (Frame.at (baseD 182) (Act.mk #[.pointer (aA ⟨S.Wg,0,aB⟩),.pointer (aA ⟨b1,0,aB⟩),.pointer (aA ⟨c,0,aB⟩),.pointer (aA ⟨b3,0,aB⟩),.pointer (aA ⟨a,0,aB⟩),undef,undef,undef,undef,undef,undef] [dcall 183 #[.pointer (aA ⟨S.Wg,0,aB⟩)]]) [.code (.region 1 pS aE)]) [root Tryz.prog]) w
 refine Gp (by kernel_rfl) λt=> ?_
 have y:pS.size=7:=by kernel_rfl
 have z:aCy 7 aF= #[aF,aF,aF,aF,aF,aF,aF]:=rfl
 rw[y,z]
 refine SI (St:=S.AtSend (.agg #[.int aD at',.string s])) (ds:=[dcall 183 #[.pointer (aA ⟨S.Wg,0,aB⟩)]]) (k:=[]) (cs:=[root Tryz.prog]) (c0:= .pointer (aA ⟨S.Wg,0,aB⟩)) q g i (w₀:=w) v (λB p o n x d j=> ?_) 7 aF aF aF aF aF aF undef undef undef undef undef undef (λ_=>False) w t (by decide) (λb i=>⟨id,r b i⟩) (λ_ _=>rfl) u (by simp) (by simp) (by simp) (by simp) (by simp) (by simp)
 refine⟨rfl,QC (.pointer (aA ⟨S.Wg,0,aB⟩)) b1 c b3 a [dcall 183 #[.pointer (aA ⟨S.Wg,0,aB⟩)]] [] [root Tryz.prog] (.chan (aA S.Cr)) p o n x (.agg #[.int aD at',.string s]) [6],.tuple #[],?_,?_⟩
 .rw[m];exact w6
 .exact ZV S m h d j
end
open Go.ConcR.Gen (body_wait)
def kG (t:zD)(c:Nat):Deferred:=⟨.builtin .close #[t] 0 #[aF],#[.chan (aA c)]⟩
section
variable {P:zZ}
def step_shut {b:zC}{a:Act}{todo:zI}{cs:zL}{ds:List Deferred}{t:zD}{c cap s r:Nat}{buf:zA}{tm:Bool}{w:zW}(mn:Bool)(l:a.defers=kG t c::ds)(i:w.heap[c]? =aA (.chan cap buf aF s r tm))(k:(P.funcs[b.fn]?).any (·.norace)=aF):
  stepG P mn (G {b.at a todo with mode:= .returning} cs) w= .go (G {b.at ⟨a.tmps,ds⟩ todo with mode:= .returning} cs) (w.setChan c cap buf aE s r tm) (closeEvents c):=by
 have g:(Builtin.close_ #[t] 0 #[.chan (aA c)]).run P w= .ok (.tuple #[]) (w.setChan c cap buf aE s r tm):=run_close_open _ _ i
 have h:(Builtin.close_ #[t] 0 #[.chan (aA c)]).events P w #[]=closeEvents c:=by rw[events_close_open _ _ i];rfl
 have d:(invoke (.builtin .close #[t] 0 #[aF]) #[.chan (aA c)]).runT P w #[]=(.ok (.value (.tuple #[])) (w.setChan c cap buf aE s r tm),closeEvents c):=by
  rw[Sem.runT_eq];have n:(invoke (.builtin .close #[t] 0 #[aF]) #[.chan (aA c)]).run P w= .ok (.value (.tuple #[])) (w.setChan c cap buf aE s r tm):=by simp[invoke,builtin,g,go_sem]
  have m:(invoke (.builtin .close #[t] 0 #[aF]) #[.chan (aA c)]).events P w #[]=closeEvents c:=by simp[invoke,builtin,g,h,go_sem]
  rw[n,m]
 have j:seen P b.fn (closeEvents c)=closeEvents c:=seen_eq k (by intro e h f;simp only[closeEvents,zAp,zAg,zAt,zCp]at h;obtain rfl|rfl:=h<;>simp)
 simp only[stepG,G,unwind,Frame.at,l,kG,callDeferred,Bool.false_and,zBf,zDp,d,j,aCU]
 rw[zDn]
def sA {b:zC}{a:Act}{ops:zQ}{i:Nat}{rest:List Nat}{k:zI}{cs:zL}{o:Oper}{j:Tmp}{t:zD}{c:Nat}{w:zW}(mn:Bool)(l:ops[i]? =aA o)(m:Region.wanted o (yielded ops a.tmps)=aE)(p:b.kind≠.early)(d:o.op= .defer {callee:= .builtin .close,args:= #[.tmp j],argTypes:= #[t]})(h:o.type=0)(f:a.eval (.tmp j)= .chan (aA c)):
  stepG P mn (G (b.at a (aM ops (i::rest)::k)) cs) w= .go (G (b.at (Act.put ⟨a.tmps,kG t c::a.defers⟩ o.dst undef) (aM ops rest::k)) cs) w #[]:=by
 simp only[Act.eval,zBi]at f
 have n:(aCF a.eval o).run P w= .ok (.defer (kG t c)) w:=by unfold aCF;simp only[d];simp[resolve,f,kG,h,go_sem]
 have q:(aCF a.eval o).events P w #[]= #[]:=by unfold aCF;simp only[d];simp[resolve,f,h,go_sem]
 have e:(b.at ⟨a.tmps,kG t c::a.defers⟩ (aM ops (i::rest)::k)).finish undef=b.at (Act.put ⟨a.tmps,kG t c::a.defers⟩ o.dst undef) (aM ops rest::k):=by rw[Frame.finish_at,l];rfl
 have g:(b.kind==CallKind.early)=aF:=by simpa using p
 rw[stepG_oper l m,<-e]
 simp[stepG.apply,n,q,G,Frame.at,g,aCU,seen_none]
end
noncomputable def Js:zQ:=match Tryz.f184.body with|some (.seq _ (.region _ ops _))=>ops|_=> #[]
noncomputable abbrev frC (b6 Wg Cd:Nat):zC:=(baseD 184).at ⟨#[.pointer (aA ⟨b6,0,aB⟩),.pointer (aA ⟨Wg,0,aB⟩),.chan (aA Cd),undef],[kG 232 Cd]⟩ (aM Js [0]::[])
noncomputable def Ch (b6 Wg Cd:Nat):zU:=Go.ConcN.Gen.AnchWN Tryz.link (λ_=>True) Wg (frC b6 Wg Cd) [root Tryz.prog]
section
variable(S:Sp){b6:Nat}
def ZE (h:S.P=Tryz.prog)(w:zW):S.Goes S.ao 3 (G ((baseD 184).at ⟨#[.pointer (aA ⟨b6,0,aB⟩),.pointer (aA ⟨S.Wg,0,aB⟩),.chan (aA S.Cd),.tuple #[]],[kG 232 S.Cd]⟩ (aM Js []::[])) [root Tryz.prog]) w:=by obtain⟨P,ty,Wg,Cr,Cd,n,m0,val,M,Fin,lH,mX⟩:=S;dsimp only at h;subst h;refine tJ rfl (λ_=>zGm) λd g=> ?_;refine tJ rfl (λ_=>stepG_end) λc f=> ?_;refine Goes.stop λa e=>⟨rfl,rfl,λcap s r t i=>⟨_,step_shut aF rfl i (by kernel_rfl),2,GO (b:=baseD 184) rfl rfl Tryz.func184 rfl⟩⟩
def Hc (d:S.P=Tryz.prog)(h:S.ty=Tryz.link.tWg)(e:S.lH=Ch b6 S.Wg S.Cd)(g:zH)(w:zW)(b:S.lH g w):g.status= .running/\S.On S.de g w:=by
 have c:=ZE S (b6:=b6) d;rw[e]at b;obtain⟨P,ty,Wg,Cr,Cd,n,m0,val,M,Fin,lH,mX⟩:=S;dsimp only at d h e b;subst d;subst h;subst e;refine⟨?_,?_⟩
 .obtain⟨T,rfl,_⟩:=b;rfl
 .exact waitRound (L:=Tryz.link) (P:=Tryz.prog) (mn:=aF) (R:=λ_ a=>WgLive Tryz.link.tWg Wg a) (F:=λ_=>True) (Wg:=Wg) (mT:=3) Tryz.Ac ⟨λ_ r=>⟨trivial,r⟩,λ_=>trivial,λ_=>trivial⟩ (λw _=>c w) g w b
def US (u:S.P=Tryz.prog)(h:S.ty=Tryz.link.tWg)(v:S.lH=Ch b6 S.Wg S.Cd){rs:zP}{w:zW}(g:rs b6)(k:w.cell? ⟨b6,0,aB⟩=aA (.chan (aA S.Cd)))(q:S.J w):
  ∃i,cX Tryz.prog aF S.J (λ_ _=>S.Vw) i rs (λ_=>False) (born Tryz.prog ⟨.fn (.func 184) #[.pointer (aA ⟨b6,0,aB⟩),.pointer (aA ⟨S.Wg,0,aB⟩)],#[]⟩) w:=by
 obtain⟨P,ty,Wg,Cr,Cd,n,m0,val,M,Fin,lH,mX⟩:=S
 dsimp only at u h v k q⊢
 subst u
 subst h
 subst v
 refine bO rfl (LH Tryz.func184 (by simp[Tryz.f184]) rfl) ?_
 have C:(#[.pointer (aA ⟨b6,0,aB⟩),.pointer (aA ⟨Wg,0,aB⟩)]:zA)++aCy (Tryz.f184.ntmps-2) undef= #[.pointer (aA ⟨b6,0,aB⟩),.pointer (aA ⟨Wg,0,aB⟩),undef,undef]:=by simp[Tryz.f184,aCT]
 simp only[zAl,zAe,zBm,Nat.reduceAdd,zAv]
 rw[C]
 refine bO rfl (λ_=>zGn) ?_
 refine bO rfl (λ_=>zGx) ?_
 simp only[zAl,zAe,zBm,Nat.reduceAdd,zAv,List.range,List.range.loop]
 refine dI (.chan (aA Cd)) rfl rfl (by simp[baseD]) (λa r _=> ?_) (λa r _ e s=> ?_) ?_
 .have d:=(bW (aG g) r 0).trans k;go_simp
 .have d:=(bW (aG g) r 0).trans k;simp[go_sem,d]at s;subst s;exact aG ⟨_,_,_,rfl,aH ⟨rfl,g⟩⟩
 walk_nrm
 refine bO rfl (λ_=>sA (P:=Tryz.prog) (j:=2) (t:=232) (c:=Cd) aF rfl rfl (by simp[baseD]) rfl rfl rfl) ?_
 refine bO rfl (λ_=>zGm) ?_
 refine bO rfl (λ_=>zGx) ?_
 walk_nrm
 have A:Js[0]? =aA {dst:=aA 3,op:= .call {callee:= .value (.func 185),args:= #[.tmp 1],argTypes:= #[240]},type:=0,pos:= "gather.go:32",after:= #[],guard:=aB}:=rfl
 refine JG (P:=Tryz.prog) (f:=185) (args:= #[.pointer (aA ⟨Wg,0,aB⟩)]) (ops:=Js) A rfl (by simp[baseD]) (λa=> ?_) (λa=> ?_) ?_
 .simp[aCF,resolve,Deferred.ofValue,invoke,callFunc,Tryz.func185,Tryz.f185,go_sem]
 .simp[aCF,resolve,Deferred.ofValue,invoke,callFunc,Tryz.func185,Tryz.f185,go_sem]
 rw[enter_at (P:=Tryz.prog) (f:=185) (c:=body_wait Tryz.link) #[.pointer (aA ⟨Wg,0,aB⟩)] Tryz.func185 rfl]
 obtain⟨m,B⟩:=waitStart (L:=Tryz.link) (P:=Tryz.prog) (mn:=aF) (R:=λ_ a=>WgLive Tryz.link.tWg Wg a) (F:=λ_=>True) (Wg:=Wg) (b₀:=baseD 184) (a₀:=⟨#[.pointer (aA ⟨b6,0,aB⟩),.pointer (aA ⟨Wg,0,aB⟩),.chan (aA Cd),undef],[kG 232 Cd]⟩) (ops₀:=Js) (i₀:=0) (rest₀:=[]) (k₀:=[]) (cs:=[root Tryz.prog]) Tryz.Ac ⟨λ_ r=>⟨trivial,r⟩,λ_=>trivial,λ_=>trivial⟩ w ⟨trivial,q⟩
 obtain⟨i,g⟩:=AF (J:=λw=>WgLive Tryz.link.tWg Wg w) (rd:=rs) (rw:=λ_=>False) (λ_ _ _ j=>j) B
 exact⟨i,g.mono λ_ _ _ _ x=>x.2.2⟩
end
noncomputable def L2:Code:=match Tryz.f170.body with|some (.seq _ (.seq _ (.seq _ (.seq _ (.seq _ (.seq _ (.seq _ (.seq _ (.block _ (.loop b))))))))))=>b|_=> .skip
noncomputable def qB:zQ:=match L2 with| .block _ (.seq _ (.seq (.region _ ops _) _))=>ops|_=> #[]
noncomputable def C4:Code:=match L2 with| .block _ (.seq _ (.seq _ c))=>c|_=> .skip
noncomputable abbrev lN:zI:=[.code C4,.inBlock 3,.inLoop L2,.inBlock 2]
section
variable {J:zW->Prop}{St:(zP)->(zP)->zU}{rs ws:zP}{w:zW}{ds:List Deferred}{cs:zL}{b5 b6 bo N Cr Cd:Nat}{y0 y1 y2 y3 y4 y5 y6 y7 y8 y9 Tn VW Cq Cp Ns Tm Tl Tk Od Oc Ob Oa Nz Ny Tj Ti Th Tg Tf ly lx Vz Te Td Tc Tb Ta Sz Sy Sx Sw Sv Su:zY}
def SA (w:zW):stepG Tryz.prog aE (G ((base 170).at ⟨#[y0,y1,y2,y3,y4,.pointer (aA ⟨b5,0,aB⟩),.pointer (aA ⟨b6,0,aB⟩),y7,y8,y9,.slice (aA ⟨bo,0,aB⟩) N N,VW,Cq,Cp,Ns,Tm,Tl,Tk,Od,Oc,Ob,Oa,Nz,Ny,Tj,Ti,Th,Tg,Tf,.chan (aA Cr),.chan (aA Cd),Vz,Te,Td,Tc,Tb,Ta,Sz,Sy,Sx,Sw,Sv,Su],ds⟩ (aM qB [0,1,2,3]::lN)) cs) w=
  .comm (G ((base 170).at ⟨#[y0,y1,y2,y3,y4,.pointer (aA ⟨b5,0,aB⟩),.pointer (aA ⟨b6,0,aB⟩),y7,y8,y9,.slice (aA ⟨bo,0,aB⟩) N N,VW,Cq,Cp,Ns,Tm,Tl,Tk,Od,Oc,Ob,Oa,Nz,Ny,Tj,Ti,Th,Tg,Tf,.chan (aA Cr),.chan (aA Cd),Vz,Te,Td,Tc,Tb,Ta,Sz,Sy,Sx,Sw,Sv,Su],ds⟩ (aM qB [0,1,2,3]::lN)) cs) #[rcase Cr (.agg #[.int aD 0,.string ⟨#[]⟩]),rcase Cd (.agg #[])] aE .select w #[]:=by
 have h:qB[0]? =aA {dst:=aA 31,op:= .select #[{chan:= .tmp 29,send:=aB,elem:=242},{chan:= .tmp 30,send:=aB,elem:=233}] aE,type:=0,pos:= "gather.go:38",after:= #[],guard:=aB}:=rfl
 have e:=stepG_comm (P:=Tryz.prog) (main:=aE) (b:=base 170) (a:=⟨#[y0,y1,y2,y3,y4,.pointer (aA ⟨b5,0,aB⟩),.pointer (aA ⟨b6,0,aB⟩),y7,y8,y9,.slice (aA ⟨bo,0,aB⟩) N N,VW,Cq,Cp,Ns,Tm,Tl,Tk,Od,Oc,Ob,Oa,Nz,Ny,Tj,Ti,Th,Tg,Tf,.chan (aA Cr),.chan (aA Cd),Vz,Te,Td,Tc,Tb,Ta,Sz,Sy,Sx,Sw,Sv,Su],ds⟩) (k:=lN) (cs:=cs) (rest:=[1,2,3]) (w:=w) (cases:= #[rcase Cr (.agg #[.int aD 0,.string ⟨#[]⟩]),rcase Cd (.agg #[])]) (blocking:=aE) (shape:= .select) (w':=w) h rfl (by simp[base]) (by simp[aCF,rcase,go_sem])
 rw[e]
 have d:(aCF (Act.eval ⟨#[y0,y1,y2,y3,y4,.pointer (aA ⟨b5,0,aB⟩),.pointer (aA ⟨b6,0,aB⟩),y7,y8,y9,.slice (aA ⟨bo,0,aB⟩) N N,VW,Cq,Cp,Ns,Tm,Tl,Tk,Od,Oc,Ob,Oa,Nz,Ny,Tj,Ti,Th,Tg,Tf,.chan (aA Cr),.chan (aA Cd),Vz,Te,Td,Tc,Tb,Ta,Sz,Sy,Sx,Sw,Sv,Su],ds⟩) {dst:=aA 31,op:= .select #[{chan:= .tmp 29,send:=aB,elem:=242},{chan:= .tmp 30,send:=aB,elem:=233}] aE,type:=0,pos:= "gather.go:38",after:= #[],guard:=aB}).events Tryz.prog w #[]= #[]:=by simp[aCF,go_sem]
 rw[listed_none d]
def Kx {i:Nat}{s:ByteArray}{eV:zA}(hi:i<N)(VS:eV.size=N)(B:rs b5)(A:rs b6)(c5:w.cell? ⟨b5,0,aB⟩=aA (.chan (aA Cr)))(c6:w.cell? ⟨b6,0,aB⟩=aA (.chan (aA Cd)))
  (m:ws bo) (D:w.heap[bo]? =aA (aI eV 9 (0,0))) (O:∀b,rs b->¬ws b/\b<w.heap.size) (pd:bo<w.heap.size) (hN:N<9223372036854775808)
  (hn:∀(u:zP)(w':zW)(y0 y1 y2 y3 y4 y5 y6 y7 y8 y9 Tn VW Cq Cp Ns Tm Tl Tk Od Oc Ob Oa Nz Ny Tj Ti Th Tg Tf ly lx Vz Te Td Tc Tb Ta Sz Sy Sx Sw Sv Su:zY),(∀b,ws b->u b)->(∀b,rs b->¬u b/\b<w'.heap.size)->(∀b,rs b->w'.heap[b]? =w.heap[b]?)->w'.heap[bo]? =aA (aI (eV.setIfInBounds i (.string s)) 9 (0,0))->w.heap.size<=w'.heap.size->w'.tape=w.tape->w'.os=w.os->w'.output=w.output->
   ∃P,cX Tryz.prog aE J St P rs u (G ((base 170).at ⟨#[y0,y1,y2,y3,y4,.pointer (aA ⟨b5,0,aB⟩),.pointer (aA ⟨b6,0,aB⟩),y7,y8,y9,.slice (aA ⟨bo,0,aB⟩) N N,VW,Cq,Cp,Ns,Tm,Tl,Tk,Od,Oc,Ob,Oa,Nz,Ny,Tj,Ti,Th,Tg,Tf,.chan (aA Cr),.chan (aA Cd),Vz,Te,Td,Tc,Tb,Ta,Sz,Sy,Sx,Sw,Sv,Su],ds⟩ (aM qB [0,1,2,3]::lN)) cs) w'):
  ∃P,cX Tryz.prog aE J St P rs ws (G ((base 170).at ⟨#[y0,y1,y2,y3,y4,.pointer (aA ⟨b5,0,aB⟩),.pointer (aA ⟨b6,0,aB⟩),y7,y8,y9,.slice (aA ⟨bo,0,aB⟩) N N,VW,Cq,Cp,Ns,Tm,Tl,Tk,Od,Oc,Ob,Oa,Nz,Ny,Tj,Ti,Th,Tg,Tf,.chan (aA Cr),.chan (aA Cd),.tuple #[.int aD 0,.bool aE,.agg #[.int aD i,.string s],.agg #[]],Te,Td,Tc,Tb,Ta,Sz,Sy,Sx,Sw,Sv,Su],ds⟩ (aM qB [1,2,3]::lN)) cs) w:=by
 simp only[lN,qB,C4,L2,Tryz.f170]
 refine dI (.int aD 0) rfl rfl (by simp[base]) (λa r _=>by go_simp) (λa r _ e c=>by simp[go_sem]at c) ?_
 walk_nrm
 refine dI (.bool aE) rfl rfl (by simp[base]) (λa r _=>by go_simp) (λa r _ e c=>by simp[go_sem]at c) ?_
 walk_nrm
 refine dI (.bool aF) rfl rfl (by simp[base]) (λa r _=>by go_simp) (λa r _ e c=>by simp[go_sem]at c) ?_
 walk_nrm
 refine bO rfl (λ_=>zGm) ?_
 refine bO rfl (λ_=>stepG_block) ?_
 refine bO rfl (λ_=>stepG_cond (t:=aE) rfl) ?_
 simp only[zDf]
 refine bO rfl (λ_=>zGn) ?_
 refine bO rfl (λ_=>zGx) ?_
 simp only[zAl,zAe,zBm,Nat.reduceAdd,zAv,List.range,List.range.loop]
 refine dI (.agg #[.int aD i,.string s]) rfl rfl (by simp[base]) (λa r _=>by go_simp) (λa r _ e c=>by simp[go_sem]at c) ?_
 walk_nrm
 refine MX (λa=> .pointer (aA ⟨a.heap.size,0,aB⟩)) (λa=>a.alloc (aI #[.int aD 0,.string ⟨#[]⟩] 242)) rfl rfl (by simp[base]) λa r j=>⟨by go_simp,rN ws a _,λe c=>by simp[go_sem]at c,?_⟩
 walk_nrm
 have W:(a.alloc (aI #[.int aD 0,.string ⟨#[]⟩] 242)).heap[a.heap.size]? =aA (aI #[.int aD 0,.string ⟨#[]⟩] 242 (0,0)):=uY a _
 have h:grown ws a (a.alloc (aI #[.int aD 0,.string ⟨#[]⟩] 242)) a.heap.size:=aH ⟨zAa _,by rw[gG];omega⟩
 have g:∀b,ws b->grown ws a (a.alloc (aI #[.int aD 0,.string ⟨#[]⟩] 242)) b:=λb l=>aG l
 have M:∀b,rs b->¬grown ws a (a.alloc (aI #[.int aD 0,.string ⟨#[]⟩] 242)) b/\b<(a.alloc (aI #[.int aD 0,.string ⟨#[]⟩] 242)).heap.size:=λb l=>by
  have h1:=O b l;have h2:=r.size;refine⟨λx=>x.elim h1.1 λy=> ?_,?_⟩
  .omega
  .rw[gG];omega
 have Y:∀b,rs b\/ws b->b<w.heap.size->(a.alloc (aI #[.int aD 0,.string ⟨#[]⟩] 242)).heap[b]? =w.heap[b]? :=λb l X=>by rw[<-r.dF b l];exact alloc_old a _ (zAc X r.size)
 have ux:w.heap.size<=(a.alloc (aI #[.int aD 0,.string ⟨#[]⟩] 242)).heap.size:=by have h2:=r.size;rw[gG];omega
 have pc:w.heap.size<=a.heap.size:=r.size
 have U:(a.alloc (aI #[.int aD 0,.string ⟨#[]⟩] 242)).tape=w.tape:=r.tape
 have L:(a.alloc (aI #[.int aD 0,.string ⟨#[]⟩] 242)).os=w.os:=r.os
 have H:(a.alloc (aI #[.int aD 0,.string ⟨#[]⟩] 242)).output=w.output:=r.output
 have Yt:a.heap.size<(a.alloc (aI #[.int aD 0,.string ⟨#[]⟩] 242)).heap.size:=by rw[gG];omega
 clear j r
 generalize grown ws a (a.alloc (aI #[.int aD 0,.string ⟨#[]⟩] 242))=q at*
 generalize a.alloc (aI #[.int aD 0,.string ⟨#[]⟩] 242)=w2 at*
 generalize a.heap.size=f at*
 clear a
 refine JF (λa=>(a.setCell ⟨f,0,aB⟩ (.int aD i)).setCell ⟨f,1,aB⟩ (.string s)) rfl rfl (by simp[base]) λa r j=>⟨?_,?_,?_,?_⟩
 .have d:=(r.dF f (aH h)).trans W;have k:=dC d 0;have k1:=fZ d 0;have o:=jP d 0 (.int aD i);have k2:=dC o 1;have k3:=fZ o 1;go_simp
 .exact⟨λb l hx=>(bP _ _ λe=>hx (by rw[show b=f from e];exact h)).trans (bP _ _ λe=>hx (by rw[show b=f from e];exact h)),by rw[fA,fA];exact zAa _,by simp[World.setCell],by simp[World.setCell],by simp[World.setCell]⟩
 .intro e c;have d:=(r.dF f (aH h)).trans W;have k:=dC d 0;have k1:=fZ d 0;have o:=jP d 0 (.int aD i);have k2:=dC o 1;have k3:=fZ o 1;rw[rJ];simp[go_sem,k,k1]at c;rw[events_store Tryz.prog _ _ _ (.string s) _ rfl]at c;simp[k2,k3]at c;obtain rfl|rfl:=c
  .exact aG ⟨_,_,_,rfl,aG h⟩
  .exact aG ⟨_,_,_,rfl,aG h⟩
 walk_nrm
 have d:=jP (jP ((r.dF f (aH h)).trans W) 0 (.int aD i)) 1 (.string s)
 rw[rJ]
 simp only[zCo,zDm,zDg]at d
 have p:∀b,rs b\/ws b->b<w.heap.size->((a.setCell ⟨f,0,aB⟩ (.int aD i)).setCell ⟨f,1,aB⟩ (.string s)).heap[b]? =w.heap[b]? :=λb l X=>by rw[bP _ _ (show b≠(⟨f,1,aB⟩:Addr).block from by show b≠f;omega),bP _ _ (show b≠(⟨f,0,aB⟩:Addr).block from by show b≠f;omega),r.dF b (l.imp id (g b))];exact Y b l X
 have uw:w2.heap.size<=((a.setCell ⟨f,0,aB⟩ (.int aD i)).setCell ⟨f,1,aB⟩ (.string s)).heap.size:=by rw[fA,fA];exact r.size
 have T:((a.setCell ⟨f,0,aB⟩ (.int aD i)).setCell ⟨f,1,aB⟩ (.string s)).tape=w.tape:=by simp only[World.setCell];exact r.tape.trans U
 have K:((a.setCell ⟨f,0,aB⟩ (.int aD i)).setCell ⟨f,1,aB⟩ (.string s)).os=w.os:=by simp only[World.setCell];exact r.os.trans L
 have F:((a.setCell ⟨f,0,aB⟩ (.int aD i)).setCell ⟨f,1,aB⟩ (.string s)).output=w.output:=by simp only[World.setCell];exact r.output.trans H
 clear r j
 generalize(a.setCell ⟨f,0,aB⟩ (.int aD i)).setCell ⟨f,1,aB⟩ (.string s)=w3 at*
 clear a
 have R:w3.cell? ⟨b5,0,aB⟩=aA (.chan (aA Cr)):=by have e:=p b5 (aG B) (O b5 B).2;simp only[World.cell?]at c5⊢;rw[e];exact c5
 have Q:w3.cell? ⟨b6,0,aB⟩=aA (.chan (aA Cd)):=by have e:=p b6 (aG A) (O b6 A).2;simp only[World.cell?]at c6⊢;rw[e];exact c6
 have v:w3.heap[bo]? =aA (aI eV 9 (0,0)):=(p bo (aH m) pd).trans D
 refine bO rfl (λ_=>zGm) ?_
 refine bO rfl (λ_=>zGx) ?_
 simp only[zAl,zAe,zBm,Nat.reduceAdd,zAv,List.range,List.range.loop]
 refine dI (.slice (aA ⟨bo,0,aB⟩) N N) rfl rfl (by simp[base]) (λa r _=>by go_simp) (λa r _ e c=>by simp[go_sem]at c) ?_
 walk_nrm
 refine dI (.pointer (aA ⟨f,0,aB⟩)) rfl rfl (by simp[base]) (λa r _=>by go_simp) (λa r _ e c=>by simp[go_sem]at c) ?_
 walk_nrm
 refine dI (.int aD i) rfl rfl (by simp[base]) (λa r _=> ?_) (λa r _ e c=> ?_) ?_
 .have k:=(bW (aH h) r 0).trans (dC d 0);go_simp
 .have k:=(bW (aH h) r 0).trans (dC d 0);simp[go_sem,k]at c;subst c;exact aG ⟨_,_,_,rfl,aG h⟩
 walk_nrm
 refine dI (.pointer (aA ⟨f,1,aB⟩)) rfl rfl (by simp[base]) (λa r _=>by go_simp) (λa r _ e c=>by simp[go_sem]at c) ?_
 walk_nrm
 refine dI (.string s) rfl rfl (by simp[base]) (λa r _=> ?_) (λa r _ e c=> ?_) ?_
 .have k:=(bW (aH h) r 1).trans (dC d 1);go_simp
 .have k:=(bW (aH h) r 1).trans (dC d 1);simp[go_sem,k]at c;subst c;exact aG ⟨_,_,_,rfl,aG h⟩
 walk_nrm
 have Qt:¬((i:Int)<0):=by omega
 have Z:(i:Int)<N:=by omega
 refine dI (.pointer (aA ⟨bo,i,aB⟩)) rfl rfl (by simp[base]) (λa r _=> ?_) (λa r _ e c=> ?_) ?_
 .go_simp
 .have e2:(Instr.indexAt 82 (.slice (aA ⟨bo,0,aB⟩) N N) (.int aD i)).events Tryz.prog a #[]= #[]:=events_indexAt_slice 82 ⟨bo,0,aB⟩ N N aD i (by kernel_rfl) ⟨by omega,Z⟩;simp[go_sem,e2]at c
 walk_nrm
 refine JF (λa=>a.setCell ⟨bo,i,aB⟩ (.string s)) rfl rfl (by simp[base]) λa r j=>⟨?_,UK q a _ (g bo m),?_,?_⟩
 .have n:=(r.dF bo (aH (g bo m))).trans v;have k:=dC n i;have k1:=fZ n i;have k2:eV[i]? =aA eV[i]:=zAs (by omega);rw[k2]at k;go_simp
 .intro e c;have n:=(r.dF bo (aH (g bo m))).trans v;have k:=dC n i;have k1:=fZ n i;have k2:eV[i]? =aA eV[i]:=zAs (by omega);rw[k2]at k;rw[qH];simp[go_sem]at c;rw[events_store Tryz.prog _ _ _ (.string s) _ rfl]at c;simp[k,k1]at c;subst c;exact aG ⟨_,_,_,rfl,aG (g bo m)⟩
 walk_nrm
 rw[qH]
 have V:=jP ((r.dF bo (aH (g bo m))).trans v) i (.string s)
 have z:∀b,rs b->(a.setCell ⟨bo,i,aB⟩ (.string s)).heap[b]? =w.heap[b]? :=λb l=>by rw[bP _ _ (show b≠(⟨bo,i,aB⟩:Addr).block fromλe=>(O b l).1 (by rw[show b=bo from e];exact m)),r.dF b (aG l)];exact p b (aG l) (O b l).2
 have yf:∀b,rs b->¬q b/\b<(a.setCell ⟨bo,i,aB⟩ (.string s)).heap.size:=λb l=>⟨(M b l).1,by rw[fA];have:=(M b l).2;have:=r.size;omega⟩
 have C:w.heap.size<=(a.setCell ⟨bo,i,aB⟩ (.string s)).heap.size:=by rw[fA];have:=r.size;omega
 have S:(a.setCell ⟨bo,i,aB⟩ (.string s)).tape=w.tape:=by simp only[World.setCell];exact r.tape.trans T
 have I:(a.setCell ⟨bo,i,aB⟩ (.string s)).os=w.os:=by simp only[World.setCell];exact r.os.trans K
 have E:(a.setCell ⟨bo,i,aB⟩ (.string s)).output=w.output:=by simp only[World.setCell];exact r.output.trans F
 clear r j
 generalize a.setCell ⟨bo,i,aB⟩ (.string s)=w4 at*
 clear a
 have R:w4.cell? ⟨b5,0,aB⟩=aA (.chan (aA Cr)):=by have e:=z b5 B;simp only[World.cell?]at c5⊢;rw[e];exact c5
 have Q:w4.cell? ⟨b6,0,aB⟩=aA (.chan (aA Cd)):=by have e:=z b6 A;simp only[World.cell?]at c6⊢;rw[e];exact c6
 refine bO rfl (λ_=>zGm) ?_
 iterate 2 (refine bO rfl (λ_=>stepG_inBlock) ?_)
 refine bO rfl (λ_=>stepG_inLoop) ?_
 refine bO rfl (λ_=>stepG_block) ?_
 iterate 2 (refine bO rfl (λ_=>zGn) ?_)
 refine bO rfl (λ_=>zGx) ?_
 simp only[zAl,zAe,zBm,Nat.reduceAdd,zAv,List.range,List.range.loop]
 refine dI (.chan (aA Cr)) rfl rfl (by simp[base]) (λa r _=> ?_) (λa r _ e c=> ?_) ?_
 .have k:=(bW (aG B) r 0).trans R;go_simp
 .have k:=(bW (aG B) r 0).trans R;simp[go_sem,k]at c;subst c;exact aG ⟨_,_,_,rfl,aH ⟨rfl,B⟩⟩
 walk_nrm
 refine bO rfl (λ_=>zGm) ?_
 refine bO rfl (λ_=>zGx) ?_
 simp only[zAl,zAe,zBm,Nat.reduceAdd,zAv,List.range,List.range.loop]
 refine dI (.chan (aA Cd)) rfl rfl (by simp[base]) (λa r _=> ?_) (λa r _ e c=> ?_) ?_
 .have k:=(bW (aG A) r 0).trans Q;go_simp
 .have k:=(bW (aG A) r 0).trans Q;simp[go_sem,k]at c;subst c;exact aG ⟨_,_,_,rfl,aH ⟨rfl,A⟩⟩
 walk_nrm
 refine bO rfl (λ_=>zGm) ?_
 refine bO rfl (λ_=>zGn) ?_
 refine bO rfl (λ_=>zGx) ?_
 simp only[zAl,zAe,zBm,Nat.reduceAdd,zAv,List.range,List.range.loop]
 exact hn q w4 _ _ _ _ _ undef undef _ _ _ undef _ _ _ _ _ _ _ _ _ _ _ _ _ _ _ _ _ _ undef undef _ _ _ _ _ _ _ _ _ _ _ _ g yf z V C S I E
end
end Go.Ga
