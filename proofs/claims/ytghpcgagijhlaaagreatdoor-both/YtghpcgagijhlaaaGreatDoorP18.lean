import Derived.Laws.MakeOwn
import Derived.Conc.AppendWalk
import Derived.Test.YtghpcgagijhlaaaGreatDoorP17
set_option linter.all false
set_option maxRecDepth 100000
set_option maxHeartbeats 16000000
open Option renaming some->aA,none->aB
open Bool renaming true->aE,false->aF
open Or renaming inl->aG,inr->aH
open Go.Item renaming inRegion->aM
open Go.Obj renaming cells->aI
open Go.IntKind renaming i64->aD
open Classical renaming choose->aCJ
open Go renaming execOp->aCF
open Go.Deferred renaming ofValue->aCG
open Go.MemOp renaming ofEvents->aCL
namespace Go.Ga
open Go.Conc Go.Ren Go.Proofs Go.RowKit Go.Conc.Lib Go.Wg
open Go.ConcR (KK WgAt stA smA DC0 Payload)
open Go.ConcN (WgLive)
def Kr:∃i,Tryz.prog.info? 9=aA i/\i.zero=aA (.string ⟨#[]⟩)/\i.size=1/\i.bytes=16:=⟨_,rfl,rfl,rfl,rfl⟩
def Pl {N:Nat}(d:N<2147483648)(w:zW):(Instr.makeSlice 82 (.int aD N) (.int aD N)).run Tryz.prog w= .ok (.slice (aA ⟨w.heap.size,0,aB⟩) N N) (w.alloc (aI (madeCells #[.string ⟨#[]⟩] N) 9)):=by obtain⟨i,c,b,a,h⟩:=Kr;have e:=run_make (P:=Tryz.prog) w 82 9 i (.string ⟨#[]⟩) Tryz.underlying82 c b aD aD N N (by omega) (by omega) (by rw[h];omega) (by omega);rw[a]at e;simpa [Value.cells]using e
def Vb {N:Nat}(j:N<2147483648)(w:zW):(Instr.makeSlice 82 (.int aD N) (.int aD N)).events Tryz.prog w #[]= #[]:=by
 obtain⟨i,d,c,b,a⟩:=Kr;have wl:IntKind.i64.wrap (N:Int)=N:=by rw[zGw];omega
 have g:¬(N:Int)<0:=by omega
 have f:¬(281474976710656<(16:Int)*N):=by omega
 have n:N*16<=roomBytes:=by simp only[roomBytes];omega
 by_cases h:N=0
 .subst h;have e:IntKind.i64.wrap 0=0:=by rw[zGw];omega
  simp[Instr.makeSlice,run_underlying Tryz.underlying82,asInt,asIntOf,typeInfo,d,c,b,a,sizeOf,zeroValue,newRow,askRoom,e,go_sem]
 .simp[Instr.makeSlice,run_underlying Tryz.underlying82,asInt,asIntOf,typeInfo,d,c,b,a,sizeOf,zeroValue,wl,g,f,n,h,newRow,askRoom,go_sem]
noncomputable def SV:zQ:=match K0 with| .seq (.region _ ops _) _=>ops|_=> #[]
noncomputable def K1:Code:=match K0 with| .seq _ c=>c|_=> .skip
def Ft.gt (S:Sp)(T:Ft)(ds:List Deferred)(cs:zL)(strs:Nat->ByteArray):Gt:=⟨T.N,T.b5,T.b6,S.Cr,S.Cd,ds,cs,strs,T.K,T.old,T.lo⟩
section
variable {S:Sp}{T:Ft}{St:(zP)->(zP)->zU}{rs ws:zP}{i:Nat}{w:zW}{ds:List Deferred}{cs:zL}{strs:Nat->ByteArray}
def Dd (hP:S.P=Tryz.prog)(hM:S.M=(T.gt S ds cs strs).M)(hT:T.rT)(h:T.Ok S rs ws i w)(hN:T.N<2147483648)(j:Int)(y1 y2 y4 y8 y9 Tn VW Z Y X W V U R Q O L K I H G F E D C B A z v u t s q p o:zY):
  ∃tr,cX Tryz.prog aE S.J (S.M λ_=>False) tr rs ws (Fs S T ds cs y1 y2 y4 y8 y9 Tn VW Z Y X j W V U R Q O L K I H G F E D C B A z v u t s q p o [aM SV [],.code K1]) w:=by
 rw[hM]
 refine bO rfl (λ_=>zGm) ?_
 simp only[K1,K0,Tryz.f170]
 refine bO rfl (λ_=>zGn) ?_
 refine bO rfl (λ_=>zGx) ?_
 simp only[zAl,zAe,zBm,Nat.reduceAdd,zAv,List.range,List.range.loop]
 refine dI (.slice T.pa T.N T.cp) rfl rfl (by simp[base]) (λa r _=>by go_simp) (λa r _ e d=>by simp[go_sem]at d) ?_
 walk_nrm
 refine dI (.int aD T.N) rfl rfl (by simp[base]) (λa r _=>by go_simp) (λa r _ e d=>by simp[go_sem]at d) ?_
 walk_nrm
 refine MX (λa=> .slice (aA ⟨a.heap.size,0,aB⟩) T.N T.N) (λa=>a.alloc (aI (madeCells #[.string ⟨#[]⟩] T.N) 9)) rfl rfl (by simp[base]) λa r jj=>⟨?_,rN ws a _,λe d=> ?_,?_⟩
 .have e1:=Pl hN a;go_simp
 .have e1:=Vb hN a;simp[go_sem,e1]at d
 walk_nrm
 have hk:∀b,rs b->(a.alloc (aI (madeCells #[.string ⟨#[]⟩] T.N) 9)).heap[b]? =w.heap[b]? :=λb c=>(alloc_old _ _ (zAc (h.ED b c).2 r.size)).trans (r.dF b (aG c))
 have m:=uY a (aI (madeCells #[.string ⟨#[]⟩] T.N) 9)
 have bU:a.heap.size<(a.alloc (aI (madeCells #[.string ⟨#[]⟩] T.N) 9)).heap.size:=by rw[gG];omega
 have ou:w.heap.size<=a.heap.size:=r.size
 have l:grown ws a (a.alloc (aI (madeCells #[.string ⟨#[]⟩] T.N) 9)) a.heap.size:=aH ⟨zAa _,bU⟩
 have n:∀b,rs b->¬grown ws a (a.alloc (aI (madeCells #[.string ⟨#[]⟩] T.N) 9)) b:=λb c x=>x.elim (h.ED b c).1 λy=>by have:=(h.ED b c).2;omega
 have ht:(a.alloc (aI (madeCells #[.string ⟨#[]⟩] T.N) 9)).tape=w.tape:=r.tape
 have ho:(a.alloc (aI (madeCells #[.string ⟨#[]⟩] T.N) 9)).os=w.os:=r.os
 have hu:(a.alloc (aI (madeCells #[.string ⟨#[]⟩] T.N) 9)).output=w.output:=r.output
 clear r jj
 generalize grown ws a (a.alloc (aI (madeCells #[.string ⟨#[]⟩] T.N) 9))=ws2 at*
 generalize a.alloc (aI (madeCells #[.string ⟨#[]⟩] T.N) 9)=w2 at*
 generalize a.heap.size=bo at*
 clear a
 have f:∀(b k:Nat),rs b->w2.cell? ⟨b,k,aB⟩=w.cell? ⟨b,k,aB⟩:=λb k c=>by simp only[World.cell?];rw[hk b c]
 have k5:=(f T.b5 0 h.r5).trans h.c5
 have k6:=(f T.b6 0 h.r6).trans h.c6
 refine dI (.slice (aA ⟨bo,0,aB⟩) T.N T.N) rfl rfl (by simp[base]) (λa r _=>by go_simp) (λa r _ e d=>by simp[go_sem]at d) ?_
 walk_nrm
 refine bO rfl (λ_=>zGm) ?_
 refine bO rfl (λ_=>stepG_block) ?_
 refine bO rfl (λ_=>stepG_loop) ?_
 refine bO rfl (λ_=>stepG_block) ?_
 iterate 2 (refine bO rfl (λ_=>zGn) ?_)
 refine bO rfl (λ_=>zGx) ?_
 simp only[zAl,zAe,zBm,Nat.reduceAdd,zAv,List.range,List.range.loop]
 refine dI (.chan (aA S.Cr)) rfl rfl (by simp[base]) (λa r _=> ?_) (λa r _ e d=> ?_) ?_
 .have g:=(bW (aG h.r5) r 0).trans k5;go_simp
 .have g:=(bW (aG h.r5) r 0).trans k5;simp[go_sem,g]at d;subst d;exact aG ⟨_,_,_,rfl,aH ⟨rfl,h.r5⟩⟩
 walk_nrm
 refine bO rfl (λ_=>zGm) ?_
 refine bO rfl (λ_=>zGx) ?_
 simp only[zAl,zAe,zBm,Nat.reduceAdd,zAv,List.range,List.range.loop]
 refine dI (.chan (aA S.Cd)) rfl rfl (by simp[base]) (λa r _=> ?_) (λa r _ e d=> ?_) ?_
 .have g:=(bW (aG h.r6) r 0).trans k6;go_simp
 .have g:=(bW (aG h.r6) r 0).trans k6;simp[go_sem,g]at d;subst d;exact aG ⟨_,_,_,rfl,aH ⟨rfl,h.r6⟩⟩
 walk_nrm
 refine bO rfl (λ_=>zGm) ?_
 refine bO rfl (λ_=>zGn) ?_
 refine bO rfl (λ_=>zGx) ?_
 simp only[zAl,zAe,zBm,Nat.reduceAdd,zAv,List.range,List.range.loop]
 refine BZ λa r _=> ?_
 have Qo:∀b,rs b->a.heap[b]? =w.heap[b]? :=λb c=>(r.dF b (aG c)).trans (hk b c)
 refine⟨bo,madeCells #[.string ⟨#[]⟩] T.N,_,_,_,_,_,_,_,_,_,_,_,_,_,_,_,_,_,_,_,_,_,_,_,_,_,_,_,_,_,_,_,_,_,_,_,_,_,_,rfl,⟨h.r5,h.r6,(bW (aG h.r5) r 0).trans k5,(bW (aG h.r6) r 0).trans k6,l,(r.dF bo (aH l)).trans m,size_madeCells _ _,zAc bU r.size,λb c=>⟨n b c,?_⟩,λ_ _ x=>x.elim,hT w a h.held (λb c=>Qo b (h.olds b c)) ?_ (r.tape.trans ht) (r.os.trans ho) (r.output.trans hu),h.olds,zBl h.low ou⟩⟩
 .have:=(h.ED b c).2;have:=r.size;omega
 .have:=r.size;omega
def Ft.Ok.hand {hh:zP}(h:T.Ok S rs ws i w)(d:∀b,hh b->rs b\/ws b)(c:∀b,hh b->b<w.heap.size):T.Ok S (λb=>rs b\/hh b) (λb=>ws b/\¬hh b) i w:=
 ⟨λb a=>⟨λx=>a.elim (λy=>(h.ED b y).1 x.1) λy=>x.2 y,a.elim (λy=>(h.ED b y).2) (c b)⟩,λb a=>a.elim (λx=>x.elim (λy=>h.Ul b (aG y)) λy=>h.Ul b (d b y)) λx=>h.Ul b (aH x.1),aG h.r3,aG h.r5,aG h.r6,λx=>aG (h.rp x),h.c3,h.c5,h.c6,h.q0,h.q1,h.wg,λb a=>aG (h.olds b a),h.held,h.low⟩
end
section
variable {S:Sp}{T:Ft}{St:(zP)->(zP)->zU}{rs ws:zP}{i:Nat}{w:zW}{ds:List Deferred}{cs:zL}{strs:Nat->ByteArray}
def WK (j:Int)(Q O M L K J I H G F E D C B A z x V v u t s r q p o n m l h g f d c y:zY)(w:zW):
  stepG Tryz.prog aE (Fs S T ds cs Q O M L K J I H G F j E D C B A z x (.func (.func 184) #[] #[.pointer (aA ⟨T.b6,0,aB⟩),.pointer (aA ⟨S.Wg,0,aB⟩)]) v u t s r q p o n m l h g f d c y [aM SV [1],.code K1]) w=
  .spawn (Fs S T ds cs Q O M L K J I H G F j E D C B A z x (.func (.func 184) #[] #[.pointer (aA ⟨T.b6,0,aB⟩),.pointer (aA ⟨S.Wg,0,aB⟩)]) v u t s r q p o n m l h g f d c y [aM SV [],.code K1]) (born Tryz.prog ⟨.fn (.func 184) #[.pointer (aA ⟨T.b6,0,aB⟩),.pointer (aA ⟨S.Wg,0,aB⟩)],#[]⟩) w #[]:=by
 have W:SV[1]? =aA {dst:=aB,op:= .go {callee:= .value (.tmp 25),args:= #[],argTypes:= #[]},type:=0,pos:= "gather.go:30",after:= #[⟨0,.data⟩],guard:=aB}:=rfl
 have U:∀a:Act,a.eval (.tmp 25)=(.func (.func 184) #[] #[.pointer (aA ⟨T.b6,0,aB⟩),.pointer (aA ⟨S.Wg,0,aB⟩)])->(aCF a.eval {dst:=aB,op:= .go {callee:= .value (.tmp 25),args:= #[],argTypes:= #[]},type:=0,pos:= "gather.go:30",after:= #[⟨0,.data⟩],guard:=aB}).run Tryz.prog w= .ok (.spawn ⟨.fn (.func 184) #[.pointer (aA ⟨T.b6,0,aB⟩),.pointer (aA ⟨S.Wg,0,aB⟩)],#[]⟩) w/\
   (aCF a.eval {dst:=aB,op:= .go {callee:= .value (.tmp 25),args:= #[],argTypes:= #[]},type:=0,pos:= "gather.go:30",after:= #[⟨0,.data⟩],guard:=aB}).events Tryz.prog w #[]= #[]:=λa R=>by
  simp only[Act.eval,zBi]at R
  constructor
  .simp[aCF,resolve,aCG,R,go_sem]
  .simp[aCF,resolve,aCG,R,go_sem]
 have e:=stepG_spawn (P:=Tryz.prog) (main:=aE) (b:=base 170) (k:=[.code K1]) (cs:=cs) (w:=w) (rest:=[]) W (a:=⟨#[.slice T.pa T.N T.cp,Q,O,.pointer (aA ⟨T.b3,0,aB⟩),M,.pointer (aA ⟨T.b5,0,aB⟩),.pointer (aA ⟨T.b6,0,aB⟩),.pointer (aA ⟨S.Wg,0,aB⟩),L,K,J,I,H,G,F,.slice T.pa T.N T.cp,.int aD T.N,.int aD j,E,D,C,B,A,z,x,(.func (.func 184) #[] #[.pointer (aA ⟨T.b6,0,aB⟩),.pointer (aA ⟨S.Wg,0,aB⟩)]),v,u,t,s,r,q,p,o,n,m,l,h,g,f,d,c,y],ds⟩) rfl (by simp[base]) (U _ rfl).1 rfl
 rw[listed_none (U _ rfl).2]at e
 exact e
def NX (j:Int)(L K:Nat)(U R Q O M J I H G F E D C B A X z x v u t s r q p o n m l h g f d c y:zY)(w:zW):
  stepG Tryz.prog aE (Fs S T ds cs U R Q O M J I H G F j E D C B A (.func (.func 182) #[] #[.pointer (aA ⟨S.Wg,0,aB⟩),.pointer (aA ⟨T.b5,0,aB⟩),.pointer (aA ⟨L,0,aB⟩),.pointer (aA ⟨T.b3,0,aB⟩),.pointer (aA ⟨K,0,aB⟩)]) z x v u t s r q p o n m l h g f d c y [aM Jt [1],.inBlock 1,.code Wb,.inLoop L0,.inBlock 0,.code K0]) w=
  .spawn (Fs S T ds cs U R Q O M J I H G F j E D C B A (.func (.func 182) #[] #[.pointer (aA ⟨S.Wg,0,aB⟩),.pointer (aA ⟨T.b5,0,aB⟩),.pointer (aA ⟨L,0,aB⟩),.pointer (aA ⟨T.b3,0,aB⟩),.pointer (aA ⟨K,0,aB⟩)]) z x v u t s r q p o n m l h g f d c y [aM Jt [],.inBlock 1,.code Wb,.inLoop L0,.inBlock 0,.code K0]) (born Tryz.prog ⟨.fn (.func 182) #[.pointer (aA ⟨S.Wg,0,aB⟩),.pointer (aA ⟨T.b5,0,aB⟩),.pointer (aA ⟨L,0,aB⟩),.pointer (aA ⟨T.b3,0,aB⟩),.pointer (aA ⟨K,0,aB⟩)],#[]⟩) w #[]:=by
 have Y:Jt[1]? =aA {dst:=aB,op:= .go {callee:= .value (.tmp 23),args:= #[],argTypes:= #[]},type:=0,pos:= "gather.go:25",after:= #[⟨0,.data⟩],guard:=aB}:=rfl
 have W:∀a:Act,a.eval (.tmp 23)=(.func (.func 182) #[] #[.pointer (aA ⟨S.Wg,0,aB⟩),.pointer (aA ⟨T.b5,0,aB⟩),.pointer (aA ⟨L,0,aB⟩),.pointer (aA ⟨T.b3,0,aB⟩),.pointer (aA ⟨K,0,aB⟩)])->(aCF a.eval {dst:=aB,op:= .go {callee:= .value (.tmp 23),args:= #[],argTypes:= #[]},type:=0,pos:= "gather.go:25",after:= #[⟨0,.data⟩],guard:=aB}).run Tryz.prog w= .ok (.spawn ⟨.fn (.func 182) #[.pointer (aA ⟨S.Wg,0,aB⟩),.pointer (aA ⟨T.b5,0,aB⟩),.pointer (aA ⟨L,0,aB⟩),.pointer (aA ⟨T.b3,0,aB⟩),.pointer (aA ⟨K,0,aB⟩)],#[]⟩) w/\
   (aCF a.eval {dst:=aB,op:= .go {callee:= .value (.tmp 23),args:= #[],argTypes:= #[]},type:=0,pos:= "gather.go:25",after:= #[⟨0,.data⟩],guard:=aB}).events Tryz.prog w #[]= #[]:=λa V=>by
  simp only[Act.eval,zBi]at V
  constructor
  .simp[aCF,resolve,aCG,V,go_sem]
  .simp[aCF,resolve,aCG,V,go_sem]
 have e:=stepG_spawn (P:=Tryz.prog) (main:=aE) (b:=base 170) (k:=[.inBlock 1,.code Wb,.inLoop L0,.inBlock 0,.code K0]) (cs:=cs) (w:=w) (rest:=[]) Y (a:=⟨#[.slice T.pa T.N T.cp,U,R,.pointer (aA ⟨T.b3,0,aB⟩),Q,.pointer (aA ⟨T.b5,0,aB⟩),.pointer (aA ⟨T.b6,0,aB⟩),.pointer (aA ⟨S.Wg,0,aB⟩),O,M,J,I,H,G,F,.slice T.pa T.N T.cp,.int aD T.N,.int aD j,E,D,C,B,A,(.func (.func 182) #[] #[.pointer (aA ⟨S.Wg,0,aB⟩),.pointer (aA ⟨T.b5,0,aB⟩),.pointer (aA ⟨L,0,aB⟩),.pointer (aA ⟨T.b3,0,aB⟩),.pointer (aA ⟨K,0,aB⟩)]),z,x,v,u,t,s,r,q,p,o,n,m,l,h,g,f,d,c,y],ds⟩) rfl (by simp[base]) (W _ rfl).1 rfl
 rw[listed_none (W _ rfl).2]at e
 exact e
def Lb (Z:S.P=Tryz.prog)(h:S.J w)(Y X W V U K I H G F O E D C B A z L x v u s q p o m l k j g f d c b y:zY)
  (hn:∃Q,S.dX St Q 0 rs ws (Fs S T ds cs Y X W V U K I H G F T.N (.bool aF) E D C B A z (.func (.func 184) #[] #[.pointer (aA ⟨T.b6,0,aB⟩),.pointer (aA ⟨S.Wg,0,aB⟩)]) x v u s q p o m l k j g f d c b y [aM SV [1],.code K1]) w):
  ∃Q,S.dX St Q 0 rs ws (Fs S T ds cs Y X W V U K I H G F T.N O E D C B A z L x v u s q p o m l k j g f d c b y [.code L0,.inLoop L0,.inBlock 0,.code K0]) w:=by
 obtain⟨P,ty,Wg,Cr,Cd,n,m0,val,M,Fin,lH,mX⟩:=S
 dsimp only at Z
 subst Z
 simp only[L0,Tryz.f170]
 refine eN h rfl (λ_=>zGn) ?_
 refine eN h rfl (λ_=>zGx) ?_
 simp only[zAl,zAe,zBm,Nat.reduceAdd,zAv,List.range,List.range.loop]
 refine rQ h (.bool aF) rfl rfl (by simp[base]) (λa r=>by go_simp) (λa r e R=>by simp[go_sem]at R) ?_
 walk_nrm
 refine eN h rfl (λ_=>zGm) ?_
 refine eN h rfl (λ_=>zGn) ?_
 refine eN h rfl (λ_=>stepG_cond (t:=aF) rfl) ?_
 simp only[zBf,zDp]
 refine eN h rfl (λ_=>stepG_exit rfl) ?_
 simp only[K0,Tryz.f170]
 refine eN h rfl (λ_=>zGn) ?_
 refine eN h rfl (λ_=>zGx) ?_
 simp only[zAl,zAe,zBm,Nat.reduceAdd,zAv,List.range,List.range.loop]
 refine rQ h (.func (.func 184) #[] #[.pointer (aA ⟨T.b6,0,aB⟩),.pointer (aA ⟨Wg,0,aB⟩)]) rfl rfl (by simp[base]) (λa r=>by go_simp) (λa r e R=>by simp[go_sem]at R) ?_
 walk_nrm
 exact hn
def Fv (X:S.P=Tryz.prog)(h:S.J w)(Z:i<2147483648)(W V U R Q K I H G F E D C B A z L x v u t s q p o m l k j g f d c b y:zY)
  (Y:∃N,S.dX St N 0 rs ws (Fs S T ds cs W V U R Q K I H G F ((i+1:Nat):Int) E D C B A z (.int aD ((i+1:Nat):Int)) x v u t s q p o m l k j g f d c b y [.code L0,.inLoop L0,.inBlock 0,.code K0]) w):
  ∃N,S.dX St N 0 rs ws (Fs S T ds cs W V U R Q K I H G F i E D C B A z L x v u t s q p o m l k j g f d c b y [aM Jt [],.inBlock 1,.code Wb,.inLoop L0,.inBlock 0,.code K0]) w:=by
 obtain⟨P,ty,Wg,Cr,Cd,n,m0,val,M,Fin,lH,mX⟩:=S
 dsimp only at X
 subst X
 have wl:IntKind.i64.wrap ((i:Int)+1)=((i+1:Nat):Int):=by rw[zGw];omega
 refine eN h rfl (λ_=>zGm) ?_
 refine eN h rfl (λ_=>stepG_inBlock) ?_
 simp only[Wb,L0,Tryz.f170]
 refine eN h rfl (λ_=>zGx) ?_
 simp only[zAl,zAe,zBm,Nat.reduceAdd,zAv,List.range,List.range.loop]
 refine rQ h (.int aD ((i+1:Nat):Int)) rfl rfl (by simp[base]) (λa r=>by go_simp) (λa r e O=>by simp[go_sem]at O) ?_
 walk_nrm
 refine rQ h (.int aD ((i+1:Nat):Int)) rfl rfl (by simp[base]) (λa r=>by go_simp) (λa r e O=>by simp[go_sem]at O) ?_
 walk_nrm
 refine eN h rfl (λ_=>zGm) ?_
 refine eN h rfl (λ_=>stepG_inLoop) ?_
 exact Y
def Sf {f:zN}{fn:Func}{first cap:zA}(Nv:0<T.N->T.pa=aA ⟨T.bp,T.o,aB⟩)(X:S.P=Tryz.prog)(Wm:S.ty=Tryz.link.tWg)(hA:S.lH=Ch T.b6 S.Wg S.Cd)(hM:S.M=(T.gt S ds cs strs).M)(hT:T.rT)(hN:T.N<2147483648)(hn:S.n=T.N)(hv:∀i,S.val i= .agg #[.int aD i,.string (strs i)])
  (ow:T.fv= .func (.func f) first cap) (hf:Tryz.prog.funcs[f]? =aA fn) (ni:¬fn.name= "runtime.NumGoroutine") (hb:¬fn.body=aB)
  (hW:∀i,i<T.N->∀(ay:zP)(w w':zW),T.K w->(∀b,T.old b->ay b)->(∀b,T.old b->w'.heap[b]? =w.heap[b]?)->Works S.J ay w' f (first.push (.agg #[T.p0 i,T.p1 i])++cap) (strs i)):
  ∀(k i:Nat)(rs ws:zP)(w:zW)(y1 y2 Z y8 y9 G F E D C Y V U R Q O L I B A z v u t s q p m l j g e d c a:zY),i+k=T.N->T.Ok S rs ws i w->
  ∃tr,S.dX (S.Fk k) tr 0 rs ws (Fs S T ds cs y1 y2 Z y8 y9 G F E D C i Y V U R Q O L I B A z v u t s q p m l j g e d c a [.code L0,.inLoop L0,.inBlock 0,.code K0]) w
 |0,i,rs,ws,w,y1,y2,Z,y8,y9,G,F,E,D,C,Y,V,U,R,Q,O,L,I,B,A,z,v,u,t,s,q,p,m,l,j,g,e,d,c,a,xg,h=>by
  have hi:i=T.N:=by omega
  subst hi
  refine Lb X h.live y1 y2 Z y8 y9 G F E D C Y V U R Q O L I B A z v u t s q p m l j g e d c a ?_
  refine Bv λH r=> ?_
  have W:=h.lK hT r
  have e1:(λb=>rs b\/rs b)=rs:=funext λb=>propext ⟨λx=>x.elim id id,aG⟩
  have e2:(λb=>ws b/\¬rs b)=ws:=funext λb=>propext ⟨λx=>x.1,λx=>⟨x,λy=>(h.ED b y).1 x⟩⟩
  refine⟨rfl,by rw[hn];exact W.wg,_,_,rs,by rw[X];exact WK T.N y1 y2 Z y8 y9 G F E D C (.bool aF) V U R Q O L I B A z v u t s q p m l j g e d c a H,λ_ x=>aG x,?_,?_⟩
  .rw[X];exact US S X Wm hA W.r6 W.c6 W.live
  .rw[e1,e2,X];exact Dd (strs:=strs) X hM hT W hN T.N y1 y2 Z y8 y9 G F E D C (.bool aF) V U R Q O L (.func (.func 184) #[] #[.pointer (aA ⟨T.b6,0,aB⟩),.pointer (aA ⟨S.Wg,0,aB⟩)]) B A z v u t s q p m l j g e d c a
 |k+1,i,rs,ws,w,y1,y2,Z,y8,y9,G,F,E,D,C,Y,V,U,R,Q,O,L,I,B,A,z,v,u,t,s,q,p,m,l,j,g,e,d,c,a,xg,h=>by
  refine Fu X Wm hT h Nv (by omega) hN y1 y2 Z y8 y9 G F E D C Y V U R Q O L I B A z v u t s q p m l j g e d c a λNt w' b8 b9 Wy Wx Ww Wv Wu h' o8 o9 l8 l9 k8 k9 fo=> ?_;refine Bv λH r=> ?_;have W:=h'.lK hT r;have xb:=(bW (aH (aG o8)) r 0).trans k8;have xa:=(bW (aH (aG o9)) r 0).trans k9;have iq:=(bW (aH (aG o9)) r 1).trans fo;have Ym:∀b,rs b\/b=b8\/b=b9->rs b\/Nt b:=λb hb=>by
   obtain x|rfl|rfl:=hb
   .exact aG x
   .exact aH o8
   .exact aH o9
  have bU:∀b,rs b\/b=b8\/b=b9->b<H.heap.size:=λb hb=>by
   obtain x|rfl|rfl:=hb
   .exact(W.ED b x).2
   .exact zAc l8 r.size
   .exact zAc l9 r.size
  have h2:=W.hand (hh:=λb=>rs b\/b=b8\/b=b9) Ym bU
  refine⟨rfl,_,_,λb=>rs b\/b=b8\/b=b9,by rw[X];exact NX i b8 b9 y1 y2 Z (.pointer (aA ⟨b8,0,aB⟩)) (.pointer (aA ⟨b9,0,aB⟩)) G F E D C Wy Wx Ww Wv Wu O L I B A z v u t s q p m l j g e d c a H,Ym,?_,?_⟩
  .have e3:S.n-1-k=i:=by omega
   rw[e3,hv i,X];exact QI S X Wm bU ⟨aG W.r5,aH (aG rfl),aG W.r3,aH (aH rfl),W.c5,xb,by rw[W.c3,ow],xa,iq⟩ hf ni hb λdk Yg=>hW i (by omega) _ H dk W.held (λb hb=>aG (W.olds b hb)) λb hb=>Yg b (aG (W.olds b hb))
  .refine Fv X h2.live (by omega) y1 y2 Z (.pointer (aA ⟨b8,0,aB⟩)) (.pointer (aA ⟨b9,0,aB⟩)) G F E D C Wy Wx Ww Wv Wu (.func (.func 182) #[] #[.pointer (aA ⟨S.Wg,0,aB⟩),.pointer (aA ⟨T.b5,0,aB⟩),.pointer (aA ⟨b8,0,aB⟩),.pointer (aA ⟨T.b3,0,aB⟩),.pointer (aA ⟨b9,0,aB⟩)]) L I B A z v u t s q p m l j g e d c a ?_;exact Sf Nv X Wm hA hM hT hN hn hv ow hf ni hb hW k (i+1) _ _ H y1 y2 Z (.pointer (aA ⟨b8,0,aB⟩)) (.pointer (aA ⟨b9,0,aB⟩)) G F E D C Wy Wx Ww Wv Wu (.func (.func 182) #[] #[.pointer (aA ⟨S.Wg,0,aB⟩),.pointer (aA ⟨T.b5,0,aB⟩),.pointer (aA ⟨b8,0,aB⟩),.pointer (aA ⟨T.b3,0,aB⟩),.pointer (aA ⟨b9,0,aB⟩)]) (.int aD ((i+1:Nat):Int)) I B A z v u t s q p m l j g e d c a (by omega) h2
end
open Go.Conc Go.Ren Go.Proofs Go.RowKit Go.Conc.Lib Go.Wg Go.Tr
open Go.ConcN (sumTo upd sumTo_upd upd_same upd_ne)
structure Calm (Sh:zP)(B:Nat)(t:Trace):Prop where
 past:Past (λl=>∃b,blk l=aA b/\Sh b) B t
 Tx:∀b,Sh b->∀i a,touchAt t i=aA a->blk a.loc=aA b->a.kind≠.plain
abbrev EvC (Sh:zP)(B:Nat)(e:Event):Prop:=EvL (λl=>∃b,blk l=aA b/\Sh b) B e
section
variable {P:zZ}{Sh:zP}{B B':Nat}{t:Trace}{gs:zG}{q:Nat->Nat}{sl:Option (Nat×Nat)}{w:zW}{a:zH}
def Calm.mono (h:Calm Sh B t)(b:B<=B'):Calm Sh B' t:=⟨h.past.mono b,h.Tx⟩
def Calm.own (h:Calm Sh B t){fn:zN}{pos:String}{es:zE}(j:∀e∈es,EvC Sh B e):Calm Sh B (t++aCL 0 fn pos es):=
 ⟨h.past.own j,λb k i x l g=>by
  obtain⟨_,m⟩|⟨op,_,_,d,c⟩:=eA l
  .exact h.Tx b k i x m g
  .obtain⟨e,f,rfl⟩:=Go.Conc.mem_ofEvents d;exact(j e f).1 x c ⟨b,g,k⟩⟩
def Calm.mute (h:Calm Sh B t){g:Nat}(m:g≠0){fn:zN}{pos:String}{es:zE}(j:∀e∈es,e.mute=aE):Calm Sh B (t++aCL g fn pos es):=
 ⟨h.past.mute m j,λb n i x l k=>by
  obtain⟨_,o⟩|⟨op,_,_,d,c⟩:=eA l
  .exact h.Tx b n i x o k
  .obtain⟨e,f,rfl⟩:=Go.Conc.mem_ofEvents d;rw[touch_mute (j e f)]at c;cases c⟩
def yO (l:Leavers P t gs q){j:Nat}{g f:zH}{w':zW}{u:Trace}{d:Nat->Nat}(k:∀op∈u,op.g=j)(o:j<gs.size)(n:∀i,i≠j->d i=q i)(h:0<j->QuitsD P (d j) (Deaf (t++u) j) f):
  Leavers P (t++u) ((gs.map (woken P g f w')).setIfInBounds j f) d:=by
 refine⟨λi x b c=> ?_,λi b=> ?_⟩
 .by_cases e:j=i
  .subst e;rw[zAo (by simpa using o)]at c;cases c;exact h b
  .rw[zAd e,zCt]at c;obtain⟨y,m,rfl⟩:=zBx.1 c;have:=l.old i y b m;rw[woken_quitsD this,Deaf_other t e u k,n i λx=>e x.symm];exact this
 .simp only[zDe,Array.size_map]at b;rw[Deaf_other t (by omega) u k];exact l.above i b
def CP {a':Nat->zH}{w':Nat->zW}{es:Nat->zE}{C:Nat->Nat}(H:a.status= .running)(G:∀d,stepG P aE a (w.at d)= .go (a' d) (w' d) (es d))(O:∀d,B<=C d)(Y:∀d,∀e∈es d,EvC Sh (C d) e):
  ∀(M:Nat)(gs:zG)(d:Nat)(sl:Option (Nat×Nat))(t:Trace)(q:Nat->Nat),sumTo gs.size q=M->gs[0]? =aA a->Leavers P t gs q->Calm Sh B t->
  ∃(N v:Nat)(b:zG)(s:Option (Nat×Nat))(m:Trace)(E:Nat->Nat),runNT P N (crowd gs (w.at d) sl) t=(.next (crowd b (w' v) s),m)/\b.size=gs.size/\b[0]? =aA (a' v)/\Leavers P m b E/\Calm Sh (C v) m:=by
 intro M
 induction M using Nat.strongRecOn with
 |_ M V=>
  intro gs d sl t q hM r D U;have L:∀g∈gs,Go.Conc.awake g:=by
   intro y W;obtain⟨i,K,rfl⟩:=Array.mem_iff_getElem.1 W;have F:gs[i]? =aA gs[i]:=zAs K;by_cases u:i=0
   .subst u;rw[r]at F;rw[<-zAm F];exact awake_of (aG H)
   .exact awake_of ((D.old i _ (by omega) F).status.elim aG λx=>aH (aH x))
  obtain⟨j,g,d1,s,p,A,T⟩:=crowd_pick (P:=P) (w:=w.at d) (sl:=sl) L ⟨0,a,r,H⟩
  have bU:j<gs.size:=(zAb.1 p).1
  have c:∀(g:Nat)(fn:zN)(pos:String)(es:zE),∀op∈aCL g fn pos es,op.g=g:=λg fn pos es op J=>by obtain⟨e,_,rfl⟩:=Go.Conc.mem_ofEvents J;rfl
  by_cases u:j=0
  .subst u;rw[r]at p;cases p;have h:=runT_crowd_go (P:=P) (sl:=s) (i:=0) r (show stepG P (0==0) a ((w.at d).at d1)=_ from G d1);refine⟨1,d1,(gs.map (woken P a (a' d1) (w' d1))).setIfInBounds 0 (a' d1),s,t++aCL 0 a.frame.fn a.frame.place (es d1),q,by simp only[runNT,T,h],by simp,by rw[zAo (by simpa using bU)],yO D (c 0 _ _ _) bU (λ_ _=>rfl) (λx=>absurd x (zEt 0)),(U.mono (O d1)).own (Y d1)⟩
  .have z:=D.old j g (by omega) p;cases l:q j with
   |zero=>rw[l]at z;rw[z.1]at A;cases A
   |succ k=>
    rw[l]at z;obtain⟨X,_⟩|⟨_,Q,R,hm,o,I⟩:=z
    .rw[X]at A;cases A
    .have h:=runT_crowd_go (P:=P) (sl:=s) (i:=j) p (by rw[show(j==0)=aF by simp;omega];exact o ((w.at d).at d1));have S:sumTo gs.size (upd q j k)+(k+1)=sumTo gs.size q+k:=by
      have:=sumTo_upd q k id bU;simp only[id_eq,l]at this;exact this
     have f:woken P g Q ((w.at d).at d1) a=a:=woken_running H;obtain⟨N,v,b,n,m,E,h1,h2,Z⟩:=V (sumTo gs.size (upd q j k)) (by omega) ((gs.map (woken P g Q ((w.at d).at d1))).setIfInBounds j Q) d1 s (t++aCL j g.frame.fn g.frame.place R) (upd q j k) (by simp) (by rw[zAd u,zCt,r,zAx,f])
      (yO D (c j _ _ _) bU (λi K=>upd_ne q k K) λ_=>by rw[upd_same,Deaf_own];exact I) (U.mute u hm)
     exact⟨N+1,v,b,n,m,E,by simp only[runNT,T,h];exact h1,by rw[h2];simp,Z⟩
end
open Go.ConcR (wgBlock)
abbrev rW (P:zZ)(Sh:zP)(B:Nat)(Stop:zU)(n:Nat):zU:=Go.Conc.Goes P aE Go.Conc.AtRel (λ_ _ a=>∀e∈a,EvC Sh B e) Stop n
section
variable {P:zZ}{Sh:zP}{B:Nat}{Stop:zU}
def BJ:∀(n:Nat)(a:zH)(w:zW)(c:zG)(sl:Option (Nat×Nat))(t:Trace)(q:Nat->Nat),rW P Sh B Stop n a w->c[0]? =aA a->Leavers P t c q->Calm Sh B t->
  ∃(N:Nat)(b:zG)(E:zH)(i:zW)(s:Option (Nat×Nat))(j:Trace)(v:Nat->Nat),runNT P N (crowd c w sl) t=(.next (crowd b i s),j)/\b.size=c.size/\b[0]? =aA E/\Stop E i/\Leavers P j b v/\Calm Sh B j
 |0,a,w,c,sl,t,q,h,o,m,hC=>⟨0,c,a,w,sl,t,q,rfl,rfl,o,h w (atRel_refl w),m,hC⟩
 |n+1,a,w,c,sl,t,q,h,o,m,hC=>by
  obtain h|⟨G,h⟩:=h
  .exact⟨0,c,a,w,sl,t,q,rfl,rfl,o,h w (atRel_refl w),m,hC⟩
  .have f:∀d,∃x:zH×zW×zE,stepG P aE a (w.at d)= .go x.1 x.2.1 x.2.2/\(∀e∈x.2.2,EvC Sh B e)/\rW P Sh B Stop n x.1 x.2.1:=λd=>by
    obtain⟨g',i,F,A,z,y⟩:=goes_elim (h (w.at d) ⟨d,rfl⟩);exact⟨(g',i,F),A,z,y⟩
   obtain⟨N,d,b,s,j,v,A,z,y,I,H⟩:=CP (w:=w) (a':=λd=>(aCJ (f d)).1) (w':=λd=>(aCJ (f d)).2.1) (es:=λd=>(aCJ (f d)).2.2) G (λd=>(zAr (f d)).1) (C:=λ_=>B) (λ_=>zAa _) (λd=>(zAr (f d)).2.1) (sumTo c.size q) c w.drawn sl t q rfl o m hC;obtain⟨L,l,D,p,k,r,u,K,g2,J⟩:=BJ n _ _ b s j v (zAr (f d)).2.2 y I H;exact⟨N+L,l,D,p,k,r,u,by rw[runNT_add,show crowd c w sl=crowd c (w.at w.drawn) sl from rfl,A];exact K,g2.trans z,J⟩
end
def ext (w:zW)(os:zJ):zW:={w with heap:=w.heap++os}
section
variable {w:zW}{os:zJ}
def mP:(ext w os).heap.size=w.heap.size+os.size:=by simp[ext]
def ext_get {B i:Nat}(h:w.heap.size=B):(ext w os).heap[B+i]? =os[i]? :=by
 subst h;show(w.heap++os)[w.heap.size+i]? =_
 rw[zCu (by omega)]
 congr 1
 omega
def Ra {b:Nat}(h:b<w.heap.size):(ext w os).heap[b]? =w.heap[b]? :=by
 show(w.heap++os)[b]? =_
 rw[zDk h]
def nV (o:Obj):(ext w os).alloc o=ext w (os.push o):=by simp[ext,World.alloc]
def Bm {B i:Nat}(j:w.heap.size=B){c:zA}{t:zD}{fr:Nat×Nat}(h:os[i]? =aA (aI c t fr))(v:zY):(ext w os).setCell ⟨B+i,0,aB⟩ v=ext w (os.setIfInBounds i (aI (c.setIfInBounds 0 v) t fr)):=by
 subst j;have d:i<os.size:=(zAb.1 h).1;have f:os[i]=aI c t fr:=by simpa [zAs d]using h
 simp only[ext,World.setCell,World.mk.injEq,and_true,true_and]
 apply Array.ext
 .simp
 .intro k a b;simp only[Array.size_modify,zEb]at a;rw[Array.getElem_modify];by_cases e:w.heap.size+i=k
  .subst e;simp[Array.getElem_append,f]
  .rw[zAh e];simp only[Array.getElem_append];split
   .rfl
   .rw[Array.getElem_setIfInBounds_ne];omega
end
section
variable {P:zZ}{Sh:zP}{B B0 n:Nat}{Stop:zU}{w:zW}{os Rv:zJ}{g g':zH}
def rW.rely {w₁:zW}(h:rW P Sh B Stop n g w)(r:Go.Conc.AtRel w w₁):rW P Sh B Stop n g w₁:=Go.Conc.Goes.rely atRel_trans h r
def MB {es:zW->zE}(b:w.heap.size=B0)(c:g.status= .running)(h:∀w,w.heap.size=B0->stepG P aE g (ext w os)= .go g' (ext w Rv) (es w))(i:∀w,w.heap.size=B0->∀e∈es w,EvC Sh B e)(f:rW P Sh B Stop n g' (ext w Rv)):rW P Sh B Stop (n+1) g (ext w os):=
 aH ⟨c,λa ⟨d,e⟩=>by subst e;rw[show(ext w os).at d=ext (w.at d) os from rfl,h (w.at d) b,goes_go];exact⟨i (w.at d) b,rW.rely f ⟨d,rfl⟩⟩⟩
def cA (b:g.status= .running)(h:∀w,stepG P aE g w= .go g' w #[])(c:rW P Sh B Stop n g' w):rW P Sh B Stop (n+1) g w:=
 aH ⟨b,λa r=>by rw[h a,goes_go];exact⟨by simp,rW.rely c r⟩⟩
def iR {b:zC}{a:Act}{k:zI}{cs:zL}{ops:zQ}{i:Nat}{rest:List Nat}{o:Oper}(v:zY)(Rv:zJ)(p:w.heap.size=B0)(f:ops[i]? =aA o)(d:Region.wanted o (yielded ops a.tmps)=aE)(l:b.kind≠.early)
  (h:∀w,w.heap.size=B0->(aCF a.eval o).run P (ext w os)= .ok (.value v) (ext w Rv)/\∀e∈(aCF a.eval o).events P (ext w os) #[],EvC Sh B e) (j:rW P Sh B Stop n (G (b.at (a.put o.dst v) (aM ops rest::k)) cs) (ext w Rv)):
  rW P Sh B Stop (n+1) (G (b.at a (aM ops (i::rest)::k)) cs) (ext w os):=
 MB (es:=λw=>listed P b.fn a o (ext w os)) p rfl (λw c=>stepG_value f d l (h w c).1) (λw c e m=>(h w c).2 e (mem_listed m)) j
def MC {b:zC}{a:Act}{k:zI}{cs:zL}{ops:zQ}{i:Nat}{rest:List Nat}{o:Oper}(Rv:zJ)(p:w.heap.size=B0)(f:ops[i]? =aA o)(d:Region.wanted o (yielded ops a.tmps)=aE)(l:b.kind≠.early)
  (h:∀w,w.heap.size=B0->(aCF a.eval o).run P (ext w os)= .ok .skip (ext w Rv)/\∀e∈(aCF a.eval o).events P (ext w os) #[],EvC Sh B e) (j:rW P Sh B Stop n (G (b.at (a.put o.dst undef) (aM ops rest::k)) cs) (ext w Rv)):
  rW P Sh B Stop (n+1) (G (b.at a (aM ops (i::rest)::k)) cs) (ext w os):=
 MB (es:=λw=>listed P b.fn a o (ext w os)) p rfl (λw c=>stepG_none f d l (h w c).1) (λw c e m=>(h w c).2 e (mem_listed m)) j
def yU {a:Addr}{wr s:Bool}(f:¬Sh a.block)(e:a.block<B):EvC Sh B ⟨.cell a,wr,s⟩:=by have c:MemAct.ofEvent ⟨.cell a,wr,s⟩= .access ⟨.cell a,wr,s⟩:=rfl;refine⟨λx h ⟨b,hb,d⟩=> ?_,by simp,by simp,by rw[c];exact e⟩;rw[c]at h;simp only[MemAct.touch?,Option.some.injEq]at h;subst h;simp only[blk,Option.some.injEq]at hb;subst hb;exact absurd d f
end
end Go.Ga
