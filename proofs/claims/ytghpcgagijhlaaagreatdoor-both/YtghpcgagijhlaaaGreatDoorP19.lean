import Derived.Conc.SmallLaws
import Derived.Test.YtghpcgagijhlaaaGreatDoorP18
set_option linter.all false
set_option maxRecDepth 100000
set_option maxHeartbeats 16000000
open Option renaming some->aA,none->aB
open Bool renaming true->aE,false->aF
open Or renaming inl->aG,inr->aH
open Go.Item renaming inRegion->aM
open Go.Obj renaming cells->aI
open Go.IntKind renaming i64->aD,u32->aO,u64->aQ,u8->aP
open Classical renaming choose->aCJ
open Option.some renaming injEq->aCP
namespace Go.Ga
open Go.Conc Go.Ren Go.Proofs Go.RowKit Go.Conc.Lib Go.Wg Go.Tr
open Go.ConcR (wgBlock)
def Az:(∃i,Tryz.prog.info? 242=aA i)/\(∃d,Tryz.prog.underlying 231=aA (.chan d 242))/\(∃i,Tryz.prog.info? 233=aA i)/\(∃d,Tryz.prog.underlying 232=aA (.chan d 233)):=⟨⟨_,rfl⟩,⟨_,Tryz.underlying231⟩,⟨_,rfl⟩,⟨_,Tryz.underlying232⟩⟩
def tn (w:zW):(Instr.makeChan 231 (.int aD 0)).run Tryz.prog w= .ok (.chan (aA w.heap.size)) (w.alloc (.chan 0 #[] aF 0 0 aF)):=by obtain⟨⟨i,a⟩,⟨d,h⟩,_⟩:=Az;exact run_makeChan h a aD 0 (by omega) (by omega)
def tp (w:zW):(Instr.makeChan 232 (.int aD 0)).run Tryz.prog w= .ok (.chan (aA w.heap.size)) (w.alloc (.chan 0 #[] aF 0 0 aF)):=by obtain⟨_,_,⟨i,a⟩,⟨d,h⟩⟩:=Az;exact run_makeChan h a aD 0 (by omega) (by omega)
def fj (w:zW):(Instr.makeChan 231 (.int aD 0)).events Tryz.prog w #[]= #[]:=by obtain⟨⟨i,a⟩,⟨d,h⟩,_⟩:=Az;exact events_makeChan h a aD 0 (by omega) (by omega) #[]
def fl (w:zW):(Instr.makeChan 232 (.int aD 0)).events Tryz.prog w #[]= #[]:=by obtain⟨_,_,⟨i,a⟩,⟨d,h⟩⟩:=Az;exact events_makeChan h a aD 0 (by omega) (by omega) #[]
section
variable {Sh:zP}{B B0:Nat}{Stop:zU}{w:zW}{cs:zL}
noncomputable def AE:Code:=match Tryz.f170.body with|some c=>c|none=> .skip
def Jn (o:∀b,Sh b->b<B0\/b=B0+5\/b=B0+1\/b=B0+3)(l:w.heap.size=B0)(s:B0+6<=B)(pa:zO)(N cp:Nat)(f:zN)(first cap:zA)
  (r:∀w₁,Go.Conc.AtRel w w₁->Stop (G ((base 170).at ⟨#[.slice pa N cp,.func (.func f) first cap,undef,.pointer (aA ⟨B0,0,aB⟩),.slice aB 0 0,.pointer (aA ⟨B0+2,0,aB⟩),.pointer (aA ⟨B0+4,0,aB⟩),.pointer (aA ⟨B0+5,0,aB⟩),undef,undef,undef,undef,.chan (aA (B0+1)),.chan (aA (B0+1)),.chan (aA (B0+3)),.slice pa N cp,.int aD N,.int aD 0,undef,undef,undef,undef,undef,undef,undef,undef,undef,undef,undef,undef,undef,undef,undef,undef,undef,undef,undef,undef,undef,undef,undef,undef,undef],[kG 231 (B0+1)]⟩ [.code L0,.inLoop L0,.inBlock 0,.code K0]) cs) (ext w₁ #[aI #[.func (.func f) first cap] 224 (0,0),.chan 0 #[] aF 0 0 aF,aI #[.chan (aA (B0+1))] 231 (0,0),.chan 0 #[] aF 0 0 aF,aI #[.chan (aA (B0+3))] 232 (0,0),aI #[.int aQ 0,.int aO 0] 240 (0,0)])):
  ∃n,rW Tryz.prog Sh B Stop n (G ((base 170).at ⟨#[.slice pa N cp,.func (.func f) first cap,undef,undef,undef,undef,undef,undef,undef,undef,undef,undef,undef,undef,undef,undef,undef,undef,undef,undef,undef,undef,undef,undef,undef,undef,undef,undef,undef,undef,undef,undef,undef,undef,undef,undef,undef,undef,undef,undef,undef,undef,undef],[]⟩ [.code AE]) cs) (ext w #[]):=by
 refine⟨100,?_⟩
 simp only[AE,Tryz.f170]
 refine cA rfl (λ_=>zGn) ?_
 refine cA rfl (λ_=>zGx) ?_
 simp only[zAl,zAe,zBm,Nat.reduceAdd,zAv,List.range,List.range.loop]
 refine iR (B0:=B0) (.pointer (aA ⟨B0,0,aB⟩)) #[aI #[.func (.func f) first cap] 224 (0,0)] l rfl rfl (by simp[base]) (λw a=>⟨?_,λe h=> ?_⟩) ?_
 .have q:(ext w #[]).heap.size=B0:=by rw[mP,a];rfl
  have k:=nV (w:=w) (os:= #[]) (aI #[.func (.func f) first cap] 224 (0,0));simp only[zFj,zCs,zCl]at k;go_simp
 .simp[go_sem]at h
 walk_nrm
 refine iR (B0:=B0) (.slice aB 0 0) #[aI #[.func (.func f) first cap] 224 (0,0)] l rfl rfl (by simp[base]) (λw a=>⟨?_,λe h=> ?_⟩) ?_
 .go_simp
 .simp[go_sem]at h
 walk_nrm
 refine cA rfl (λ_=>zGm) ?_
 refine cA rfl (λ_=>zGn) ?_
 refine cA rfl (λ_=>zGx) ?_
 simp only[zAl,zAe,zBm,Nat.reduceAdd,zAv,List.range,List.range.loop]
 refine iR (B0:=B0) (.chan (aA (B0+1))) #[aI #[.func (.func f) first cap] 224 (0,0),.chan 0 #[] aF 0 0 aF] l rfl rfl (by simp[base]) (λw a=>⟨?_,λe h=> ?_⟩) ?_
 .have q:(ext w #[aI #[.func (.func f) first cap] 224 (0,0)]).heap.size=B0+1:=by rw[mP,a];rfl
  have k:=nV (w:=w) (os:= #[aI #[.func (.func f) first cap] 224 (0,0)]) (.chan 0 #[] aF 0 0 aF);simp only[zFj,zCs,zCl]at k;have p:=tn (ext w #[aI #[.func (.func f) first cap] 224 (0,0)]);go_simp
 .have p:=fj (ext w #[aI #[.func (.func f) first cap] 224 (0,0)]);simp[go_sem,p]at h
 walk_nrm
 refine iR (B0:=B0) (.pointer (aA ⟨B0+2,0,aB⟩)) #[aI #[.func (.func f) first cap] 224 (0,0),.chan 0 #[] aF 0 0 aF,aI #[.chan aB] 231 (0,0)] l rfl rfl (by simp[base]) (λw a=>⟨?_,λe h=> ?_⟩) ?_
 .have q:(ext w #[aI #[.func (.func f) first cap] 224 (0,0),.chan 0 #[] aF 0 0 aF]).heap.size=B0+2:=by rw[mP,a];rfl
  have k:=nV (w:=w) (os:= #[aI #[.func (.func f) first cap] 224 (0,0),.chan 0 #[] aF 0 0 aF]) (aI #[.chan aB] 231 (0,0));simp only[zFj,zCs,zCl]at k;go_simp
 .simp[go_sem]at h
 walk_nrm
 refine MC (B0:=B0) #[aI #[.func (.func f) first cap] 224 (0,0),.chan 0 #[] aF 0 0 aF,aI #[.chan (aA (B0+1))] 231 (0,0)] l rfl rfl (by simp[base]) (λw a=>⟨?_,λe h=> ?_⟩) ?_
 .have g:=ext_get (os:= #[aI #[.func (.func f) first cap] 224 (0,0),.chan 0 #[] aF 0 0 aF,aI #[.chan aB] 231 (0,0)]) (i:=2) a;have m:=dC (show(ext w #[aI #[.func (.func f) first cap] 224 (0,0),.chan 0 #[] aF 0 0 aF,aI #[.chan aB] 231 (0,0)]).heap[B0+2]? =aA (aI #[.chan aB] 231 (0,0))from g) 0;have k1:=fZ (show(ext w #[aI #[.func (.func f) first cap] 224 (0,0),.chan 0 #[] aF 0 0 aF,aI #[.chan aB] 231 (0,0)]).heap[B0+2]? =aA (aI #[.chan aB] 231 (0,0))from g) 0;have k:=Bm (w:=w) (os:= #[aI #[.func (.func f) first cap] 224 (0,0),.chan 0 #[] aF 0 0 aF,aI #[.chan aB] 231 (0,0)]) (i:=2) a (c:= #[.chan aB]) rfl (.chan (aA (B0+1)));simp only[zCo,zDm,zDg]at k;go_simp
 .have g:=ext_get (os:= #[aI #[.func (.func f) first cap] 224 (0,0),.chan 0 #[] aF 0 0 aF,aI #[.chan aB] 231 (0,0)]) (i:=2) a;have m:=dC (show(ext w #[aI #[.func (.func f) first cap] 224 (0,0),.chan 0 #[] aF 0 0 aF,aI #[.chan aB] 231 (0,0)]).heap[B0+2]? =aA (aI #[.chan aB] 231 (0,0))from g) 0;have k1:=fZ (show(ext w #[aI #[.func (.func f) first cap] 224 (0,0),.chan 0 #[] aF 0 0 aF,aI #[.chan aB] 231 (0,0)]).heap[B0+2]? =aA (aI #[.chan aB] 231 (0,0))from g) 0;simp[go_sem,m,k1]at h;subst h;exact yU (λx=>by have:=o _ x;dsimp only at this;omega) (show B0+2<B by omega)
 walk_nrm
 refine cA rfl (λ_=>zGm) ?_
 refine cA rfl (λ_=>zGn) ?_
 refine cA rfl (λ_=>zGx) ?_
 simp only[zAl,zAe,zBm,Nat.reduceAdd,zAv,List.range,List.range.loop]
 refine iR (B0:=B0) (.chan (aA (B0+1))) #[aI #[.func (.func f) first cap] 224 (0,0),.chan 0 #[] aF 0 0 aF,aI #[.chan (aA (B0+1))] 231 (0,0)] l rfl rfl (by simp[base]) (λw a=>⟨?_,λe h=> ?_⟩) ?_
 .have g:=ext_get (os:= #[aI #[.func (.func f) first cap] 224 (0,0),.chan 0 #[] aF 0 0 aF,aI #[.chan (aA (B0+1))] 231 (0,0)]) (i:=2) a;have m:=dC (show(ext w #[aI #[.func (.func f) first cap] 224 (0,0),.chan 0 #[] aF 0 0 aF,aI #[.chan (aA (B0+1))] 231 (0,0)]).heap[B0+2]? =aA (aI #[.chan (aA (B0+1))] 231 (0,0))from g) 0;go_simp
 .have g:=ext_get (os:= #[aI #[.func (.func f) first cap] 224 (0,0),.chan 0 #[] aF 0 0 aF,aI #[.chan (aA (B0+1))] 231 (0,0)]) (i:=2) a;have m:=dC (show(ext w #[aI #[.func (.func f) first cap] 224 (0,0),.chan 0 #[] aF 0 0 aF,aI #[.chan (aA (B0+1))] 231 (0,0)]).heap[B0+2]? =aA (aI #[.chan (aA (B0+1))] 231 (0,0))from g) 0;simp[go_sem,m]at h;subst h;exact yU (λx=>by have:=o _ x;dsimp only at this;omega) (show B0+2<B by omega)
 walk_nrm
 refine cA rfl (λ_=>sA (P:=Tryz.prog) (j:=13) (t:=231) (c:=B0+1) aE rfl rfl (by simp[base]) rfl rfl rfl) ?_
 walk_nrm
 refine cA rfl (λ_=>zGm) ?_
 refine cA rfl (λ_=>zGn) ?_
 refine cA rfl (λ_=>zGx) ?_
 simp only[zAl,zAe,zBm,Nat.reduceAdd,zAv,List.range,List.range.loop]
 refine iR (B0:=B0) (.chan (aA (B0+3))) #[aI #[.func (.func f) first cap] 224 (0,0),.chan 0 #[] aF 0 0 aF,aI #[.chan (aA (B0+1))] 231 (0,0),.chan 0 #[] aF 0 0 aF] l rfl rfl (by simp[base]) (λw a=>⟨?_,λe h=> ?_⟩) ?_
 .have q:(ext w #[aI #[.func (.func f) first cap] 224 (0,0),.chan 0 #[] aF 0 0 aF,aI #[.chan (aA (B0+1))] 231 (0,0)]).heap.size=B0+3:=by rw[mP,a];rfl
  have k:=nV (w:=w) (os:= #[aI #[.func (.func f) first cap] 224 (0,0),.chan 0 #[] aF 0 0 aF,aI #[.chan (aA (B0+1))] 231 (0,0)]) (.chan 0 #[] aF 0 0 aF);simp only[zFj,zCs,zCl]at k;have p:=tp (ext w #[aI #[.func (.func f) first cap] 224 (0,0),.chan 0 #[] aF 0 0 aF,aI #[.chan (aA (B0+1))] 231 (0,0)]);go_simp
 .have p:=fl (ext w #[aI #[.func (.func f) first cap] 224 (0,0),.chan 0 #[] aF 0 0 aF,aI #[.chan (aA (B0+1))] 231 (0,0)]);simp[go_sem,p]at h
 walk_nrm
 refine iR (B0:=B0) (.pointer (aA ⟨B0+4,0,aB⟩)) #[aI #[.func (.func f) first cap] 224 (0,0),.chan 0 #[] aF 0 0 aF,aI #[.chan (aA (B0+1))] 231 (0,0),.chan 0 #[] aF 0 0 aF,aI #[.chan aB] 232 (0,0)] l rfl rfl (by simp[base]) (λw a=>⟨?_,λe h=> ?_⟩) ?_
 .have q:(ext w #[aI #[.func (.func f) first cap] 224 (0,0),.chan 0 #[] aF 0 0 aF,aI #[.chan (aA (B0+1))] 231 (0,0),.chan 0 #[] aF 0 0 aF]).heap.size=B0+4:=by rw[mP,a];rfl
  have k:=nV (w:=w) (os:= #[aI #[.func (.func f) first cap] 224 (0,0),.chan 0 #[] aF 0 0 aF,aI #[.chan (aA (B0+1))] 231 (0,0),.chan 0 #[] aF 0 0 aF]) (aI #[.chan aB] 232 (0,0));simp only[zFj,zCs,zCl]at k;go_simp
 .simp[go_sem]at h
 walk_nrm
 refine MC (B0:=B0) #[aI #[.func (.func f) first cap] 224 (0,0),.chan 0 #[] aF 0 0 aF,aI #[.chan (aA (B0+1))] 231 (0,0),.chan 0 #[] aF 0 0 aF,aI #[.chan (aA (B0+3))] 232 (0,0)] l rfl rfl (by simp[base]) (λw a=>⟨?_,λe h=> ?_⟩) ?_
 .have g:=ext_get (os:= #[aI #[.func (.func f) first cap] 224 (0,0),.chan 0 #[] aF 0 0 aF,aI #[.chan (aA (B0+1))] 231 (0,0),.chan 0 #[] aF 0 0 aF,aI #[.chan aB] 232 (0,0)]) (i:=4) a;have m:=dC (show(ext w #[aI #[.func (.func f) first cap] 224 (0,0),.chan 0 #[] aF 0 0 aF,aI #[.chan (aA (B0+1))] 231 (0,0),.chan 0 #[] aF 0 0 aF,aI #[.chan aB] 232 (0,0)]).heap[B0+4]? =aA (aI #[.chan aB] 232 (0,0))from g) 0;have k1:=fZ (show(ext w #[aI #[.func (.func f) first cap] 224 (0,0),.chan 0 #[] aF 0 0 aF,aI #[.chan (aA (B0+1))] 231 (0,0),.chan 0 #[] aF 0 0 aF,aI #[.chan aB] 232 (0,0)]).heap[B0+4]? =aA (aI #[.chan aB] 232 (0,0))from g) 0;have k:=Bm (w:=w) (os:= #[aI #[.func (.func f) first cap] 224 (0,0),.chan 0 #[] aF 0 0 aF,aI #[.chan (aA (B0+1))] 231 (0,0),.chan 0 #[] aF 0 0 aF,aI #[.chan aB] 232 (0,0)]) (i:=4) a (c:= #[.chan aB]) rfl (.chan (aA (B0+3)));simp only[zCo,zDm,zDg]at k;go_simp
 .have g:=ext_get (os:= #[aI #[.func (.func f) first cap] 224 (0,0),.chan 0 #[] aF 0 0 aF,aI #[.chan (aA (B0+1))] 231 (0,0),.chan 0 #[] aF 0 0 aF,aI #[.chan aB] 232 (0,0)]) (i:=4) a;have m:=dC (show(ext w #[aI #[.func (.func f) first cap] 224 (0,0),.chan 0 #[] aF 0 0 aF,aI #[.chan (aA (B0+1))] 231 (0,0),.chan 0 #[] aF 0 0 aF,aI #[.chan aB] 232 (0,0)]).heap[B0+4]? =aA (aI #[.chan aB] 232 (0,0))from g) 0;have k1:=fZ (show(ext w #[aI #[.func (.func f) first cap] 224 (0,0),.chan 0 #[] aF 0 0 aF,aI #[.chan (aA (B0+1))] 231 (0,0),.chan 0 #[] aF 0 0 aF,aI #[.chan aB] 232 (0,0)]).heap[B0+4]? =aA (aI #[.chan aB] 232 (0,0))from g) 0;simp[go_sem,m,k1]at h;subst h;exact yU (λx=>by have:=o _ x;dsimp only at this;omega) (show B0+4<B by omega)
 walk_nrm
 refine cA rfl (λ_=>zGm) ?_
 refine cA rfl (λ_=>zGn) ?_
 refine cA rfl (λ_=>zGx) ?_
 simp only[zAl,zAe,zBm,Nat.reduceAdd,zAv,List.range,List.range.loop]
 refine iR (B0:=B0) (.pointer (aA ⟨B0+5,0,aB⟩)) #[aI #[.func (.func f) first cap] 224 (0,0),.chan 0 #[] aF 0 0 aF,aI #[.chan (aA (B0+1))] 231 (0,0),.chan 0 #[] aF 0 0 aF,aI #[.chan (aA (B0+3))] 232 (0,0),aI #[.int aQ 0,.int aO 0] 240 (0,0)] l rfl rfl (by simp[base]) (λw a=>⟨?_,λe h=> ?_⟩) ?_
 .have q:(ext w #[aI #[.func (.func f) first cap] 224 (0,0),.chan 0 #[] aF 0 0 aF,aI #[.chan (aA (B0+1))] 231 (0,0),.chan 0 #[] aF 0 0 aF,aI #[.chan (aA (B0+3))] 232 (0,0)]).heap.size=B0+5:=by rw[mP,a];rfl
  have k:=nV (w:=w) (os:= #[aI #[.func (.func f) first cap] 224 (0,0),.chan 0 #[] aF 0 0 aF,aI #[.chan (aA (B0+1))] 231 (0,0),.chan 0 #[] aF 0 0 aF,aI #[.chan (aA (B0+3))] 232 (0,0)]) (aI #[.int aQ 0,.int aO 0] 240 (0,0));simp only[zFj,zCs,zCl]at k;go_simp
 .simp[go_sem]at h
 walk_nrm
 refine cA rfl (λ_=>zGm) ?_
 iterate 2 (refine cA rfl (λ_=>zGn) ?_)
 refine cA rfl (λ_=>zGx) ?_
 simp only[zAl,zAe,zBm,Nat.reduceAdd,zAv,List.range,List.range.loop]
 refine iR (B0:=B0) (.slice pa N cp) #[aI #[.func (.func f) first cap] 224 (0,0),.chan 0 #[] aF 0 0 aF,aI #[.chan (aA (B0+1))] 231 (0,0),.chan 0 #[] aF 0 0 aF,aI #[.chan (aA (B0+3))] 232 (0,0),aI #[.int aQ 0,.int aO 0] 240 (0,0)] l rfl rfl (by simp[base]) (λw a=>⟨?_,λe h=> ?_⟩) ?_
 .go_simp
 .simp[go_sem]at h
 walk_nrm
 refine iR (B0:=B0) (.int aD N) #[aI #[.func (.func f) first cap] 224 (0,0),.chan 0 #[] aF 0 0 aF,aI #[.chan (aA (B0+1))] 231 (0,0),.chan 0 #[] aF 0 0 aF,aI #[.chan (aA (B0+3))] 232 (0,0),aI #[.int aQ 0,.int aO 0] 240 (0,0)] l rfl rfl (by simp[base]) (λw a=>⟨?_,λe h=> ?_⟩) ?_
 .go_simp
 .simp[go_sem]at h
 walk_nrm
 refine iR (B0:=B0) (.int aD 0) #[aI #[.func (.func f) first cap] 224 (0,0),.chan 0 #[] aF 0 0 aF,aI #[.chan (aA (B0+1))] 231 (0,0),.chan 0 #[] aF 0 0 aF,aI #[.chan (aA (B0+3))] 232 (0,0),aI #[.int aQ 0,.int aO 0] 240 (0,0)] l rfl rfl (by simp[base]) (λw a=>⟨?_,λe h=> ?_⟩) ?_
 .go_simp
 .simp[go_sem]at h
 walk_nrm
 refine cA rfl (λ_=>zGm) ?_
 refine cA rfl (λ_=>stepG_block) ?_
 refine cA rfl (λ_=>stepG_loop) ?_
 refine Go.Conc.Goes.stop λw₁ ⟨d,e⟩=> ?_
 subst e
 exact r (w.at d) ⟨d,rfl⟩
end
section
variable {P:zZ}{Sh:zP}{B n:Nat}{Stop:zU}{w:zW}
def qC {b:zC}{a:Act}{k:zI}{cs:zL}{ops:zQ}{i:Nat}{rest:List Nat}{o:Oper}(v:zY)(d:ops[i]? =aA o)(h:Region.wanted o (yielded ops a.tmps)=aE)(f:b.kind≠.early)
  (c:∀w,(execOp a.eval o).run P w= .ok (.value v) w) (g:∀w,(execOp a.eval o).events P w #[]= #[]) (e:rW P Sh B Stop n (G (b.at (a.put o.dst v) (aM ops rest::k)) cs) w):
  rW P Sh B Stop (n+1) (G (b.at a (aM ops (i::rest)::k)) cs) w:=
 cA rfl (λw=>by rw[stepG_value d h f (c w),listed_none (g w)]) e
def Fy {c:Nat}(h:c<B):∀e∈closeEvents c,EvC Sh B e:=by
 intro e d;simp only[closeEvents,zAp,zAg,zAt,zCp]at d;obtain rfl|rfl:=d
 .have b:MemAct.ofEvent ⟨.obj c,aF,aE⟩= .access ⟨.obj c,aF,aE⟩:=rfl;refine⟨λx a _=> ?_,by simp,by simp,by rw[b];exact h⟩;rw[b]at a;simp only[MemAct.touch?,aCP]at a;subst a;simp
 .have b:MemAct.ofEvent ⟨.obj c,aE,aE⟩= .close c:=rfl;refine⟨λx a _=> ?_,by simp,by simp,by rw[b];exact h⟩;rw[b]at a;simp[MemAct.touch?]at a
def Ik {T:Gt}{c:zC}{cs:zL}{rs ws:zP}{g:zH}(l:T.cs=c::cs)(j:T.ds=[kG 231 T.Cr])(h:T.F rs ws g w){k:Nat}{tm:Bool}(hc:w.heap[T.Cr]? =aA (.chan 0 #[] aF k k tm))(hB:T.Cr<B)
  (hn:∀a eV d,T.Ok rs ws a eV (λi=>i<T.N) w->Stop (G (c.finish (.slice (aA ⟨a,0,aB⟩) T.N T.N)) cs) ((w.setChan T.Cr 0 #[] aE k k tm).at d)):∃n,rW Tryz.prog Sh B Stop n g w:=by
 obtain⟨a,eV,y0,y1,y2,y3,y4,y7,y8,y9,Z,Y,X,W,V,U,S,R,Q,O,M,L,K,J,I,H,E,D,C,A,z,x,u,s,r,q,p,o,m,y,rfl,ok⟩:=h
 rw[l,j]
 refine⟨40,?_⟩
 simp only[lN,qB,C4,L2,Tryz.f170]
 refine qC (.int aD 1) rfl rfl (by simp[base]) (λw=>by go_simp) (λw=>by simp[go_sem]) ?_
 walk_nrm
 refine qC (.bool aF) rfl rfl (by simp[base]) (λw=>by go_simp) (λw=>by simp[go_sem]) ?_
 walk_nrm
 refine qC (.bool aE) rfl rfl (by simp[base]) (λw=>by go_simp) (λw=>by simp[go_sem]) ?_
 walk_nrm
 refine cA rfl (λ_=>zGm) ?_
 refine cA rfl (λ_=>stepG_block) ?_
 refine cA rfl (λ_=>stepG_cond (t:=aF) rfl) ?_
 simp only[zBf,zDp]
 refine cA rfl (λ_=>stepG_cond (t:=aE) rfl) ?_
 simp only[zDf]
 refine cA rfl (λ_=>zGn) ?_
 refine cA rfl (λ_=>zGx) ?_
 simp only[zAl,zAe,zBm,Nat.reduceAdd,zAv,List.range,List.range.loop]
 refine qC (.slice (aA ⟨a,0,aB⟩) T.N T.N) rfl rfl (by simp[base]) (λw=>by go_simp) (λw=>by simp[go_sem]) ?_
 walk_nrm
 refine qC (.slice (aA ⟨a,0,aB⟩) T.N T.N) rfl rfl (by simp[base]) (λw=>by go_simp) (λw=>by simp[go_sem]) ?_
 walk_nrm
 refine cA rfl (λ_=>zGm) ?_
 refine cA rfl (λ_=>zHe) ?_
 refine aH ⟨rfl,λf ⟨d,e⟩=> ?_⟩
 subst e
 rw[step_shut (P:=Tryz.prog) aE rfl (show(w.at d).heap[T.Cr]? =_ from hc) (by kernel_rfl),goes_go]
 refine⟨Fy hB,?_⟩
 rw[show(w.at d).setChan T.Cr 0 #[] aE k k tm=(w.setChan T.Cr 0 #[] aE k k tm).at d from rfl]
 refine cA rfl (λw=>stepG_leave (P:=Tryz.prog) (b:=base 170) (v:= .slice (aA ⟨a,0,aB⟩) T.N T.N) rfl rfl Tryz.func170 ?_ ?_) ?_
 .simp[results,Tryz.f170,go_sem]
 .simp[results,Tryz.f170,go_sem]
 refine Go.Conc.Goes.stop λf ⟨d',e⟩=> ?_
 subst e
 exact hn a eV d' ok
end
open Go.ConcR (KK WgAt stA smA DC0 wgBlock)
open Go.ConcN (WgLive)
abbrev SU (B0:Nat)(fv:zY):zJ:= #[aI #[fv] 224 (0,0),.chan 0 #[] aF 0 0 aF,aI #[.chan (aA (B0+1))] 231 (0,0),.chan 0 #[] aF 0 0 aF,aI #[.chan (aA (B0+3))] 232 (0,0),aI #[.int aQ 0,.int aO 0] 240 (0,0)]
structure Gc where
 w:zW
 Sh:zP
 N:Nat
 bp:Nat
 o:Nat
 cp:Nat
 f:zN
 first:zA
 cap:zA
 d:Nat->Int
 sa:Nat->zO
 sl:Nat->Nat
 sc:Nat->Nat
 strs:Nat->ByteArray
 m0:Nat
 c:zC
 cs:zL
 pa:zO
abbrev Gc.fv (X:Gc):zY:= .func (.func X.f) X.first X.cap
abbrev Gc.B0 (X:Gc):Nat:=X.w.heap.size
def Gc.old (X:Gc)(b:Nat):Prop:=b<X.B0/\¬X.Sh b
structure Gc.K (X:Gc)(w':zW):Prop where
 heap:∀b,X.old b->w'.heap[b]? =X.w.heap[b]?
 size:X.B0+6<=w'.heap.size
 tape:w'.tape=X.w.tape
 os:w'.os=X.w.os
 output:w'.output=X.w.output
def Gc.T (X:Gc):Ft:=⟨X.N,X.bp,X.o,X.cp,X.B0,X.B0+2,X.B0+4,X.fv,X.d,X.sa,X.sl,X.sc,X.K,X.old,X.B0+6,X.pa⟩
def Gc.gt (X:Gc):Gt:=⟨X.N,X.B0+2,X.B0+4,X.B0+1,X.B0+3,[kG 231 (X.B0+1)],X.c::X.cs,X.strs,X.K,X.old,X.B0+6⟩
noncomputable def Gc.S (X:Gc):Sp:=⟨Tryz.prog,Tryz.link.tWg,X.B0+5,X.B0+1,X.B0+3,X.N,X.m0,λi=> .agg #[.int aD i,.string (X.strs i)],X.gt.M,X.gt.F,Ch (X.B0+4) (X.B0+5) (X.B0+3),X.Sh⟩
def Gc.rs (X:Gc)(b:Nat):Prop:=b=X.B0\/b=X.B0+2\/b=X.B0+4\/X.old b
def Gc.Sh' (X:Gc)(b:Nat):Prop:=X.Sh b\/b=X.B0+5\/b=X.B0+1\/b=X.B0+3
section
variable {X:Gc}
def Gc.steady:X.T.rT:=λw i h g f e d c=>⟨λb a=>(g b a).trans (h.heap b a),zBl h.size f,e.trans h.tape,d.trans h.os,c.trans h.output⟩
def Gc.kn:(c:X.N<2147483647)->X.S.Good:=λc=>⟨λg w _ h=>Hc X.S (b6:=X.B0+4) rfl rfl rfl g w h,λR rs a g w _ h=>Iw X.S X.gt rfl rfl rfl rfl (show X.N<9223372036854775808 by omega) (λ_=>rfl) rfl rfl (λw b k j i f e d=>Gc.steady w b k j i f e d) R rs a g w h,by
 show X.B0+1≠X.B0+3/\X.B0+5≠X.B0+1/\X.B0+5≠X.B0+3
 omega⟩
def Gc.ok (q:∀b,X.Sh b->b<X.B0)(n:∀i,i<X.N->X.w.cell? ⟨X.bp,X.o+i*2,aB⟩=aA (.int aD (X.d i)))(m:∀i,i<X.N->X.w.cell? ⟨X.bp,X.o+i*2+1,aB⟩=aA (.slice (X.sa i) (X.sl i) (X.sc i)))(g:0<X.N->X.old X.bp)
  {w₁:zW} (p:Go.Conc.AtRel X.w w₁):X.T.Ok X.S X.rs (λ_=>False) 0 (ext w₁ (SU X.B0 X.fv)):=by
 obtain⟨d,rfl⟩:=p
 have l:(X.w.at d).heap.size=X.B0:=rfl
 have f:(ext (X.w.at d) (SU X.B0 X.fv)).heap.size=X.B0+6:=by rw[mP];rfl
 have e:∀b,X.old b->(ext (X.w.at d) (SU X.B0 X.fv)).heap[b]? =X.w.heap[b]? :=λb c=>Ra (w:=X.w.at d) c.1
 have a:∀b k,X.old b->(ext (X.w.at d) (SU X.B0 X.fv)).cell? ⟨b,k,aB⟩=X.w.cell? ⟨b,k,aB⟩:=λb k c=>by simp only[World.cell?];rw[e b c]
 have g0:=ext_get (w:=X.w.at d) (os:=SU X.B0 X.fv) (i:=0) l
 have g2:=ext_get (w:=X.w.at d) (os:=SU X.B0 X.fv) (i:=2) l
 have s:=ext_get (w:=X.w.at d) (os:=SU X.B0 X.fv) (i:=4) l
 have r:=ext_get (w:=X.w.at d) (os:=SU X.B0 X.fv) (i:=5) l
 refine⟨λb c=>⟨λx=>x,?_⟩,λb c=> ?_,aG rfl,aH (aG rfl),aH (aH (aG rfl)),λh=>aH (aH (aH (g h))),(dC (show(ext (X.w.at d) (SU X.B0 X.fv)).heap[X.B0]? =aA (aI #[X.fv] 224 (0,0))from g0) 0).trans rfl,
  (dC (show(ext (X.w.at d) (SU X.B0 X.fv)).heap[X.B0+2]? =aA (aI #[.chan (aA (X.B0+1))] 231 (0,0))from g2) 0).trans rfl,(dC (show(ext (X.w.at d) (SU X.B0 X.fv)).heap[X.B0+4]? =aA (aI #[.chan (aA (X.B0+3))] 232 (0,0))from s) 0).trans rfl,
  λi j=>(a _ _ (g (by have:i<X.N:=j;omega))).trans (n i j),λi j=>(a _ _ (g (by have:i<X.N:=j;omega))).trans (m i j),?_,λb c=>aH (aH (aH c)),⟨e,by rw[f];exact zAa _,rfl,rfl,rfl⟩,by rw[f];exact zAa _⟩
 .rw[f];obtain x|x|x|x:=c
  .omega
  .omega
  .omega
  .have:=x.1;omega
 .show b≠X.B0+5
  obtain(x|x|x|x)|x:=c
  .omega
  .omega
  .omega
  .have:=x.1;omega
  .exact x.elim
 .show(ext (X.w.at d) (SU X.B0 X.fv)).heap[X.B0+5]? =aA (wgBlock _ _ _)
  rw[r];simp[wgBlock];rfl
def Gc.wM (h:∀b,X.Sh b->b<X.B0):∀b,X.Sh' b->b<X.B0\/b=X.B0+5\/b=X.B0+1\/b=X.B0+3:=λb a=>a.imp (h b) id
def Gc.Jc (a:∀b,X.Sh b->b<X.B0){b:Nat}(h:X.rs b):¬X.Sh' b:=by
 intro x;obtain h|h|h|h:=h
 .have:=Gc.wM a b x;omega
 .have:=Gc.wM a b x;omega
 .have:=Gc.wM a b x;omega
 .obtain x|x:=x
  .exact h.2 x
  .have:=h.1;omega
def Calm.more {Sh Sh':zP}{B:Nat}{t:Trace}(h:Calm Sh B t)(n:∀b,Sh b->Sh' b)(m:∀b,Sh' b->Sh b\/B<=b):Calm Sh' B t:=
 ⟨⟨h.past.clean,λi a c l=>(h.past.known i a c l).imp id λ⟨⟨b,e,g⟩,k⟩=>⟨⟨b,e,n b g⟩,k⟩,h.past.over,h.past.hears,h.past.seen⟩,λb g i a c j=>by
  obtain x|x:=m b g
  .exact h.Tx b x i a c j
  .obtain⟨op,f,d⟩:=touch_of c;have:=Bb (h.past.seen op (zBc f)) d j;omega⟩
def Gc.ti (g:∀b,X.Sh b->b<X.B0){B:Nat}{t:Trace}(k:Calm X.Sh' B t){Live:zP}:TI t (X.S.pm (λj b=>j=0/\X.rs b) (λ_ _=>False) 0) Live:=by
 have e:=TI.Px k.past (S:=X.Sh') (λl h=>h) k.Tx (λl b p o=>⟨b,p,o⟩);refine⟨e.clean,λ{j b} c i a d hb _=>e.rw (j:=j) (b:=b) ⟨c.1,Gc.Jc g c.2⟩ i a d hb,λ{j b} c=>c.elim,λ{j b} c i a d hb n=> ?_,λ{b} hb=>e.Vk (b:=b) hb,λi a d f=> ?_⟩
 .have f:a.loc.isMemory=aE:=by cases m:a.loc<;>rw[m]at hb<;>simp_all [blk,Loc.isMemory]
  rw[c.2];obtain x|⟨_,x⟩:=k.past.known i a d f
  .exact x
  .exact absurd x n
 .obtain x|⟨_,_,x⟩|x:=e.known i a d f
  .exact aG x
  .exact x.elim
  .exact aH (aH x)
def Gc.inv (d:∀b,X.Sh b->b<X.B0)(C:X.N<2147483647){w₁:zW}(c:X.T.Ok X.S X.rs (λ_=>False) 0 w₁)(k:w₁.heap[X.B0+1]? =aA (.chan 0 #[] aF 0 0 aF))(f:w₁.heap[X.B0+3]? =aA (.chan 0 #[] aF 0 0 aF))
  {t:Trace} (m:Calm X.Sh' w₁.heap.size t) {e:zG} {q:Nat->Nat} (r:Leavers Tryz.prog t e q) (v:e.size=X.m0) {g:zH} (p:e[0]? =aA g) {n:Tree} (A:X.S.dX (X.S.Fk X.N) n 0 X.rs (λ_=>False) g w₁):
  X.S.uD X.N (λj=>if j=0 then(0,n)else(0,.nat (q j))) e w₁ t (λj b=>j=0/\X.rs b) (λ_ _=>False):=by
 have o:0<e.size:=(zAb.1 p).1
 have u:X.B0+6<=w₁.heap.size:=c.low
 have D:(λb=>(0:Nat)=0/\X.rs b)=X.rs:=funext λb=>propext ⟨λx=>x.2,λx=>⟨rfl,x⟩⟩
 refine⟨by show 0<X.m0;omega,C,zAa _,by show e.size=X.m0+(X.N-X.N);omega,⟨λ{j b} h=> ?_,λh=>h.elim,λh=>h.elim,λ{j b} h=> ?_,λ{b} h=> ?_,c.live,Gc.ti d m,m.past.seen,λj w=>r.above j ?_⟩,⟨_,_,k⟩,⟨_,_,_,f⟩,⟨g,p,?_⟩,rfl,λa y l B s=>⟨q a,by simp[show a≠0 by omega],r.old a y l s⟩,λi y z=>absurd z ?_⟩
 .obtain h|h:=h
  .exact(c.ED b h.2).2
  .exact h.elim
 .obtain h|h:=h
  .exact Gc.Jc d h.2
  .exact h.elim
 .obtain x|x|x|x:=Gc.wM d b h<;>omega
 .have:X.m0+(X.N-X.N)<=j:=w;omega
 .rw[m.past.hears,D];exact A
 .show¬i<X.N-X.N
  omega
def Lo (p v:zY):Frame.enter Tryz.prog 170 #[p,v] .normal=(base 170).at ⟨#[p,v,undef,undef,undef,undef,undef,undef,undef,undef,undef,undef,undef,undef,undef,undef,undef,undef,undef,undef,undef,undef,undef,undef,undef,undef,undef,undef,undef,undef,undef,undef,undef,undef,undef,undef,undef,undef,undef,undef,undef,undef,undef],[]⟩ [.code AE]:=by
 rw[enter_at (P:=Tryz.prog) (f:=170) (c:=AE) #[p,v] Tryz.func170 rfl];have e:(#[p,v]:zA)++Array.replicate (Tryz.f170.ntmps-2) undef= #[p,v,undef,undef,undef,undef,undef,undef,undef,undef,undef,undef,undef,undef,undef,undef,undef,undef,undef,undef,undef,undef,undef,undef,undef,undef,undef,undef,undef,undef,undef,undef,undef,undef,undef,undef,undef,undef,undef,undef,undef,undef,undef]:=by simp[Tryz.f170,Array.replicate_succ]
 simp only[zAl,zAe,zBm,Nat.reduceAdd,zAv]
 rw[e]
def TX (hN:X.N<2147483647)(l:∀b,X.Sh b->b<X.B0)(W:∀i,i<X.N->X.w.cell? ⟨X.bp,X.o+i*2,aB⟩=aA (.int aD (X.d i)))(V:∀i,i<X.N->X.w.cell? ⟨X.bp,X.o+i*2+1,aB⟩=aA (.slice (X.sa i) (X.sl i) (X.sc i)))(Wq:0<X.N->X.old X.bp)(Y:0<X.N->X.pa=aA ⟨X.bp,X.o,aB⟩)
  {fn:Func} (hf:Tryz.prog.funcs[X.f]? =aA fn) (Z:¬fn.name= "runtime.NumGoroutine") (h:¬fn.body=aB)
  (hW:∀i,i<X.N->∀(J:zW->Prop)(r:zP)(w':zW),(∀b,X.old b->r b)->(∀b,X.old b->w'.heap[b]? =X.w.heap[b]?)->Works J r w' X.f (X.first.push (.agg #[.int aD (X.d i),.slice (X.sa i) (X.sl i) (X.sc i)])++X.cap) (X.strs i))
  {F:zG} {sl:Option (Nat×Nat)} {t:Trace} {q:Nat->Nat} (ig:F.size=X.m0) (hg:F[0]? =aA (G (Frame.enter Tryz.prog 170 #[.slice X.pa X.N X.cp,X.fv] .normal) (X.c::X.cs))) (hL:Leavers Tryz.prog t F q) (hC:Calm X.Sh X.B0 t):
  ∃(N:Nat)(m:zG)(w':zW)(P:Option (Nat×Nat))(M:Trace)(q':Nat->Nat)(e:Nat)(eV:zA),runNT Tryz.prog N (crowd F X.w sl) t=(.next (crowd m w' P),M)/\m[0]? =aA (G (X.c.finish (.slice (aA ⟨e,0,aB⟩) X.N X.N)) X.cs)/\Leavers Tryz.prog M m q'/\Calm X.Sh' w'.heap.size M/\
   X.K w'/\X.B0+6<=e/\e<w'.heap.size/\w'.heap[e]? =aA (aI eV 9 (0,0))/\eV.size=X.N/\∀i,i<X.N->eV[i]? =aA (.string (X.strs i)):=by
 have hC0:Calm X.Sh' (X.B0+6) t:=(hC.more (Sh':=X.Sh') (λb h=>aG h) (λb h=>h.imp id λx=>by omega)).mono (by omega)
 obtain⟨n,hn⟩:=Jn (Sh:=X.Sh') (B:=X.B0+6) (B0:=X.B0) (w:=X.w) (cs:=X.c::X.cs) (Stop:=λg w'=>∃a,Go.Conc.AtRel X.w a/\w'=ext a (SU X.B0 X.fv)/\g=Fs X.S X.T [kG 231 (X.B0+1)] (X.c::X.cs) X.fv undef (.slice aB 0 0) undef undef undef undef (.chan (aA (X.B0+1))) (.chan (aA (X.B0+1))) (.chan (aA (X.B0+3))) ((0:Nat):Int) undef undef undef undef undef undef undef undef undef undef undef undef undef undef undef undef undef undef undef undef undef undef undef undef undef [.code L0,.inLoop L0,.inBlock 0,.code K0]) (Gc.wM l) rfl (zAa _) X.pa X.N X.cp X.f X.first X.cap λa H=>⟨a,H,rfl,rfl⟩
 rw[Lo]at hg
 have e0:ext X.w #[]=X.w:=by simp[ext]
 rw[e0]at hn
 obtain⟨N1,Uv,a1,w1,p,t1,q1,r1,z1,g1,⟨a,H,U,Zf⟩,zo,hC1⟩:=BJ n _ _ F sl t q hn hg hL hC0
 subst U
 subst Zf
 have v:=Gc.ok l W V Wq H
 obtain⟨d,rfl⟩:=H
 have hB:(X.w.at d).heap.size=X.B0:=rfl
 obtain⟨tr,pc⟩:=Sf (S:=X.S) (T:=X.T) (ds:=[kG 231 (X.B0+1)]) (cs:=X.c::X.cs) (strs:=X.strs) Y rfl rfl rfl rfl Gc.steady (show X.N<2147483648 by omega) rfl (λ_=>rfl) rfl hf Z h (λi I r w w' hk h1 h2=>hW i I _ r w' h1 λb h=>(h2 b h).trans (hk.heap b h)) X.N 0 X.rs (λ_=>False) _ X.fv undef (.slice aB 0 0) undef undef undef undef (.chan (aA (X.B0+1))) (.chan (aA (X.B0+1))) (.chan (aA (X.B0+3))) undef undef undef undef undef undef undef undef undef undef undef undef undef undef undef undef undef undef undef undef undef undef undef undef undef (by show 0+X.N=X.N;omega) v
 have u:(ext (X.w.at d) (SU X.B0 X.fv)).heap.size=X.B0+6:=by rw[mP];rfl
 have z:=Gc.inv l hN v (ext_get (w:=X.w.at d) (os:=SU X.B0 X.fv) (i:=1) hB) (ext_get (w:=X.w.at d) (os:=SU X.B0 X.fv) (i:=3) hB) (by rw[u];exact hC1) zo (z1.trans ig) g1 pc
 obtain⟨N2,E,w2,s,t2,r2,D⟩:=z.runs (sl:=p) (Gc.kn hN)
 obtain⟨g,rs,ws,ja,hF⟩:=D.main
 obtain⟨k,L,A⟩:=D.cr
 obtain⟨q2,zn⟩:=D.Qi
 have bU:X.B0+1<w2.heap.size:=(zAb.1 A).1
 have hC2:Calm X.Sh' w2.heap.size t2:=⟨D.past,D.Tx⟩
 obtain⟨n3,wa⟩:=Ik (Sh:=X.Sh') (B:=w2.heap.size) (T:=X.gt) (c:=X.c) (cs:=X.cs) (Stop:=λg w'=>∃e eV d,X.gt.Ok rs ws e eV (λi=>i<X.N) w2/\g=G (X.c.finish (.slice (aA ⟨e,0,aB⟩) X.N X.N)) X.cs/\w'=(w2.setChan (X.B0+1) 0 #[] aE k k L).at d) rfl rfl hF A bU λe eV d ok=>⟨e,eV,d,ok,rfl,rfl⟩
 obtain⟨N3,gs3,a3,w3,O,t3,q3,r3,z3,g3,⟨e,eV,d3,ok,zc,R⟩,zm,zz⟩:=BJ n3 _ _ E s t2 q2 wa ja zn hC2
 subst zc
 subst R
 have j:((w2.setChan (X.B0+1) 0 #[] aE k k L).at d3).heap.size=w2.heap.size:=nF _ _ _ _ _ _ _ _
 have y:∀b,b≠X.B0+1->((w2.setChan (X.B0+1) 0 #[] aE k k L).at d3).heap[b]? =w2.heap[b]? :=λb h=>nG _ _ _ _ _ _ _ _ h
 have pb:X.B0+6<=e:=ok.fresh
 have C:X.K w2:=ok.held
 refine⟨N1+(N2+N3),gs3,_,O,t3,q3,e,eV,?_,g3,zm,by rw[j];exact zz,⟨λb h=>(y b (by have:=h.1;omega)).trans (C.heap b h),by rw[j];exact C.size,C.tape,C.os,C.output⟩,pb,by rw[j];exact ok.lt,(y e (by omega)).trans ok.out,ok.size,λi I=>ok.some i I I⟩
 rw[runNT_add,r1]
 simp only
 have Q:runNT Tryz.prog N2 (crowd Uv (ext (X.w.at d) (SU X.B0 X.fv)) p) t1=(.next (crowd E w2 s),t2):=r2
 rw[runNT_add,Q]
 exact r3
end
open Go.Conc Go.Ren Go.Tr
section
variable {Q:zZ}{fs:Array Func}{Al:zF}{Sh:zP}{gs:zG}{w:zW}{t:Trace}{q:Nat->Nat}{π:Rn}{fr fr':zC}{own own':zL}{v:zW}{sl:Option (Nat×Nat)}
structure Main (Q:zZ)(fs:Array Func)(Al:zF)(Sh:zP)(gs:zG)(w:zW)(t:Trace)(q:Nat->Nat)(π:Rn)(fr:zC)(own:zL)(v:zW)(fr':zC)(own':zL):Prop where
 lv:Leavers ⟨Q.toTables,fs⟩ t gs q
 calm:Calm Sh w.heap.size t
 Ir:∀b,Sh b->b<w.heap.size
 Fh:VP Q Al Go.Ren.K0 π fr own v fr' own' w
 off:∀b b',π b b'->¬Sh b'
 Sg:∀b,Al (1000002+b)->(∀b',¬π b b')/\v.heap[b]? =aA (aI #[.int aP 0] 0 (0,0))
structure qS (π:Rn)(Sh:zP)(w:zW)(lu:Rn)(Sh1:zP)(w1:zW):Prop where
 sub:∀b b',π b b'->lu b b'
 size:w.heap.size<=w1.heap.size
 still:∀b',b'<w.heap.size->(∀b,¬π b b')->¬Sh b'->w1.heap[b']? =w.heap[b']?/\(∀b,¬lu b b')/\¬Sh1 b'
def qS.refl {π:Rn}{Sh:zP}{w:zW}:qS π Sh w π Sh w:=⟨λ_ _ h=>h,zAa _,λ_ _ b a=>⟨rfl,b,a⟩⟩
def qS.trans {π c a:Rn}{Sh e S:zP}{w w1 w2:zW}(h:qS π Sh w c e w1)(k:qS c e w1 a S w2):qS π Sh w a S w2:=
 ⟨λb d x=>k.sub b d (h.sub b d x),zBl h.size k.size,λd f i g=>by obtain⟨m,l,j⟩:=h.still d f i g;obtain⟨f1,f2,f3⟩:=k.still d (zAc f h.size) l j;exact⟨f1.trans m,f2,f3⟩⟩
def Oe {K:Kp}{v w:zW}(h:cB Q Al K π v w){b a:Nat}(c:π b a):a<w.heap.size:=by
 obtain⟨_,_,_,_,_,_,e,_⟩|⟨_,_,_,e,_⟩|⟨_,_,_,e,_⟩:=h.blk b a c
 .exact(zAb.1 e).1
 .exact(zAb.1 e).1
 .exact(zAb.1 e).1
def Lm {K:Kp}{B:Nat}{ρ:Rn}(d:∀b g,ρ b g->¬Sh g/\g<B){e:Event}(h:nC K ρ e):EvC Sh B e:=by
 obtain⟨a,o,wr,s,rfl,m,_⟩|(h|h)|⟨f,h⟩|⟨r,i,s,rfl,j⟩:=h
 .exact yU (d _ _ m.1).1 (d _ _ m.1).2
 .obtain⟨l,wr,s⟩:=e;dsimp only at h;subst h;refine⟨λx c ⟨b,hb,_⟩=> ?_,by simp,by simp,trivial⟩;simp[MemAct.ofEvent,MemAct.touch?]at c
 .obtain⟨l,wr,s⟩:=e;dsimp only at h;subst h;refine⟨λx c ⟨b,hb,_⟩=> ?_,by simp,by simp,trivial⟩;simp only[MemAct.ofEvent,MemAct.touch?,aCP]at c;subst c;simp[blk]at hb
 .obtain⟨l,wr,s⟩:=e;dsimp only at h;subst h;refine⟨λx c ⟨b,hb,_⟩=> ?_,by simp,by simp,trivial⟩;simp[MemAct.ofEvent,MemAct.touch?]at c
 .have k:MemAct.ofEvent ⟨.obj i,aF,s⟩= .access ⟨.obj i,aF,s⟩:=rfl;refine⟨λx c ⟨b,hb,n⟩=> ?_,by simp,by simp,by rw[k];exact(d _ _ j).2⟩;rw[k]at c;simp only[MemAct.touch?,aCP]at c;subst c;simp only[blk,aCP]at hb;subst hb;exact absurd n (d _ _ j).1
def Main.step (R:Shape Q fs)(B:cJ Q Al Go.Ren.K0)(h:Main Q fs Al Sh gs w t q π fr own v fr' own')(hg:gs[0]? =aA (G fr' own'))(m:fr.mode= .run\/fr.defers≠[]\/own≠[])(xx:fs[fr.fn]? =Q.funcs[fr.fn]?)(hs:lF Al fr)
  {n:(zT)->Nat->zC×zL×zW} (hn:∀U d cs mn,∃es,stepG Q mn (G fr (own++cs)) (v.re U d)= .go (G (n U d).1 ((n U d).2.1++cs)) (n U d).2.2 es):
  ∃(N d:Nat)(j:zG)(w1:zW)(F:Option (Nat×Nat))(t1:Trace)(q1:Nat->Nat)(A:Rn)(l:zC)(c:zL),runNT ⟨Q.toTables,fs⟩ N (crowd gs w sl) t=(.next (crowd j w1 F),t1)/\j.size=gs.size/\
   Main Q fs Al Sh j w1 t1 q1 A (n w.tape d).1 (n w.tape d).2.1 (n w.tape d).2.2 l c/\w1.tape=w.tape/\w1.os=w.os/\w1.output=w.output/\qS π Sh w A Sh w1/\(fr.mode= .run->∃L,j[0]? =aA L/\jT ⟨Q.toTables,fs⟩ Al fr' own' L)/\
   (j[0]? =aA (G l c)\/∃f p k,Al f/\fs[f]?≠Q.funcs[f]?/\l=Frame.enter Q f p k/\j[0]? =aA (G (Frame.enter ⟨Q.toTables,fs⟩ f p k) c)):=by
 have s:∀d,∃x:(zH×zW×zE)×Rn×zC×zL,stepG ⟨Q.toTables,fs⟩ aE (G fr' own') (w.at d)= .go x.1.1 x.1.2.1 x.1.2.2/\VP Q Al Go.Ren.K0 x.2.1 (n w.tape d).1 (n w.tape d).2.1 (n w.tape d).2.2 x.2.2.1 x.2.2.2 x.1.2.1/\w.heap.size<=x.1.2.1.heap.size/\
   (x.1.2.1.tape=w.tape/\x.1.2.1.os=w.os/\x.1.2.1.output=w.output/\qS π Sh w x.2.1 Sh x.1.2.1)/\((∀b g,x.2.1 b g->¬Sh g)/\∀b,Al (1000002+b)->(∀g,¬x.2.1 b g)/\(n w.tape d).2.2.heap[b]? =aA (aI #[.int aP 0] 0 (0,0)))/\(∀e∈x.1.2.2,EvC Sh x.1.2.1.heap.size e)/\(fr.mode= .run->jT ⟨Q.toTables,fs⟩ Al fr' own' x.1.1)/\
   (x.1.1=G x.2.2.1 x.2.2.2\/∃f p k,Al f/\fs[f]?≠Q.funcs[f]?/\x.2.2.1=Frame.enter Q f p k/\x.1.1=G (Frame.enter ⟨Q.toTables,fs⟩ f p k) x.2.2.2):=λd=>by
  have M:VP Q Al Go.Ren.K0 π fr own v fr' own' (w.at d):=h.Fh.rely rfl ⟨λ_ _ _=>rfl,zAa _,rfl⟩
  obtain⟨Zp,V⟩:=hn w.tape d [] aE
  obtain⟨A,l,c,w1,es,s1,k1,m1,e1⟩:=M.step rfl B m (y:=n w.tape d) ⟨Zp,V⟩ aE []
  have i:∀b g,A b g->¬Sh g:=λb g r x=>by
   obtain y|⟨_,y,_⟩:=m1.sF b g r
   .exact h.off b g y x
   .have:=h.Ir g x;have y':w.heap.size<=g:=y;omega
  have D:∀b,Al (1000002+b)->(∀g,¬A b g)/\(n w.tape d).2.2.heap[b]? =aA (aI #[.int aP 0] 0 (0,0)):=λb r=>by
   obtain⟨S,W⟩:=h.Sg b r;have bU:b<(v.re w.tape d).heap.size:=(zAb.1 W).1;refine⟨λg hr=> ?_,(m1.FB b bU S).trans W⟩;obtain y|⟨y,_,_⟩:=m1.sF b g hr
   .exact S g y
   .exact absurd bU (zFz.2 y)
  have E:qS π Sh w A Sh w1:=⟨m1.sub,m1.size,λg r S W=>⟨m1.still g r λb J=>absurd J (S b),λb J=>by
   obtain y|⟨_,y,_⟩:=m1.sF b g J
   .exact S b y
   .have y':w.heap.size<=g:=y;omega,W⟩⟩
  have I:∀e∈es,EvC Sh w1.heap.size e:=λe he=>Lm (λb g r=>⟨i b g r,Oe k1.world r⟩) (e1 e he)
  rw[zAy,zAy]at s1
  have O:∀g0 w0 e0,stepG ⟨Q.toTables,fs⟩ aE (G fr' own') (w.at d)= .go g0 w0 e0->fr.mode= .run->jT ⟨Q.toTables,fs⟩ Al fr' own' g0:=λg0 w0 e0 hs hm=>by
   obtain⟨o,u,z,e⟩|⟨g2,w2,z,e,ht⟩:=QR (mn:=aE) (mn':=aE) (cs:=own++[]) (own':=own') B R rfl M.world M.frame hm
   .have T:stepG Q aE (G fr (own++[])) (v.re w.tape d)= .ended o u z:=e;rw[V]at T;cases T
   .rw[hs]at e;cases e;exact ht
  have bl:=wH (cs:=[]) (cs':=[]) B R rfl M.world M.frame xx M.own m aE aE
  rw[zAy]at bl
  obtain⟨o,u,z,e⟩|e|⟨f,p,k,callers,ta,cq,K,q1,Y,H⟩:=bl
  .rw[zAy]at V;have T:stepG Q aE (G fr own) (v.re w.tape d)= .ended o u z:=e;rw[V]at T;cases T
  .rw[zAy]at e;exact⟨((G l c,w1,es),A,l,c),e.trans s1,k1,m1.size,⟨m1.tape,m1.os,m1.out,E⟩,⟨i,D⟩,I,O _ _ _ (e.trans s1),aG rfl⟩
  .rw[zAy]at q1 Y;rw[s1]at q1;cases q1;exact⟨((_,w1,es),A,Frame.enter Q f p k,c),Y,k1,m1.size,⟨m1.tape,m1.os,m1.out,E⟩,⟨i,D⟩,I,O _ _ _ Y,aH ⟨f,p,k,K,H,rfl,rfl⟩⟩
 obtain⟨N,d,j,F,t1,q1,r1,z1,L,l1,c1⟩:=CP (P:=⟨Q.toTables,fs⟩) (Sh:=Sh) (B:=w.heap.size) (w:=w) (a:=G fr' own') (a':=λd=>(aCJ (s d)).1.1) (w':=λd=>(aCJ (s d)).1.2.1) (es:=λd=>(aCJ (s d)).1.2.2) (C:=λd=>(aCJ (s d)).1.2.1.heap.size) rfl
  (λd=>(zAr (s d)).1) (λd=>(zAr (s d)).2.2.1) (λd=>(zAr (s d)).2.2.2.2.2.1) _ gs w.drawn sl t q rfl hg h.lv h.calm
 have sp:=zAr (s d)
 generalize aCJ (s d)=x at sp r1 L c1
 obtain⟨s1,k1,m1,⟨X,o1,u1,sub⟩,i,I,Z,bg⟩:=sp
 refine⟨N,d,j,x.1.2.1,F,t1,q1,x.2.1,x.2.2.1,x.2.2.2,r1,z1,⟨l1,c1,λb r=>zAc (h.Ir b r) m1,k1,i.1,i.2⟩,X,o1,u1,sub,λhm=>⟨_,L,Z hm⟩,?_⟩
 obtain e|⟨f,p,k,K,H,e1,e2⟩:=bg
 .left;rw[L,e]
 .right;exact⟨f,p,k,K,H,e1,by rw[L,e2]⟩
end
end Go.Ga
