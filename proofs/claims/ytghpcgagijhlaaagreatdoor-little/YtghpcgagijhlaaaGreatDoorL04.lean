import Derived.Conc.CompanyDraw
import Derived.Conc.TokenWalk
import Derived.Laws.MakeOwn
import Derived.Conc.AppendWalk
import Derived.Conc.SmallLaws
import Derived.Test.YtghpcgagijhlaaaGreatDoorL03
set_option linter.all false
set_option maxRecDepth 100000
set_option maxHeartbeats 16000000
open Option renaming some->aA,none->aB
open Bool renaming true->aF,false->aG
open Or renaming inl->aH,inr->aI
open Go.Ending renaming returned->aM
open Go.Item renaming inRegion->aN
open Go.Obj renaming cells->aJ
open Go.IntKind renaming i64->aD,u32->aP,u64->aR,u8->aQ
open Array renaming replicate->aD5,getElem_append->aEy,getElem?_mapIdx->aEz,toList->aEA
open Classical renaming choose->aEi
open Go renaming execOp->aEd,undef->aEn
open Go.Conc.QuitsD renaming leaveD->aEB
open Go.Deferred renaming ofValue->aEe
open Go.GStep renaming after->aEC
open Go.IntKind renaming wrap_u64->aED,wrap_i32->aEE
open Go.MemOp renaming ofEvents->aEs
open Go.Next renaming value->aEo
open Option.some renaming injEq->aEx
open Go.Proofs.Tryz
namespace Go.Ren
open Go.Conc
section
variable {P:zZ}{mn:Bool}{J:zW->Prop}{S:(zP)->(zP)->zU}{rs ws:zP}{g g':zH}{w:zW}
def Ug {es:zE}(b:g.status= .running)(h:∀w₁,cA rs ws w w₁->J w₁->stepG P mn g w₁= .go g' w₁ es)(d:∀e∈es,VP rs ws e)(c:∃tr,cK P mn J S tr rs ws g' w):∃tr,cK P mn J S tr rs ws g w:=
 cK.step b λw₁ r j=>⟨g',w₁,es,h w₁ r j,Does.refl ws w₁,λe a=>by rw[dL];exact d e a,by rw[dL];exact let⟨tr,x⟩:=c;⟨tr,x.rely r⟩⟩
def bK (a:g.status= .running)(h:∀w₁,stepG P mn g w₁= .go g' w₁ #[])(b:∃tr,cK P mn J S tr rs ws g' w):∃tr,cK P mn J S tr rs ws g w:=
 Ug a (λw₁ _ _=>h w₁) (by simp) b
def AE (h:∀w₁,cA rs ws w w₁->J w₁->S rs ws g w₁):∃tr,cK P mn J S tr rs ws g w:=⟨.leaf,h⟩
def Hk {b:zC}{a k cs id ops}(d:P.follows .mixedOrders=aF)
  (h:∀t,∃tr,cK P mn J S tr rs ws (G (b.at a (aN ops (Region.linearise.go .any ops ops.size t (aD5 ops.size aG) [])::k)) cs) w):∃tr,cK P mn J S tr rs ws (G (b.at a (.code (.region id ops aF)::k)) cs) w:=by
 refine cK.step rfl λc r j=>⟨_,_,_,stepG_region_draw,⟨λ_ _ _=>rfl,zAb _,rfl,rfl,rfl⟩,by simp,?_⟩;have e:grown ws c {c with drawn:=c.drawn+1}=ws:=by funext b;exact propext ⟨λx=>x.elim (λz=>z) λy=>by have:=y.1;have:=y.2;simp only at*;omega,aH⟩
 rw[e];simp only[Region.schedule,d,Bool.true_or,zCs];obtain⟨tr,x⟩:=h (c.tape c.drawn (.order b.fn id));exact⟨tr,x.rely ⟨λb f=>r.cM b f,r.size,r.tape,r.os,r.output⟩⟩
def Hj {b:zC}{a k cs ops fuel listed}
  (c:fuel=0\/Region.ready .any ops listed=[]->∃tr,cK P mn J S tr rs ws (G (b.at a (aN ops []::k)) cs) w)
  (e:∀i f t,fuel=f+1->i∈Region.ready .any ops listed->∃tr,cK P mn J S tr rs ws (G (b.at a (aN ops (i::Region.linearise.go .any ops f t (listed.setIfInBounds i aF) [])::k)) cs) w) (t):
  ∃tr,cK P mn J S tr rs ws (G (b.at a (aN ops (Region.linearise.go .any ops fuel t listed [])::k)) cs) w:=by
 cases fuel with
 |zero=>exact c (aH rfl)
 |succ fuel=>
  simp only[Region.linearise.go];show∃tr,cK P mn J S tr rs ws (G (b.at a (aN ops (match(Region.ready .any ops listed)[t%(Region.ready .any ops listed).length]? with
   |some i=>Region.linearise.go .any ops fuel (t/(Region.ready .any ops listed).length) (listed.setIfInBounds i aF) [i]
   |none=>[].reverse)::k)) cs) w
  cases hi:(Region.ready .any ops listed)[t%(Region.ready .any ops listed).length]? with
  |none=>
   have h:Region.ready .any ops listed=[]:=by
    cases d:Region.ready .any ops listed with
    |nil=>rfl
    |cons x xs=>rw[d]at hi;have bT:t%(x::xs).length<(x::xs).length:=zGj _ (by simp);simp at hi;simp at bT;omega
   exact c (aI h)
  |some i=>dsimp only;rw[linearise_go_acc,List.reverse_singleton,List.singleton_append];exact e i fuel _ rfl (zDf hi)
def cV {b:zC}{a:Act}{k:zI}{cs:zL}{ops:zQ}{i:Nat}{rest:List Nat}{o:Oper}(v:zY)(f:ops[i]? =aA o)(c:Region.wanted o (yielded ops a.tmps)=aF)(m:b.kind≠.early)
  (d:∀w₁,cA rs ws w w₁->J w₁->(aEd a.eval o).run P w₁= .ok (.value v) w₁) (n:∀w₁,cA rs ws w w₁->J w₁->∀e∈(aEd a.eval o).events P w₁ #[],VP rs ws e)
  (l:∃tr,cK P mn J S tr rs ws (G (b.at (a.put o.dst v) (aN ops rest::k)) cs) w):∃tr,cK P mn J S tr rs ws (G (b.at a (aN ops (i::rest)::k)) cs) w:=
 cK.step rfl λw₁ r j=>⟨_,w₁,_,stepG_value f c m (d w₁ r j),Does.refl ws w₁,λe h=>by rw[dL];exact n w₁ r j e (zHc h),by rw[dL];exact let⟨tr,x⟩:=l;⟨tr,x.rely r⟩⟩
def GP {b:zC}{a:Act}{k:zI}{cs:zL}{ops:zQ}{i:Nat}{rest:List Nat}{o:Oper}{f:zN}{args:zA}(j:ops[i]? =aA o)(c:Region.wanted o (yielded ops a.tmps)=aF)(m:b.kind≠.early)
  (d:∀w₁,(aEd a.eval o).run P w₁= .ok (.enter f args) w₁) (n:∀w₁,(aEd a.eval o).events P w₁ #[]= #[])
  (l:∃tr,cK P mn J S tr rs ws (G (Frame.enter P f args .normal) (b.at a (aN ops (i::rest)::k)::cs)) w):∃tr,cK P mn J S tr rs ws (G (b.at a (aN ops (i::rest)::k)) cs) w:=
 cK.step rfl λw₁ r _=>⟨_,w₁,_,stepG_enter j c m (d w₁),Does.refl ws w₁,λe h=>by have:=zHc h;rw[n]at this;simp at this,by rw[dL];exact let⟨tr,x⟩:=l;⟨tr,x.rely r⟩⟩
def bY {b}(h:rs b\/ws b){w₁}(r:cA rs ws w w₁)(i):w₁.cell? ⟨b,i,aB⟩=w.cell? ⟨b,i,aB⟩:=by simp only[World.cell?];rw[r.cM b h]
def MA {b:zC}{a:Act}{k:zI}{cs:zL}{ops:zQ}{i:Nat}{rest:List Nat}{o:Oper}(v:zW->zY)(W:zW->zW)(f:ops[i]? =aA o)(d:Region.wanted o (yielded ops a.tmps)=aF)(l:b.kind≠.early)
  (h:∀w₁,cA rs ws w w₁->J w₁->(aEd a.eval o).run P w₁= .ok (.value (v w₁)) (W w₁)/\Does ws w₁ (W w₁)/\(∀e∈(aEd a.eval o).events P w₁ #[],VP rs (grown ws w₁ (W w₁)) e)/\
   ∃tr,cK P mn J S tr rs (grown ws w₁ (W w₁)) (G (b.at (a.put o.dst (v w₁)) (aN ops rest::k)) cs) (W w₁)):∃tr,cK P mn J S tr rs ws (G (b.at a (aN ops (i::rest)::k)) cs) w:=
 cK.step rfl λw₁ r j=>let⟨h1,p,n,m⟩:=h w₁ r j;⟨_,W w₁,_,stepG_value f d l h1,p,λe c=>n e (zHc c),m⟩
def GO {b:zC}{a:Act}{k:zI}{cs:zL}{ops:zQ}{i:Nat}{rest:List Nat}{o:Oper}(W:zW->zW)(f:ops[i]? =aA o)(d:Region.wanted o (yielded ops a.tmps)=aF)(l:b.kind≠.early)
  (h:∀w₁,cA rs ws w w₁->J w₁->(aEd a.eval o).run P w₁= .ok .skip (W w₁)/\Does ws w₁ (W w₁)/\(∀e∈(aEd a.eval o).events P w₁ #[],VP rs (grown ws w₁ (W w₁)) e)/\
   ∃tr,cK P mn J S tr rs (grown ws w₁ (W w₁)) (G (b.at (a.put o.dst aEn) (aN ops rest::k)) cs) (W w₁)):∃tr,cK P mn J S tr rs ws (G (b.at a (aN ops (i::rest)::k)) cs) w:=
 cK.step rfl λw₁ r j=>let⟨h1,p,n,m⟩:=h w₁ r j;⟨_,W w₁,_,stepG_none f d l h1,p,λe c=>n e (zHc c),m⟩
def GG (ws:zP)(w:zW){a:Addr}(v:zY)(h:ws a.block):Does ws w (w.setCell a v):=
 ⟨λb _ c=>Go.RowKit.Below.heap_setCell w a v b λe=>c (e▸h),by simp[World.setCell],by simp[World.setCell],by simp[World.setCell],by simp[World.setCell]⟩
def qT (ws:zP)(w:zW)(o:Obj):Does ws w (w.alloc o):=
 ⟨λb h _=>by
  show(w.heap.push o)[b]? =_;rw[zBk,zAv (by omega)],by
  show w.heap.size<=(w.heap.push o).size;rw[zBw];omega,rfl,rfl,rfl⟩
def cY {w:zW}{b c t fr}(h:w.heap[b]? =aA (aJ c t fr))(i)(v):(w.setCell ⟨b,i,aB⟩ v).heap[b]? =aA (aJ (c.setIfInBounds i v) t fr):=by have bT:=(zAa.1 h).1;simp only[World.setCell];rw[zDt,zAz rfl,h];rfl
def bC {w:zW}{b c t fr}(h:w.heap[b]? =aA (aJ c t fr))(i):w.cell? ⟨b,i,aB⟩=c[i]? :=by simp[World.cell?,h]
def cR {w:zW}{b c t}(h:w.heap[b]? =aA (aJ c t (0,0)))(i):w.frozen? ⟨b,i,aB⟩=aG:=by simp[World.frozen?,h]
def eP (w:zW)(o):(w.alloc o).heap.size=w.heap.size+1:=by show(w.heap.push o).size=_;rw[zBw]
def alloc_old (w:zW)(o){b}(h:b<w.heap.size):(w.alloc o).heap[b]? =w.heap[b]? :=by show(w.heap.push o)[b]? =_;rw[zBk,zAv (by omega)]
def pZ (w:zW)(o):(w.alloc o).heap[w.heap.size]? =aA o:=by show(w.heap.push o)[w.heap.size]? =_;rw[zBk,zAz rfl]
def cE (w:zW){a}(v){b}(h:b≠a.block):(w.setCell a v).heap[b]? =w.heap[b]? :=Go.RowKit.Below.heap_setCell w a v b h
def dY (w:zW)(a)(v):(w.setCell a v).heap.size=w.heap.size:=by simp[World.setCell]
def kX (ws)(w)(a)(v):grown ws w (w.setCell a v)=ws:=by funext b;apply propext;unfold grown;rw[dY];exact⟨λx=>x.elim (λz=>z) λy=>by omega,aH⟩
def FU (ws)(w)(a a')(v v'):grown ws w ((w.setCell a v).setCell a' v')=ws:=by funext b;apply propext;unfold grown;rw[dY,dY];exact⟨λx=>x.elim (λz=>z) λy=>by omega,aH⟩
end
end Go.Ren
namespace Go.Ga
open Go.Conc Go.Ren Go.Proofs Go.RowKit Go.Conc.Lib
noncomputable def pG:zQ:=match f244.body with|some (.seq _ (.region _ ops _))=>ops|_=> #[]
structure PI (rs:zP)(w:zW)(b1 b2 b3 b4:Nat)(Cr:Nat)(at':Int)(fv cu:zY):Prop where
 r1:rs b1
 r2:rs b2
 r3:rs b3
 r4:rs b4
 c1:w.cell? ⟨b1,0,aB⟩=aA (.chan (aA Cr))
 c2:w.cell? ⟨b2,0,aB⟩=aA (.int aD at')
 c3:w.cell? ⟨b3,0,aB⟩=aA fv
 c4:w.cell? ⟨b4,0,aB⟩=aA cu
noncomputable abbrev BT (c0:zY) (b1 b2 b3 b4:Nat) (ds:List Deferred) (k:zI) (cs:zL) (a5 d c b a9 a:zY) (rest:List Nat):zH:=
 G (Frame.at (baseD 244) (Act.mk #[c0,Value.pointer (aA ⟨b1,0,aB⟩),Value.pointer (aA ⟨b2,0,aB⟩),Value.pointer (aA ⟨b3,0,aB⟩),Value.pointer (aA ⟨b4,0,aB⟩),a5,d,c,b,a9,a] ds) (Item.inRegion pG rest::k)) cs
section
variable {J:zW->Prop}{St:(zP)->(zP)->zU}{rs ws:zP}{w:zW}{ds:List Deferred}{k:zI}{cs:zL}{rest:List Nat}{c0 x5 x6 x7 x8 x9 Iu:zY}{b1 b2 b3 b4 Cr:Nat}{at':Int}{fv p0:zY}
def w0 (h:PI rs w b1 b2 b3 b4 Cr at' fv p0)(f:∃tr,cK Tryz.prog aG J St tr rs ws (BT c0 b1 b2 b3 b4 ds k cs (.chan (aA Cr)) x6 x7 x8 x9 Iu rest) w):∃tr,cK Tryz.prog aG J St tr rs ws (BT c0 b1 b2 b3 b4 ds k cs x5 x6 x7 x8 x9 Iu (0::rest)) w:=by
 have d:pG[0]? =aA {dst:=aA 5,op:= .load 295 (.tmp 1),type:=295,pos:= "gather.go:27",after:= #[],guard:=aB}:=rfl;refine cV _ d rfl (by simp[baseD]) (λa r _=> ?_) (λa r _ e c=> ?_) f
 .have b:=(bY (aH h.r1) r 0).trans h.c1;go_simp
 .have b:=(bY (aH h.r1) r 0).trans h.c1;simp[go_sem,b]at c;subst c;exact aH ⟨_,_,_,rfl,aI ⟨rfl,h.r1⟩⟩
def w1 (h:PI rs w b1 b2 b3 b4 Cr at' fv p0)(f:∃tr,cK Tryz.prog aG J St tr rs ws (BT c0 b1 b2 b3 b4 ds k cs x5 (.int aD at') x7 x8 x9 Iu rest) w):∃tr,cK Tryz.prog aG J St tr rs ws (BT c0 b1 b2 b3 b4 ds k cs x5 x6 x7 x8 x9 Iu (1::rest)) w:=by
 have d:pG[1]? =aA {dst:=aA 6,op:= .load 3 (.tmp 2),type:=3,pos:= "gather.go:27",after:= #[],guard:=aB}:=rfl;refine cV _ d rfl (by simp[baseD]) (λa r _=> ?_) (λa r _ e c=> ?_) f
 .have b:=(bY (aH h.r2) r 0).trans h.c2;go_simp
 .have b:=(bY (aH h.r2) r 0).trans h.c2;simp[go_sem,b]at c;subst c;exact aH ⟨_,_,_,rfl,aI ⟨rfl,h.r2⟩⟩
def w2 (h:PI rs w b1 b2 b3 b4 Cr at' fv p0)(f:∃tr,cK Tryz.prog aG J St tr rs ws (BT c0 b1 b2 b3 b4 ds k cs x5 x6 fv x8 x9 Iu rest) w):∃tr,cK Tryz.prog aG J St tr rs ws (BT c0 b1 b2 b3 b4 ds k cs x5 x6 x7 x8 x9 Iu (2::rest)) w:=by
 have d:pG[2]? =aA {dst:=aA 7,op:= .load 284 (.tmp 3),type:=284,pos:= "gather.go:27",after:= #[],guard:=aB}:=rfl;refine cV _ d rfl (by simp[baseD]) (λa r _=> ?_) (λa r _ e c=> ?_) f
 .have b:=(bY (aH h.r3) r 0).trans h.c3;go_simp
 .have b:=(bY (aH h.r3) r 0).trans h.c3;simp[go_sem,b]at c;subst c;exact aH ⟨_,_,_,rfl,aI ⟨rfl,h.r3⟩⟩
def w3 (h:PI rs w b1 b2 b3 b4 Cr at' fv p0)(f:∃tr,cK Tryz.prog aG J St tr rs ws (BT c0 b1 b2 b3 b4 ds k cs x5 x6 x7 p0 x9 Iu rest) w):∃tr,cK Tryz.prog aG J St tr rs ws (BT c0 b1 b2 b3 b4 ds k cs x5 x6 x7 x8 x9 Iu (3::rest)) w:=by
 have d:pG[3]? =aA {dst:=aA 8,op:= .load 264 (.tmp 4),type:=264,pos:= "gather.go:27",after:= #[],guard:=aB}:=rfl;refine cV _ d rfl (by simp[baseD]) (λa r _=> ?_) (λa r _ e c=> ?_) f
 .have b:=(bY (aH h.r4) r 0).trans h.c4;go_simp
 .have b:=(bY (aH h.r4) r 0).trans h.c4;simp[go_sem,b]at c;subst c;exact aH ⟨_,_,_,rfl,aI ⟨rfl,h.r4⟩⟩
def w4 {f fn first cap}(b:Tryz.prog.funcs[f]? =aA fn)(h:¬fn.name= "runtime.NumGoroutine")(c:¬fn.body=aB)
  (e:∃tr,cK Tryz.prog aG J St tr rs ws (G (Frame.enter Tryz.prog f (first.push x8++cap) .normal) ((BT c0 b1 b2 b3 b4 ds k cs x5 x6 (.func (.func f) first cap) x8 x9 Iu (4::rest)).frame::cs)) w):
  ∃tr,cK Tryz.prog aG J St tr rs ws (BT c0 b1 b2 b3 b4 ds k cs x5 x6 (.func (.func f) first cap) x8 x9 Iu (4::rest)) w:=by
 have d:pG[4]? =aA {dst:=aA 9,op:= .call {callee:= .value (.tmp 7),args:= #[.tmp 8],argTypes:= #[264]},type:=283,pos:= "gather.go:27",after:= #[{on:=2,ground:= .data},{on:=3,ground:= .data}],guard:=aB}:=rfl;refine GP d rfl (by simp[baseD]) (λa=> ?_) (λa=> ?_) e
 .simp[aEd,resolve,aEe,invoke,callFunc,b,h,c,go_sem]
 .simp[aEd,resolve,aEe,invoke,callFunc,b,h,c,go_sem]
def w5 {q l c}(b:∃tr,cK Tryz.prog aG J St tr rs ws (BT c0 b1 b2 b3 b4 ds k cs x5 (.int aD at') x7 x8 (.slice q l c) (.agg #[.int aD at',.slice q l c]) rest) w):∃tr,cK Tryz.prog aG J St tr rs ws (BT c0 b1 b2 b3 b4 ds k cs x5 (.int aD at') x7 x8 (.slice q l c) Iu (5::rest)) w:=by
 have h:pG[5]? =aA {dst:=aA 10,op:= .build 297 #[(0,.tmp 6),(1,.tmp 9)],type:=297,pos:= "gather.go:27",after:= #[{on:=1,ground:= .data},{on:=4,ground:= .data}],guard:=aB}:=rfl;refine cV _ h rfl (by simp[baseD]) (λa r _=> ?_) (λa r _ e d=> ?_) b
 .have e:(Instr.build 297 #[(0,.int aD at'),(1,.slice q l c)]).run Tryz.prog a= .ok (.agg #[.int aD at',.slice q l c]) a:=run_build a 297 _ _ (by kernel_rfl);simp[go_sem,e]
 .have f:(Instr.build 297 #[(0,.int aD at'),(1,.slice q l c)]).events Tryz.prog a #[]= #[]:=by{kernel_rfl};simp[go_sem,f]at d
def w6 {x}:stepG Tryz.prog aG (BT c0 b1 b2 b3 b4 ds k cs (.chan (aA Cr)) x6 x7 x8 x9 x (6::rest)) w= .comm (BT c0 b1 b2 b3 b4 ds k cs (.chan (aA Cr)) x6 x7 x8 x9 x (6::rest)) #[scase Cr x (.tuple #[])] aF .send w #[]:=by
 have h:pG[6]? =aA {dst:=aB,op:= .send (.tmp 5) (.tmp 10),type:=0,pos:= "gather.go:27",after:= #[{on:=0,ground:= .data},{on:=5,ground:= .data},{on:=4,ground:= .chain}],guard:=aB}:=rfl;have e:=stepG_comm (P:=Tryz.prog) (main:=aG) (b:=baseD 244) (a:=⟨#[c0,Value.pointer (aA ⟨b1,0,aB⟩),Value.pointer (aA ⟨b2,0,aB⟩),Value.pointer (aA ⟨b3,0,aB⟩),Value.pointer (aA ⟨b4,0,aB⟩),.chan (aA Cr),x6,x7,x8,x9,x],ds⟩) (k:=k) (cs:=cs) (rest:=rest) (w:=w) (cases:= #[scase Cr x (.tuple #[])]) (blocking:=aF) (shape:= .send) (w':=w) h rfl (by simp[baseD]) (by simp[aEd,scase,go_sem]);rw[e];have d:listed Tryz.prog (baseD 244).fn ⟨#[c0,Value.pointer (aA ⟨b1,0,aB⟩),Value.pointer (aA ⟨b2,0,aB⟩),Value.pointer (aA ⟨b3,0,aB⟩),Value.pointer (aA ⟨b4,0,aB⟩),.chan (aA Cr),x6,x7,x8,x9,x],ds⟩ {dst:=aB,op:= .send (.tmp 5) (.tmp 10),type:=0,pos:= "gather.go:27",after:= #[{on:=0,ground:= .data},{on:=5,ground:= .data},{on:=4,ground:= .chain}],guard:=aB} w= #[]:=by unfold listed;have:(aEd (Act.eval ⟨#[c0,Value.pointer (aA ⟨b1,0,aB⟩),Value.pointer (aA ⟨b2,0,aB⟩),Value.pointer (aA ⟨b3,0,aB⟩),Value.pointer (aA ⟨b4,0,aB⟩),.chan (aA Cr),x6,x7,x8,x9,x],ds⟩) {dst:=aB,op:= .send (.tmp 5) (.tmp 10),type:=0,pos:= "gather.go:27",after:= #[{on:=0,ground:= .data},{on:=5,ground:= .data},{on:=4,ground:= .chain}],guard:=aB}).events Tryz.prog w #[]= #[]:=by{simp[aEd,go_sem]};rw[this,seen_none]
 rw[d]
end
end Go.Ga
namespace Go.Ren
open Go.Conc
section
variable {P:zZ}{mn:Bool}{J:zW->Prop}{S:(zP)->(zP)->zU}
def cK.keep:∀{tr:Tree}{rs ws:zP}{g:zH}{w:zW},(∀b,rs b->¬ws b/\b<w.heap.size)->cK P mn J S tr rs ws g w->
  cK P mn J (λi e o d=>i=rs/\(∀b,rs b->¬e b/\b<d.heap.size)/\(∀b,rs b->d.heap[b]? =w.heap[b]?)/\S i e o d) tr rs ws g w
 | .leaf,rs,ws,g,w,l,h=>λa r j=>⟨rfl,λb c=>⟨(l b c).1,zAd (l b c).2 r.size⟩,λb c=>r.cM b (aH c),h a r j⟩
 | .node ch,rs,ws,g,w,l,h=>⟨h.1,λa r j=>by
   obtain⟨o,d,u,t,n,s,q⟩:=h.2 a r j;refine⟨o,d,u,t,n,s,?_⟩;have m:∀b,rs b->¬grown ws a d b/\b<d.heap.size:=λb c=>by have bT:=zAd (l b c).2 r.size;exact⟨λx=>x.elim (l b c).1 λy=>by omega,zAd bT n.size⟩
   have p:∀b,rs b->d.heap[b]? =w.heap[b]? :=λb c=>(n.keep b (zAd (l b c).2 r.size) (l b c).1).trans (r.cM b (aH c));exact(q.keep m).mono λi e g w x=>⟨x.1,x.2.1,λb c=>(x.2.2.1 b c).trans (p b c),x.2.2.2⟩⟩
end
end Go.Ren
namespace Go.Ga
open Go.Conc Go.Ren Go.Proofs Go.RowKit Go.Conc.Lib
def Works (J:zW->Prop)(rs:zP)(w:zW)(f:zN)(args:zA)(Rk:zO->Nat->Nat->(zP)->zW->Prop):Prop:=
 ∀(c:zC)(cs:zL)(d:zP),(∀b,rs b->¬d b/\b<w.heap.size)->∃tr,cK Tryz.prog aG J (λr a g w=>g.status= .running/\∃q l cp h,Rk q l cp a w/\stepG Tryz.prog aG g w= .go (G (c.finish (.slice q l cp)) cs) w h/\∀e∈h,VP r a e) tr rs d (G (Frame.enter Tryz.prog f args .normal) (c::cs)) w
def PI.keep {rs w w' b1 b2 b3 b4 Cr at' fv p0}(h:PI rs w b1 b2 b3 b4 Cr at' fv p0)(c:∀b,rs b->w'.heap[b]? =w.heap[b]?):PI rs w' b1 b2 b3 b4 Cr at' fv p0:=by
 have a:∀b i,rs b->w'.cell? ⟨b,i,aB⟩=w.cell? ⟨b,i,aB⟩:=λb i d=>by simp only[World.cell?];rw[c b d]
 exact⟨h.r1,h.r2,h.r3,h.r4,(a _ _ h.r1).trans h.c1,(a _ _ h.r2).trans h.c2,(a _ _ h.r3).trans h.c3,(a _ _ h.r4).trans h.c4⟩
def XI (e d c b a l):(Region.ready .any pG #[e,d,c,b,a,l,aG]).isEmpty=aG:=by cases e<;>cases d<;>cases c<;>cases b<;>cases a<;>cases l<;>kernel_rfl
def En {g d c b l a i}(h:i∈Region.ready .any pG #[g,d,c,b,l,a,aG]):
  (i=0/\g=aG)\/(i=1/\d=aG)\/(i=2/\c=aG)\/(i=3/\b=aG)\/(i=4/\l=aG/\c=aF/\b=aF)\/(i=5/\a=aG/\d=aF/\l=aF)\/(i=6/\g=aF/\a=aF/\l=aF):=by
 have m:∀j∈Region.ready .any pG #[g,d,c,b,l,a,aG],((j==0&& !g)||(j==1&& !d)||(j==2&& !c)||(j==3&& !b)||(j==4&& !l&&c&&b)||(j==5&& !a&&d&&l)||(j==6&&g&&a&&l))=aF:=by
  have e:(Region.ready .any pG #[g,d,c,b,l,a,aG]).all (λj=>(j==0&& !g)||(j==1&& !d)||(j==2&& !c)||(j==3&& !b)||(j==4&& !l&&c&&b)||(j==5&& !a&&d&&l)||(j==6&&g&&a&&l))=aF:=by cases g<;>cases d<;>cases c<;>cases b<;>cases l<;>cases a<;>kernel_rfl
  intro j n;exact zCb.1 e j n
 have:=m i h;simp only[zDs,zBh,zDq,Bool.not_eq_true',or_assoc,and_assoc]at this;exact this
def go_over (fuel t):Region.linearise.go .any pG fuel t #[aF,aF,aF,aF,aF,aF,aF] []=[]:=by
 cases fuel with
 |zero=>rfl
 |succ fuel=>simp only[Region.linearise.go];have e:((List.range pG.size).filter λi=> !(#[aF,aF,aF,aF,aF,aF,aF]:Array Bool).getD i aF&&((pG[i]?).map (·.after.all λe=> !Region.binds .any e||(#[aF,aF,aF,aF,aF,aF,aF]:Array Bool).getD e.on aG)).getD aG)=[]:=by{kernel_rfl};rw[e];rfl
def Wp (e d c b a l:Bool):Nat:=(!e).toNat+(!d).toNat+(!c).toNat+(!b).toNat+(!a).toNat+(!l).toNat
section
variable {J:zW->Prop}{St:(zP)->(zP)->zU}{rs:zP}{ds:List Deferred}{k:zI}{cs:zL}{c0:zY}{b1 b2 b3 b4 Cr:Nat}{at':Int}{p0:zY}
 {f:zN} {fn:Func} {first cap:zA} {Rk:zO->Nat->Nat->(zP)->zW->Prop}
def RU (hf:Tryz.prog.funcs[f]? =aA fn)(Z:¬fn.name= "runtime.NumGoroutine")(X:¬fn.body=aB){w₀:zW}
  (hW:∀w,(∀b,rs b->w.heap[b]? =w₀.heap[b]?)->Works J rs w f (first.push p0++cap) Rk) (rr:∀{q l cp ws w w₁},Rk q l cp ws w->cA rs ws w w₁->Rk q l cp ws w₁)
  (hS:∀ws q l cp u v s m w,J w->Rk q l cp ws w->St rs ws (BT c0 b1 b2 b3 b4 ds k cs (.chan (aA Cr)) u v s m (.agg #[.int aD at',.slice q l cp]) [6]) w):
  ∀(fuel)(p g d c o n)(y u v s m x)(ws)(w)(t),Wp p g d c o n<fuel->(∀b,rs b->¬ws b/\b<w.heap.size)->(∀b,rs b->w.heap[b]? =w₀.heap[b]?)->
   PI rs w b1 b2 b3 b4 Cr at' (.func (.func f) first cap) p0->(p=aF->y= .chan (aA Cr))->(g=aF->u= .int aD at')->(d=aF->v= .func (.func f) first cap)->(c=aF->s=p0)->(o=aF->(∃q l cp,m= .slice q l cp/\Rk q l cp ws w)/\d=aF/\c=aF)->(n=aF->x= .agg #[.int aD at',m]/\g=aF/\o=aF)->
   ∃tr,cK Tryz.prog aG J St tr rs ws (BT c0 b1 b2 b3 b4 ds k cs y u v s m x (Region.linearise.go .any pG fuel t #[p,g,d,c,o,n,aG] [])) w:=by
 intro fuel;induction fuel with
 |zero=>intro p g d c o n y u v s m x ws w t D;omega
 |succ fuel I=>
  intro p g d c o n y u v s m x ws w t D G F z L K V U B H;refine Hj (λh=> ?_) (λi a A hfu hi=> ?_) t
  .exfalso;obtain h|h:=h
   .omega
   .have:=XI p g d c o n;rw[h]at this;simp at this
  .obtain rfl:a=fuel:=by{omega};obtain⟨rfl,r⟩|⟨rfl,r⟩|⟨rfl,r⟩|⟨rfl,r⟩|⟨rfl,r,r2,r3⟩|⟨rfl,r,r1,r4⟩|⟨rfl,r0,r5,r4⟩:=En hi;{subst r;exact w0 z (I aF g d c o n _ u v s m x ws w A (by simp[Wp]at D⊢;omega) G F z (λ_=>rfl) K V U B H)};{subst r;exact w1 z (I p aF d c o n y _ v s m x ws w A (by simp[Wp]at D⊢;omega) G F z L (λ_=>rfl) V U B (λh=>⟨(H h).1,rfl,(H h).2.2⟩))};{subst r;exact w2 z (I p g aF c o n y u _ s m x ws w A (by simp[Wp]at D⊢;omega) G F z L K (λ_=>rfl) U (λh=>⟨(B h).1,rfl,(B h).2.2⟩) H)};{subst r;exact w3 z (I p g d aF o n y u v _ m x ws w A (by simp[Wp]at D⊢;omega) G F z L K V (λ_=>rfl) (λh=>⟨(B h).1,(B h).2.1,rfl⟩) H)}
   .subst r;obtain rfl:=V r2;obtain rfl:=U r3;refine w4 hf Z X ?_;obtain⟨tr,hbz⟩:=hW w F (BT c0 b1 b2 b3 b4 ds k cs y u (.func (.func f) first cap) s m x (4::Region.linearise.go .any pG a A #[p,g,d,c,aF,n,aG] [])).frame cs ws G;refine(hbz.keep G).bind λY C g' w' Q=> ?_;by_cases hJ:∃w₁,cA Y C w' w₁/\J w₁
    .obtain⟨M,N,O⟩:=hJ;obtain⟨rfl,_,_,R,_⟩:=Q M N O;refine cK.step R λw₁ r j=> ?_;obtain⟨_,hd1,T,_,q,l,cp,es,W,E,kq⟩:=Q w₁ r j;refine⟨_,w₁,es,E,Does.refl C w₁,λe he=>by rw[dL];exact kq e he,?_⟩;rw[dL];exact I p g d c aF n y u _ _ (.slice q l cp) x C w₁ A (by simp[Wp]at D⊢;omega) hd1 (λb X=>(T b X).trans (F b X)) (z.keep T) L K (λ_=>rfl) (λ_=>rfl) (λ_=>⟨⟨q,l,cp,rfl,W⟩,r2,r3⟩) (λh=>absurd (H h).2.2 (by simp))
    .exact⟨.leaf,λw₁ r j=>absurd ⟨w₁,r,j⟩ hJ⟩
   .subst r;obtain rfl:=K r1;obtain⟨⟨q,l,cp,rfl,W⟩,_⟩:=B r4;exact w5 (I p g d c o aF y _ v s _ _ ws w A (by simp[Wp]at D⊢;omega) G F z L K V U B (λ_=>⟨rfl,r1,r4⟩))
   .subst r0;subst r5;obtain⟨rfl,r1,_⟩:=H rfl;obtain⟨⟨q,l,cp,rfl,W⟩,r2,r3⟩:=B r4;subst r1;subst r2;subst r3;subst r4;obtain rfl:=L rfl;have eg:Region.linearise.go .any pG a A ((#[aF,aF,aF,aF,aF,aF,aG]:Array Bool).setIfInBounds 6 aF) []=[]:=go_over a A;rw[eg];exact AE λw₁ r j=>hS ws q l cp _ _ _ _ w₁ j (rr W r)
end
end Go.Ga
namespace Go.Wg
open Go.Conc Go.RowKit Go.Conc.Lib Go.ConcR.Gen Go.ConcN Go.ConcN.Gen
open Go.ConcR (KK wgBlock WgAt stA smA rd wr mk Payload DC0)
variable {L:WgLink}
def XL {P}:∀(n d)(g),QuitsD P n d g->QuitsD P (n+1) d g:=by
 intro n;induction n with
 |zero=>intro d g h;exact aH h
 |succ n i=>intro d g h;obtain h|⟨a,f,es,b,c,e⟩:=h;{exact aH h};{exact aI ⟨a,f,es,b,c,i _ _ e⟩}
def wN {P n m d g}(h:n<=m)(a:QuitsD P n d g):QuitsD P m d g:=by
 induction h with
 |refl=>exact a
 |step _ i=>exact XL _ _ _ i
section
variable {P:zZ}{R:zW->zW->Prop}{F:zW->Prop}{Wg:Nat}{c:zC}{cs:zL}{qt:Nat}
def gr [Payload] (H:WgLib P L)(n:Cx L.tWg Wg R F)(e:c.mode= .returning)(l:QuitsD P qt 0 (G c cs))(w)(hF:F w/\WgLive L.tWg Wg w):
  On P aG R (gT P aG (.releaseMerge (stA Wg)) (On P aG R (gT P aG .disable (On P aG R (jc P L.tWg Wg R)))))
   (G ((baseD L.done).at ⟨#[.pointer (aA ⟨Wg,0,aB⟩),aEn,aEn,aEn],[]⟩ [.code (body_done L)]) (c::cs)) w:=by
 have r:= @n.rely;lib_facts;simp only[body_done,doneFn,zCv];refine⟨300,?_⟩;u_reg r hF;u_op r hF;u_in r hF;refine goes_call rfl rfl (by k_ne) rfl H.f_add (nm_add L) rfl ⟨by u_nil,?_⟩;walk_nrmf addFn;u_c zGm r hF;u_cnd aF r hF;u_c zGm r hF;u_c zGm r hF;u_reg r hF;u_op r hF;u_op r hF;u_c zGl r hF;u_cnd aF r hF;u_reg r hF;u_op r hF;u_conv H.underlying_tWgP H.room_tWg (WgLive.cell0 hF.2).choose_spec r hF;trace "@@u_conv H.underlying_tWgP H.room_tWg (WgLive.cell0 hF.2).choose_spec rl hF";refine Goes.stop (λa b=> ?_);replace hF:=r hF b;refine⟨rfl,_,stepG_markAt .releaseMerge (by simp) rfl rfl (by k_ne) rfl H.f_relMerge (x_relMerge_n L) (x_relMerge_b L) (x_relMerge_x L) (x_relMerge_f L) (by simp[Act.eval,stA]),200,?_⟩;walk_nrm;u_c zGl r hF;u_c zGm r hF;u_reg r hF;refine Goes.stop (λa b=> ?_);replace hF:=r hF b;refine⟨rfl,_,stepG_mark0 .disable (by simp) rfl rfl (by k_ne) rfl H.f_disable (x_disable_n L) (x_disable_b L) (x_disable_x L) (x_disable_f L),200,?_⟩;walk_nrm;u_c zGl r hF;u_reg r hF;u_defer r hF;u_c zGl r hF;u_c zGm r hF;u_reg r hF;u_op r hF;u_c zGl r hF;u_c zGm r hF;u_c zGm r hF;u_reg r hF;u_bub r hF;u_c zGl r hF;u_cnd aG r hF;u_c zGs r hF;u_c zGm r hF;u_reg r hF;iterate 6 (u_op r hF)
 u_call H.f_uAdd (nm_uAdd L) uAddFn r hF;u_c zGm r hF;u_reg r hF;u_op r hF;u_c zGl r hF;u_c zGm r hF;u_reg r hF;iterate 4 (u_op r hF)
 refine Goes.stop (λa b=> ?_);replace hF:=r hF b;refine⟨rfl,λv wt x I h=> ?_⟩;have B:IntKind.u64.wrap (KK+18446744069414584320)=0:=by decide
 have A:IntKind.u64.wrap (KK+1+18446744069414584320)=1:=by decide
 obtain rfl|y:=zEe v<;>(obtain rfl|rfl:wt=0\/wt=1:=by omega)
 .replace h:WgAt L.tWg Wg a KK 0:=by{simpa using h};have z:((0:Nat):Int)*KK+((0:Nat):Int)=0:=by{simp};rw[z];refine⟨_,(stepG_add_atomic rfl rfl (by k_ne) rfl H.f_addU64 (x_addU64_n L) (x_addU64_b L) (x_addU64_x L) aR (x_addU64_f L) rfl rfl h.cellSt (h.thaw 0)).trans (by rw[B];rfl),λhl=>absurd hl.2 (by decide),λ_=>⟨qt+189,?_⟩⟩;walk_nrm;(refine zGn _ rfl rfl (by k_ne) (λ_=>by go_simp<;>(try w_num)<;>rfl) (λ_=>by simp[go_sem, *]) ?_;walk_nrm);q_c zGl;q_c zGy;q_leave1 H.f_uAdd;(refine zGn _ rfl rfl (by k_ne) (λ_=>by go_simp<;>(try w_num)<;>rfl) (λ_=>by simp[go_sem, *]) ?_;walk_nrm);q_c zGl;q_c zGm;q_c zGm;q_reg;iterate 4 ((refine zGn _ rfl rfl (by k_ne) (λ_=>by go_simp<;>(try w_num)<;>rfl) (λ_=>by simp[go_sem, *]) ?_;walk_nrm))
  q_skip;q_skip;(refine zGn _ rfl rfl (by k_ne) (λ_=>by go_simp<;>(try w_num)<;>rfl) (λ_=>by simp[go_sem, *]) ?_;walk_nrm);q_c zGl;q_cond aG;q_c zGs;q_c zGm;q_reg;iterate 4 ((refine zGn _ rfl rfl (by k_ne) (λ_=>by go_simp<;>(try w_num)<;>rfl) (λ_=>by simp[go_sem, *]) ?_;walk_nrm))
  q_c zGl;q_c zGm;q_reg;iterate 4 ((refine zGn _ rfl rfl (by k_ne) (λ_=>by go_simp<;>(try w_num)<;>rfl) (λ_=>by simp[go_sem, *]) ?_;walk_nrm))
  q_c zGl;q_c zGm;q_c zGm;q_reg;iterate 5 ((refine zGn _ rfl rfl (by k_ne) (λ_=>by go_simp<;>(try w_num)<;>rfl) (λ_=>by simp[go_sem, *]) ?_;walk_nrm))
  iterate 4 (q_skip)
  (refine zGn _ rfl rfl (by k_ne) (λ_=>by go_simp<;>(try w_num)<;>rfl) (λ_=>by simp[go_sem, *]) ?_;walk_nrm);q_c zGl;q_cond aG;q_c zGs;q_c zGm;q_c zGm;q_reg;iterate 2 ((refine zGn _ rfl rfl (by k_ne) (λ_=>by go_simp<;>(try w_num)<;>rfl) (λ_=>by simp[go_sem, *]) ?_;walk_nrm))
  q_c zGl;q_cond aG;q_c zGs;q_c zGm;q_c zGm;q_reg;iterate 3 ((refine zGn _ rfl rfl (by k_ne) (λ_=>by go_simp<;>(try w_num)<;>rfl) (λ_=>by simp[go_sem, *]) ?_;walk_nrm))
  q_skip;q_skip;iterate 2 ((refine zGn _ rfl rfl (by k_ne) (λ_=>by go_simp<;>(try w_num)<;>rfl) (λ_=>by simp[go_sem, *]) ?_;walk_nrm))
  iterate 4 (q_skip)
  (refine zGn _ rfl rfl (by k_ne) (λ_=>by go_simp<;>(try w_num)<;>rfl) (λ_=>by simp[go_sem, *]) ?_;walk_nrm);q_c zGl;q_cond aG;q_c zGs;q_c zGm;q_c zGm;q_reg;iterate 6 ((refine zGn _ rfl rfl (by k_ne) (λ_=>by go_simp<;>(try w_num)<;>rfl) (λ_=>by simp[go_sem, *]) ?_;walk_nrm))
  q_c zGl;q_cond aF;q_c zGy;q_enable;q_leave0 H.f_add;q_c zGl;q_c stepG_end;exact wN (by omega) (aEB rfl rfl H.f_done rfl e l)
 .replace h:WgAt L.tWg Wg a (KK+1) 0:=by{simpa using h};have z:((0:Nat):Int)*KK+((1:Nat):Int)=1:=by{simp};rw[z];refine⟨_,(stepG_add_atomic rfl rfl (by k_ne) rfl H.f_addU64 (x_addU64_n L) (x_addU64_b L) (x_addU64_x L) aR (x_addU64_f L) rfl rfl h.cellSt (h.thaw 0)).trans (by rw[A];rfl),λ_=>⟨200,?_⟩,λhl=>absurd ⟨rfl,rfl⟩ hl⟩;replace hF:F (a.setCell (stA Wg) (.int aR 1))/\WgLive L.tWg Wg (a.setCell (stA Wg) (.int aR 1)):=⟨n.BO hF.1,⟨_,_,h.setSt 1⟩⟩;walk_nrm;u_op r hF;u_c zGl r hF;u_c zGy r hF;u_leave1 H.f_uAdd r hF;u_op r hF;u_c zGl r hF;u_c zGm r hF;u_c zGm r hF;u_reg r hF;iterate 4 (u_op r hF)
  u_skip r hF;u_skip r hF;u_op r hF;u_c zGl r hF;u_cnd aG r hF;u_c zGs r hF;u_c zGm r hF;u_reg r hF;iterate 4 (u_op r hF)
  u_c zGl r hF;u_c zGm r hF;u_reg r hF;iterate 4 (u_op r hF)
  u_c zGl r hF;u_c zGm r hF;u_c zGm r hF;u_reg r hF;iterate 5 (u_op r hF)
  iterate 4 (u_skip r hF)
  u_op r hF;u_c zGl r hF;u_cnd aG r hF;u_c zGs r hF;u_c zGm r hF;u_c zGm r hF;u_reg r hF;u_op r hF;u_op r hF;u_c zGl r hF;u_cnd aG r hF;u_c zGs r hF;u_c zGm r hF;u_c zGm r hF;u_reg r hF;iterate 7 (u_op r hF)
  iterate 4 (u_skip r hF)
  u_op r hF;u_c zGl r hF;u_cnd aG r hF;u_c zGs r hF;u_c zGm r hF;u_c zGm r hF;u_reg r hF;iterate 6 (u_op r hF)
  u_c zGl r hF;u_cnd aG r hF;u_c zGs r hF;u_c zGm r hF;u_c zGm r hF;u_reg r hF;iterate 3 (u_op r hF)
  u_call H.f_uLoad (nm_uLoad L) uLoadFn r hF;u_c zGm r hF;u_reg r hF;u_op r hF;u_c zGl r hF;u_c zGm r hF;u_reg r hF;iterate 3 (u_op r hF)
  refine Goes.stop (λp j=> ?_);replace hF:=r hF j;refine⟨rfl,λh=>⟨_,stepG_load_atomic rfl rfl (by k_ne) rfl H.f_loadU64 (x_loadU64_n L) (x_loadU64_b L) (x_loadU64_x L) aR (x_loadU64_f L) rfl h.cellSt,200,?_⟩⟩;walk_nrm;u_op r hF;u_c zGl r hF;u_c zGy r hF;u_leave1 H.f_uLoad r hF;u_op r hF;u_op r hF;u_c zGl r hF;u_cnd aG r hF;u_c zGs r hF;u_c zGm r hF;u_reg r hF;iterate 3 (u_op r hF)
  u_call H.f_uStore (nm_uStore L) uStoreFn r hF;u_reg r hF;iterate 4 (u_op r hF)
  refine Goes.stop (λf i=> ?_);replace hF:=r hF i;refine⟨rfl,λh=>⟨_,stepG_store_atomic rfl rfl (by k_ne) rfl H.f_storeU64 (x_storeU64_n L) (x_storeU64_b L) (x_storeU64_x L) (x_storeU64_f L) rfl rfl h.cellSt (h.thaw 0),200,?_⟩⟩;replace hF:F (f.setCell (stA Wg) (.int aR 0))/\WgLive L.tWg Wg (f.setCell (stA Wg) (.int aR 0)):=⟨n.BO hF.1,⟨_,_,h.setSt 0⟩⟩;walk_nrm;u_c zGl r hF;u_c stepG_end r hF;u_leave0 H.f_uStore r hF;u_c zGl r hF;u_c zGm r hF;u_c zGm r hF;u_reg r hF;u_op r hF;u_c zGl r hF;u_cnd aG r hF;u_c zGs r hF;u_c zHb r hF;u_c stepG_loop r hF;u_c zGm r hF;u_c zGm r hF;u_reg r hF;u_op r hF;u_op r hF;u_c zGl r hF;u_cnd aF r hF;u_c zGs r hF;u_c zGm r hF;u_c zHb r hF;u_reg r hF;iterate 3 (u_op r hF)
  refine Goes.stop (λo g=> ?_);replace hF:=r hF g;refine⟨rfl,mayWake_entry rfl rfl H.f_semrelease (x_semrelease_b L),λh=>⟨_,(stepG_semrelease rfl rfl (by k_ne) rfl H.f_semrelease (x_semrelease_n L) (x_semrelease_b L) (x_semrelease_x L) (x_semrelease_f L) (by simp[Act.eval,smA]) h.cellSm (h.thaw 1)).trans (by rfl),qt+189,?_⟩⟩;clear h hF;walk_nrm;q_c zGl;q_c stepG_inBlock;q_reg;iterate 3 ((refine zGn _ rfl rfl (by k_ne) (λ_=>by go_simp<;>(try w_num)<;>rfl) (λ_=>by simp[go_sem, *]) ?_;walk_nrm))
  q_c zGl;q_c stepG_inLoop;q_c zGm;q_c zGm;q_reg;iterate 2 ((refine zGn _ rfl rfl (by k_ne) (λ_=>by go_simp<;>(try w_num)<;>rfl) (λ_=>by simp[go_sem, *]) ?_;walk_nrm))
  q_c zGl;q_cond aG;q_exit;q_c stepG_end;q_enable;q_leave0 H.f_add;q_c zGl;q_c stepG_end;exact wN (by omega) (aEB rfl rfl H.f_done rfl e l)
 .replace h:WgAt L.tWg Wg a (((v:Nat)+1)*KK+0) 0:=by{simpa using h};have z:((v:Nat):Int)*KK+((0:Nat):Int)=(v:Int)*KK+0:=by{simp};rw[z];have m:0<v:=by{omega};have k:IntKind.u64.wrap (((v:Nat)+1)*KK+0+18446744069414584320)=(v:Int)*KK+0:=by{rw[aED];simp only[KK];omega};obtain⟨S,d⟩:∃S:Int,S=(v:Int)*KK+0:=⟨_,rfl⟩;rw[<-d]at k⊢;have E:S/4294967296=(v:Int):=by{rw[d];simp only[KK];omega};have a2:0<=S/\S<9223372036854775808:=by{rw[d];simp only[KK];omega};have D:bits .and aR S 2147483648=0:=by{rw[d];have:=st_flag v 0 (by omega) (by omega);simpa [KK]using this};have C:bits .and aR S 2147483647=0:=by{rw[d];have:=st_waiters v 0 (by omega) (by omega);simpa [KK]using this};have c1:IntKind.i32.wrap (v:Int)=(v:Int):=by{rw[aEE];omega};have u:decide ((v:Int)<0)=aG:=zBv (by omega);have t:decide (0<(v:Int))=aF:=zDd (by omega);have s:((v:Int)==0)=aG:=by{simp;omega};have q:decide ((v:Int)=0)=aG:=zBv (by omega);clear d z;refine⟨_,(stepG_add_atomic rfl rfl (by k_ne) rfl H.f_addU64 (x_addU64_n L) (x_addU64_b L) (x_addU64_x L) aR (x_addU64_f L) rfl rfl h.cellSt (h.thaw 0)).trans (by rw[k];rfl),λhl=>absurd hl.1 (by omega),λ_=>⟨qt+189,?_⟩⟩;clear h hF;walk_nrm;(refine zGn _ rfl rfl (by k_ne) (λ_=>by go_simp<;>(try w_num)<;>rfl) (λ_=>by simp[go_sem, *]) ?_;walk_nrm);q_c zGl;q_c zGy;q_leave1 H.f_uAdd;(refine zGn _ rfl rfl (by k_ne) (λ_=>by go_simp<;>(try w_num)<;>rfl) (λ_=>by simp[go_sem, *]) ?_;walk_nrm);q_c zGl;q_c zGm;q_c zGm;q_reg;iterate 4 ((refine zGn _ rfl rfl (by k_ne) (λ_=>by go_simp<;>(try w_num)<;>rfl) (λ_=>by simp[go_sem, *]) ?_;walk_nrm))
  q_skip;q_skip;(refine zGn _ rfl rfl (by k_ne) (λ_=>by go_simp<;>(try w_num)<;>rfl) (λ_=>by simp[go_sem, *]) ?_;walk_nrm);q_c zGl;q_cond aG;q_c zGs;q_c zGm;q_reg;iterate 4 ((refine zGn _ rfl rfl (by k_ne) (λ_=>by go_simp<;>(try w_num)<;>rfl) (λ_=>by simp[go_sem, *]) ?_;walk_nrm))
  q_c zGl;q_c zGm;q_reg;iterate 4 ((refine zGn _ rfl rfl (by k_ne) (λ_=>by go_simp<;>(try w_num)<;>rfl) (λ_=>by simp[go_sem, *]) ?_;walk_nrm))
  q_c zGl;q_c zGm;q_c zGm;q_reg;iterate 5 ((refine zGn _ rfl rfl (by k_ne) (λ_=>by go_simp<;>(try w_num)<;>rfl) (λ_=>by simp[go_sem, *]) ?_;walk_nrm))
  iterate 4 (q_skip)
  (refine zGn _ rfl rfl (by k_ne) (λ_=>by go_simp<;>(try w_num)<;>rfl) (λ_=>by simp[go_sem, *]) ?_;walk_nrm);q_c zGl;q_cond aG;q_c zGs;q_c zGm;q_c zGm;q_reg;iterate 2 ((refine zGn _ rfl rfl (by k_ne) (λ_=>by go_simp<;>(try w_num)<;>rfl) (λ_=>by simp[go_sem, *]) ?_;walk_nrm))
  q_c zGl;q_cond aG;q_c zGs;q_c zGm;q_c zGm;q_reg;iterate 3 ((refine zGn _ rfl rfl (by k_ne) (λ_=>by go_simp<;>(try w_num)<;>rfl) (λ_=>by simp[go_sem, *]) ?_;walk_nrm))
  q_skip;q_skip;iterate 2 ((refine zGn _ rfl rfl (by k_ne) (λ_=>by go_simp<;>(try w_num)<;>rfl) (λ_=>by simp[go_sem, *]) ?_;walk_nrm))
  iterate 4 (q_skip)
  (refine zGn _ rfl rfl (by k_ne) (λ_=>by go_simp<;>(try w_num)<;>rfl) (λ_=>by simp[go_sem, *]) ?_;walk_nrm);q_c zGl;q_cond aG;q_c zGs;q_c zGm;q_c zGm;q_reg;iterate 3 ((refine zGn _ rfl rfl (by k_ne) (λ_=>by go_simp<;>(try w_num)<;>rfl) (λ_=>by simp[go_sem, *]) ?_;walk_nrm))
  q_skip;q_skip;(refine zGn _ rfl rfl (by k_ne) (λ_=>by go_simp<;>(try w_num)<;>rfl) (λ_=>by simp[go_sem, *]) ?_;walk_nrm);q_c zGl;q_cond aF;q_c zGy;q_enable;q_leave0 H.f_add;q_c zGl;q_c stepG_end;exact wN (by omega) (aEB rfl rfl H.f_done rfl e l)
 .replace h:WgAt L.tWg Wg a (((v:Nat)+1)*KK+1) 0:=by{simpa using h};have z:((v:Nat):Int)*KK+((1:Nat):Int)=(v:Int)*KK+1:=by{simp};rw[z];have m:0<v:=by{omega};have k:IntKind.u64.wrap (((v:Nat)+1)*KK+1+18446744069414584320)=(v:Int)*KK+1:=by{rw[aED];simp only[KK];omega};obtain⟨S,d⟩:∃S:Int,S=(v:Int)*KK+1:=⟨_,rfl⟩;rw[<-d]at k⊢;have E:S/4294967296=(v:Int):=by{rw[d];simp only[KK];omega};have a2:0<=S/\S<9223372036854775808:=by{rw[d];simp only[KK];omega};have D:bits .and aR S 2147483648=0:=by{rw[d];have:=st_flag v 1 (by omega) (by omega);simpa [KK]using this};have C:bits .and aR S 2147483647=1:=by{rw[d];have:=st_waiters v 1 (by omega) (by omega);simpa [KK]using this};have c1:IntKind.i32.wrap (v:Int)=(v:Int):=by{rw[aEE];omega};have u:decide ((v:Int)<0)=aG:=zBv (by omega);have t:decide (0<(v:Int))=aF:=zDd (by omega);have s:((v:Int)==0)=aG:=by{simp;omega};have q:decide ((v:Int)=0)=aG:=zBv (by omega);clear d z;refine⟨_,(stepG_add_atomic rfl rfl (by k_ne) rfl H.f_addU64 (x_addU64_n L) (x_addU64_b L) (x_addU64_x L) aR (x_addU64_f L) rfl rfl h.cellSt (h.thaw 0)).trans (by rw[k];rfl),λhl=>absurd hl.1 (by omega),λ_=>⟨qt+189,?_⟩⟩;clear h hF;walk_nrm;(refine zGn _ rfl rfl (by k_ne) (λ_=>by go_simp<;>(try w_num)<;>rfl) (λ_=>by simp[go_sem, *]) ?_;walk_nrm);q_c zGl;q_c zGy;q_leave1 H.f_uAdd;(refine zGn _ rfl rfl (by k_ne) (λ_=>by go_simp<;>(try w_num)<;>rfl) (λ_=>by simp[go_sem, *]) ?_;walk_nrm);q_c zGl;q_c zGm;q_c zGm;q_reg;iterate 4 ((refine zGn _ rfl rfl (by k_ne) (λ_=>by go_simp<;>(try w_num)<;>rfl) (λ_=>by simp[go_sem, *]) ?_;walk_nrm))
  q_skip;q_skip;(refine zGn _ rfl rfl (by k_ne) (λ_=>by go_simp<;>(try w_num)<;>rfl) (λ_=>by simp[go_sem, *]) ?_;walk_nrm);q_c zGl;q_cond aG;q_c zGs;q_c zGm;q_reg;iterate 4 ((refine zGn _ rfl rfl (by k_ne) (λ_=>by go_simp<;>(try w_num)<;>rfl) (λ_=>by simp[go_sem, *]) ?_;walk_nrm))
  q_c zGl;q_c zGm;q_reg;iterate 4 ((refine zGn _ rfl rfl (by k_ne) (λ_=>by go_simp<;>(try w_num)<;>rfl) (λ_=>by simp[go_sem, *]) ?_;walk_nrm))
  q_c zGl;q_c zGm;q_c zGm;q_reg;iterate 5 ((refine zGn _ rfl rfl (by k_ne) (λ_=>by go_simp<;>(try w_num)<;>rfl) (λ_=>by simp[go_sem, *]) ?_;walk_nrm))
  iterate 4 (q_skip)
  (refine zGn _ rfl rfl (by k_ne) (λ_=>by go_simp<;>(try w_num)<;>rfl) (λ_=>by simp[go_sem, *]) ?_;walk_nrm);q_c zGl;q_cond aG;q_c zGs;q_c zGm;q_c zGm;q_reg;iterate 2 ((refine zGn _ rfl rfl (by k_ne) (λ_=>by go_simp<;>(try w_num)<;>rfl) (λ_=>by simp[go_sem, *]) ?_;walk_nrm))
  q_c zGl;q_cond aG;q_c zGs;q_c zGm;q_c zGm;q_reg;iterate 7 ((refine zGn _ rfl rfl (by k_ne) (λ_=>by go_simp<;>(try w_num)<;>rfl) (λ_=>by simp[go_sem, *]) ?_;walk_nrm))
  iterate 4 (q_skip)
  (refine zGn _ rfl rfl (by k_ne) (λ_=>by go_simp<;>(try w_num)<;>rfl) (λ_=>by simp[go_sem, *]) ?_;walk_nrm);q_c zGl;q_cond aG;q_c zGs;q_c zGm;q_c zGm;q_reg;iterate 3 ((refine zGn _ rfl rfl (by k_ne) (λ_=>by go_simp<;>(try w_num)<;>rfl) (λ_=>by simp[go_sem, *]) ?_;walk_nrm))
  q_skip;q_skip;(refine zGn _ rfl rfl (by k_ne) (λ_=>by go_simp<;>(try w_num)<;>rfl) (λ_=>by simp[go_sem, *]) ?_;walk_nrm);q_c zGl;q_cond aF;q_c zGy;q_enable;q_leave0 H.f_add;q_c zGl;q_c stepG_end;exact wN (by omega) (aEB rfl rfl H.f_done rfl e l)
end
end Go.Wg
namespace Go.Ga
open Go.Conc Go.Ren Go.Proofs Go.RowKit Go.Conc.Lib Go.Wg
open Go.ConcR (KK WgAt stA smA DC0 Payload)
open Go.ConcN (WgLive)
open Go.ConcR.Gen (body_done)
def root (P:zZ):zC:={(default:zC)with fn:=P.funcs.size,defers:=[],mode:= .panicking [goexitEntry]}
section
variable {P:zZ}
def Dm (w):stepG P aG (G (root P) []) w= .go {G (root P) []with status:= .finished} w #[]:=by simp[stepG,G,root,unwind,goexitEntry,Frame.catches];rfl
def Dn {b:zC}{a todo fn}(c:b.kind= .deferred)(e:a.defers=[])(d:P.funcs[b.fn]? =aA fn)(h:fn.results= #[])(w):
  stepG P aG (G {b.at a todo with mode:= .returning} [root P]) w= .go (G (root P) []) w #[]:=by
 simp[stepG,G,unwind,Frame.at,e,d,doReturn,c,root,goexitEntry,results_none h,events_results_none h,seen,aEC]
def EP {b:zC}{a:Act}{todo:zI}{fn:Func}(c:b.kind= .deferred)(e:a.defers=[])(d:P.funcs[b.fn]? =aA fn)(h:fn.results= #[]):QuitsD P 2 0 (G {b.at a todo with mode:= .returning} [root P]):=
 aI ⟨rfl,_,#[],by simp,Dn c e d h,aI ⟨rfl,_,#[],by simp,Dm,⟨rfl,rfl⟩⟩⟩
def KC {f fn c a}(b:P.funcs[f]? =aA fn)(h:¬fn.name= "runtime.NumGoroutine")(d:fn.body=aA c)(w):
  stepG P aG (born P ⟨.fn (.func f) a,#[]⟩) w= .go (G ((baseD f).at {tmps:=a++aD5 (fn.ntmps-a.size) aEn,defers:=[]} [.code c]) [root P]) w #[]:=by
 have e:=enter_atD a b d;rw[<-e];simp[stepG,born,unwind,callDeferred,invoke,callFunc,b,h,d,aEC,seen_none,G,root]
def sQ {R:zW->zW->Prop}{Stop:zU}{m:Nat}{g a:zH}{w:zW}(b:g.status= .running)(h:∀w₁,stepG P aG g w₁= .go a w₁ #[])(c:∀w₁,R w w₁->Go.Conc.Goes P aG R DC0 Stop m a w₁):Go.Conc.Goes P aG R DC0 Stop (m+1) g w:=
 aI ⟨b,λw₁ r=>by rw[h w₁,goes_go];exact⟨⟨rfl,rfl⟩,c w₁ r⟩⟩
end
section
variable(S:Sp){T:zA}
instance:Payload:=⟨3⟩
def ZZ (j:S.P=Tryz.prog)(h:S.ty=Tryz.link.tWg)(w)(k:S.J w):
  S.On S.D6 (G ((baseD 244).at ⟨T,[dcall 183 #[.pointer (aA ⟨S.Wg,0,aB⟩)]]⟩ (aN pG []::[])) [root Tryz.prog]) w:=by
 obtain⟨P,ty,Wg,Cr,Cd,n,m0,Ok,XS,M,Fin,pP,rP⟩:=S;dsimp only at j h;subst j;subst h;obtain⟨m,l⟩:=gr Tryz.Af ⟨λ_ r=>⟨trivial,r⟩,λ_=>trivial,λ_=>trivial⟩ rfl (EP (b:=baseD 244) (a:=⟨T,[]⟩) rfl rfl func244 rfl) w ⟨trivial,k⟩;refine⟨m+1+1+1,?_⟩;refine sQ rfl (λ_=>zGl) λf i=> ?_;refine sQ rfl (λ_=>stepG_end) λe g=> ?_;refine sQ rfl (λw=>stepG_unwind_enter rfl func183 rfl rfl) λd c=> ?_;exact Go.Conc.Goes.rely (λ_ _ _ _ x=>x) l c
def PT (n:S.P=Tryz.prog)(g:S.ty=Tryz.link.tWg){rs w d c b3 a at' p0 f fn first cap i}
  (y:∀b,rs b->b<w.heap.size) (z:PI rs w d c b3 a S.Cr at' (.func (.func f) first cap) p0) (v:Tryz.prog.funcs[f]? =aA fn) (k:¬fn.name= "runtime.NumGoroutine") (m:¬fn.body=aB)
  (A:∀w',(∀b,rs b->w'.heap[b]? =w.heap[b]?)->Works S.J rs w' f (first.push p0++cap) λq l cp ws w=>S.Ok i (.agg #[.int aD at',.slice q l cp]) ws w):
  ∃tr,cK Tryz.prog aG S.J (S.CR i) tr rs (λ_=>False) (born Tryz.prog ⟨.fn (.func 244) #[.pointer (aA ⟨S.Wg,0,aB⟩),.pointer (aA ⟨d,0,aB⟩),.pointer (aA ⟨c,0,aB⟩),.pointer (aA ⟨b3,0,aB⟩),.pointer (aA ⟨a,0,aB⟩)],#[]⟩) w:=by
 refine bK rfl (KC func244 (by simp[f244]) rfl) ?_;have D:(#[.pointer (aA ⟨S.Wg,0,aB⟩),.pointer (aA ⟨d,0,aB⟩),.pointer (aA ⟨c,0,aB⟩),.pointer (aA ⟨b3,0,aB⟩),.pointer (aA ⟨a,0,aB⟩)]:zA)++aD5 (f244.ntmps-5) aEn= #[.pointer (aA ⟨S.Wg,0,aB⟩),.pointer (aA ⟨d,0,aB⟩),.pointer (aA ⟨c,0,aB⟩),.pointer (aA ⟨b3,0,aB⟩),.pointer (aA ⟨a,0,aB⟩),aEn,aEn,aEn,aEn,aEn,aEn]:=by simp[f244,zEo]
 simp only[zAp,zAf,zAl,Nat.reduceAdd,zBd];rw[D];refine bK rfl (λ_=>zGm) ?_;refine bK rfl (λ_=>zGq) ?_;refine bK rfl (λ_=>stepG_defer rfl rfl (by simp[baseD]) rfl) ?_;refine bK rfl (λ_=>zGl) ?_;walk_nrm;show∃tr,cK Tryz.prog aG S.J (S.CR i) tr rs (λ_=>False) (G (Frame.at (baseD 244) (Act.mk #[.pointer (aA ⟨S.Wg,0,aB⟩),.pointer (aA ⟨d,0,aB⟩),.pointer (aA ⟨c,0,aB⟩),.pointer (aA ⟨b3,0,aB⟩),.pointer (aA ⟨a,0,aB⟩),aEn,aEn,aEn,aEn,aEn,aEn] [dcall 183 #[.pointer (aA ⟨S.Wg,0,aB⟩)]]) [.code (.region 1 pG aF)]) [root Tryz.prog]) w;refine Hk (by kernel_rfl) λt=> ?_;have B:pG.size=7:=by kernel_rfl
 have C:aD5 7 aG= #[aG,aG,aG,aG,aG,aG,aG]:=rfl;rw[B,C];refine RU v k m A (λh r=>S.XS h r) (λws q l cp s p o x e j u=> ?_) 7 aG aG aG aG aG aG aEn aEn aEn aEn aEn aEn (λ_=>False) w t (by decide) (λb m=>⟨id,y b m⟩) (λ_ _=>rfl) z (by simp) (by simp) (by simp) (by simp) (by simp) (by simp);refine⟨_,u,rfl,BT (.pointer (aA ⟨S.Wg,0,aB⟩)) d c b3 a [dcall 183 #[.pointer (aA ⟨S.Wg,0,aB⟩)]] [] [root Tryz.prog] (.chan (aA S.Cr)) s p o x (.agg #[.int aD at',.slice q l cp]) [6],.tuple #[],?_,?_⟩
 .rw[n];exact w6
 .exact ZZ S n g e j
end
end Go.Ga
namespace Go.Wg
open Go.Conc Go.RowKit Go.Conc.Lib Go.ConcR.Gen Go.ConcN Go.ConcN.Gen
open Go.ConcR (KK wgBlock WgAt stA smA rd wr mk Payload DC0)
variable {L:WgLink}
section
variable {P:zZ}{mn:Bool}{R:zW->zW->Prop}{F:zW->Prop}{Wg:Nat}{UT:zC}{VF:Act}{pF:zQ}{TJ:Nat}{oJ:List Nat}{TG:zI}{cs:zL}{Fin:zU}{mT:Nat}
def waitStart [Payload] (H:WgLib P L)(a:Cx L.tWg Wg R F)(w)(hF:F w/\WgLive L.tWg Wg w):
  On P mn R (gT P mn .disable (On P mn R (AnchWN L F Wg (UT.at VF (aN pF (TJ::oJ)::TG)) cs)))
   (G ((base L.wait).at ⟨#[.pointer (aA ⟨Wg,0,aB⟩)]++aD5 83 aEn,[]⟩ [.code (body_wait L)]) (UT.at VF (aN pF (TJ::oJ)::TG)::cs)) w:=by
 lib_facts;simp only[body_wait,waitFn,zCv];refine⟨200,?_⟩;walk_nrm;u_c zGm a.rely hF;u_cnd aF a.rely hF;u_reg a.rely hF;refine Goes.stop (λd h=> ?_);replace hF:=a.rely hF h;clear h;refine⟨rfl,_,stepG_mark0 .disable (by simp) rfl rfl (by k_ne) rfl H.f_disable (x_disable_n L) (x_disable_b L) (x_disable_x L) (x_disable_f L),200,?_⟩;walk_nrm;u_c zGl a.rely hF;u_c zHb a.rely hF;u_c stepG_loop a.rely hF;exact Goes.stop (λc b=>⟨_,rfl,by simp,by simp,a.rely hF b⟩)
def iy (P:zZ)(mn:Bool)(R:zW->zW->Prop)(Wg:Nat)(Fin:zU):zU:=On P mn R (gT P mn .enable (On P mn R (gT P mn (.acquire (stA Wg)) (On P mn R Fin))))
def waitRound [Payload] (H:WgLib P L)(x:Cx L.tWg Wg R F)(A:∀w,F w/\WgLive L.tWg Wg w->Goes P mn R DC0 Fin mT (G (UT.at (VF.put ((pF[TJ]?).bind (·.dst)) (.tuple #[])) (aN pF oJ::TG)) cs) w)
  (g) (w) (h:AnchWN L F Wg (UT.at VF (aN pF (TJ::oJ)::TG)) cs g w):
  On P mn R (jb P mn L.tWg Wg (iy P mn R Wg Fin) λv=>On P mn R (Vu P mn L.tWg Wg v
   (On P mn R (gT P mn (.write (smA Wg)) (On P mn R (Vs P mn L.tWg Wg (On P mn R (Pn P mn L.tWg Wg (iy P mn R Wg Fin)))))))
   (On P mn R (AnchWN L F Wg (UT.at VF (aN pF (TJ::oJ)::TG)) cs)))) g w:=by
 have r:= @x.rely;lib_facts;obtain⟨T,rfl,t,t0,hF⟩:=h;obtain⟨v0,v1,v2,v3,v4,v5,v6,v7,v8,v9,v10,v11,v12,v13,v14,v15,v16,v17,v18,v19,v20,v21,v22,v23,v24,v25,v26,v27,v28,v29,v30,v31,v32,v33,v34,v35,v36,v37,v38,v39,v40,v41,v42,Z,v44,v45,v46,Y,X,v49,v50,v51,W,v53,v54,v55,V,U,v58,v59,v60,Q,O,N,v64,M,v66,v67,K,J,v70,I,v72,E,D,v75,v76,v77,v78,v79,v80,C,v82,B,rfl⟩:=array84 T t;simp only[zEh,zCu,aEx]at t0;subst t0;refine⟨200,?_⟩;simp only[L7,body_wait,waitFn,zCv];u_c zHb r hF;u_c zGm r hF;u_reg r hF;iterate 3 (u_op r hF)
 u_call H.f_uLoad (nm_uLoad L) uLoadFn r hF;u_c zGm r hF;u_reg r hF;u_op r hF;u_c zGl r hF;u_c zGm r hF;u_reg r hF;iterate 3 (u_op r hF)
 refine Goes.stop (λp s=> ?_);replace hF:=r hF s;refine⟨rfl,λv hv a=> ?_⟩;obtain rfl|od:=zEe v
 .replace a:WgAt L.tWg Wg p 0 0:=by{simpa using a};refine⟨_,stepG_load_atomic rfl rfl (by k_ne) rfl H.f_loadU64 (x_loadU64_n L) (x_loadU64_b L) (x_loadU64_x L) aR (x_loadU64_f L) rfl a.cellSt,λ_=>⟨200,?_⟩,λh=>absurd rfl h⟩;walk_nrm;u_op r hF;u_c zGl r hF;u_c zGy r hF;u_leave1 H.f_uLoad r hF;u_op r hF;u_c zGl r hF;u_c zGm r hF;u_reg r hF;iterate 4 (u_op r hF)
  u_c zGl r hF;u_c zGm r hF;u_reg r hF;iterate 4 (u_op r hF)
  u_c zGl r hF;u_c zGm r hF;u_c zGm r hF;u_reg r hF;u_op r hF;u_op r hF;u_c zGl r hF;u_cnd aF r hF;u_c zGm r hF;u_cnd aF r hF;u_c zGm r hF;u_reg r hF;refine Goes.stop (λo c=> ?_);replace hF:=r hF c;clear c;refine⟨rfl,_,stepG_mark0 .enable (by simp) rfl rfl (by k_ne) rfl H.f_enable (x_enable_n L) (x_enable_b L) (x_enable_x L) (x_enable_f L),200,?_⟩;walk_nrm;u_c zGl r hF;u_reg r hF;u_op r hF;u_conv H.underlying_tWgP H.room_tWg (WgLive.cell0 hF.2).choose_spec r hF;refine Goes.stop (λm b=> ?_);replace hF:=r hF b;clear b;refine⟨rfl,_,stepG_markAt .acquire (by simp) rfl rfl (by k_ne) rfl H.f_acquire (x_acquire_n L) (x_acquire_b L) (x_acquire_x L) (x_acquire_f L) (by simp[Act.eval,stA]),⟨mT+60,?_⟩⟩;walk_nrm;u_c zGl r hF;u_c zGm r hF;u_c zGm r hF;u_reg r hF;iterate 8 (u_op r hF)
  u_skip r hF;u_skip r hF;u_op r hF;u_c zGl r hF;u_cnd aG r hF;u_c zGs r hF;u_c zGy r hF;u_leave0 H.f_wait r hF;exact(A _ hF).mono (by omega)
 .obtain⟨S,l⟩:∃S:Int,(v:Int)*KK=S:=⟨_,rfl⟩;have a1:S/4294967296=(v:Int):=by{rw[<-l];simp only[KK];omega};have b1:bits .and aR S 2147483648=0:=by{rw[<-l];have:=st_flag v 0 (by omega) (by omega);simpa [KK]using this};have b2:bits .and aR S 2147483647=0:=by{rw[<-l];have:=st_waiters v 0 (by omega) (by omega);simpa [KK]using this};have c1:IntKind.i32.wrap (v:Int)=(v:Int):=by{rw[aEE];omega};have w1:IntKind.u64.wrap (S+1)=S+1:=by{rw[aED,<-l];simp only[KK];omega};have q3:decide ((v:Int)<0)=aG:=zBv (by omega);have q4:decide (0<(v:Int))=aF:=zDd (by omega);have q5:((v:Int)==0)=aG:=by{simp;omega};have q6:decide ((v:Int)=0)=aG:=zBv (by omega);rw[l]at a;refine⟨_,stepG_load_atomic (v:=S) rfl rfl (by k_ne) rfl H.f_loadU64 (x_loadU64_n L) (x_loadU64_b L) (x_loadU64_x L) aR (x_loadU64_f L) rfl a.cellSt,λh0=>absurd h0 (by omega),λ_=>⟨200,?_⟩⟩;clear a;walk_nrm;u_op r hF;u_c zGl r hF;u_c zGy r hF;u_leave1 H.f_uLoad r hF;u_op r hF;u_c zGl r hF;u_c zGm r hF;u_reg r hF;iterate 4 (u_op r hF)
  u_c zGl r hF;u_c zGm r hF;u_reg r hF;iterate 4 (u_op r hF)
  u_c zGl r hF;u_c zGm r hF;u_c zGm r hF;u_reg r hF;u_op r hF;u_op r hF;u_c zGl r hF;u_cnd aG r hF;u_c zGs r hF;u_c zGm r hF;u_reg r hF;iterate 6 (u_op r hF)
  u_call H.f_uCas (nm_uCas L) uCasFn r hF;u_c zGm r hF;u_reg r hF;u_op r hF;u_c zGl r hF;u_c zGm r hF;u_reg r hF;iterate 5 (u_op r hF)
  refine Goes.stop (λi k=> ?_);replace hF:=r hF k;clear k;refine⟨rfl,λv' hv' a=>⟨λe=> ?_,λe=> ?_⟩⟩;{subst e;rw[l]at a⊢;refine⟨_,(stepG_cas_hit (v:=S) (n:=S+1) rfl rfl (by k_ne) rfl H.f_casU64 (x_casU64_n L) (x_casU64_b L) (x_casU64_x L) aR (x_casU64_f L) rfl rfl rfl a.cellSt (a.thaw 0)).trans (by rfl),200,?_⟩;replace hF:F (i.setCell (stA Wg) (.int aR (S+1)))/\WgLive L.tWg Wg (i.setCell (stA Wg) (.int aR (S+1))):=⟨x.BO hF.1,⟨_,_,a.setSt _⟩⟩;clear a;walk_nrm;u_op r hF;u_c zGl r hF;u_c zGy r hF;u_leave1 H.f_uCas r hF;u_c zGl r hF;u_cnd aF r hF;u_c zGm r hF;u_c zGm r hF;u_reg r hF;(iterate 4 (u_op r hF));u_c zGl r hF;u_cnd aF r hF;u_reg r hF;(iterate 3 (u_op r hF));u_conv H.underlying_tPU32 H.room_tU32 (WgLive.cell1 hF.2).choose_spec r hF;refine Goes.stop (λf d=> ?_);replace hF:=r hF d;clear d;refine⟨rfl,_,stepG_markAt .write (by simp) rfl rfl (by k_ne) rfl H.f_raceWrite (x_raceWrite_n L) (x_raceWrite_b L) (x_raceWrite_x L) (x_raceWrite_f L) (ad:=⟨Wg,1,aB⟩) (by simp[Act.eval]),200,?_⟩;walk_nrm;u_c zGl r hF;u_c zGm r hF;u_reg r hF;u_op r hF;u_c zGl r hF;u_c zGm r hF;u_c zGm r hF;u_reg r hF;(iterate 4 (u_op r hF));u_skip r hF;u_op r hF;u_c zGl r hF;u_cnd aG r hF;u_c zGs r hF;u_c zGm r hF;u_reg r hF;(iterate 4 (u_op r hF));refine Goes.stop (λf d=> ?_);replace hF:=r hF d;clear d;refine⟨rfl,rfl,λ⟨st,a⟩=>stepG_semacquire_wait rfl rfl rfl H.f_semacquire (x_semacquire_n L) (x_semacquire_b L) (x_semacquire_x L) (x_semacquire_f L) (by simp[Act.eval,smA]) a.cellSm,λu=> ?_⟩;refine⟨_,(stepG_semacquire (n:=1) rfl rfl (by k_ne) rfl H.f_semacquire (x_semacquire_n L) (x_semacquire_b L) (x_semacquire_x L) (x_semacquire_f L) (by simp[Act.eval,smA]) u.cellSm (by k_ne) (u.thaw 1)).trans (by rfl),200,?_⟩;replace hF:F (f.setCell (smA Wg) (.int aP 0))/\WgLive L.tWg Wg (f.setCell (smA Wg) (.int aP 0)):=⟨x.ba hF.1,⟨_,_,u.setSm 0⟩⟩;clear u;walk_nrm;u_c zGl r hF;u_c zGm r hF;u_reg r hF;(iterate 3 (u_op r hF));u_call H.f_uLoad (nm_uLoad L) uLoadFn r hF;u_c zGm r hF;u_reg r hF;u_op r hF;u_c zGl r hF;u_c zGm r hF;u_reg r hF;(iterate 3 (u_op r hF));refine Goes.stop (λz j=> ?_);replace hF:=r hF j;clear j;refine⟨rfl,λa=>⟨_,stepG_load_atomic (v:=0) rfl rfl (by k_ne) rfl H.f_loadU64 (x_loadU64_n L) (x_loadU64_b L) (x_loadU64_x L) aR (x_loadU64_f L) rfl a.cellSt,200,?_⟩⟩;clear a;walk_nrm;u_op r hF;u_c zGl r hF;u_c zGy r hF;u_leave1 H.f_uLoad r hF;u_op r hF;u_op r hF;u_c zGl r hF;u_c zGm r hF;u_cnd aF r hF;u_c zGm r hF;u_reg r hF;refine Goes.stop (λo c=> ?_);replace hF:=r hF c;clear c;refine⟨rfl,_,stepG_mark0 .enable (by simp) rfl rfl (by k_ne) rfl H.f_enable (x_enable_n L) (x_enable_b L) (x_enable_x L) (x_enable_f L),200,?_⟩;walk_nrm;u_c zGl r hF;u_reg r hF;u_op r hF;u_conv H.underlying_tWgP H.room_tWg (WgLive.cell0 hF.2).choose_spec r hF;refine Goes.stop (λm b=> ?_);replace hF:=r hF b;clear b;refine⟨rfl,_,stepG_markAt .acquire (by simp) rfl rfl (by k_ne) rfl H.f_acquire (x_acquire_n L) (x_acquire_b L) (x_acquire_x L) (x_acquire_f L) (by simp[Act.eval,stA]),⟨mT+60,?_⟩⟩;walk_nrm;u_c zGl r hF;u_c zGm r hF;u_c zGm r hF;u_reg r hF;u_op r hF;u_c zGl r hF;u_cnd aG r hF;u_c zGs r hF;u_c zGy r hF;u_leave0 H.f_wait r hF;exact(A _ hF).mono (by omega)};{refine⟨_,stepG_cas_miss (v:=(v':Int)*KK) (old:=S) (n:=S+1) rfl rfl (by k_ne) rfl H.f_casU64 (x_casU64_n L) (x_casU64_b L) (x_casU64_x L) aR (x_casU64_f L) rfl rfl rfl a.cellSt (a.thaw 0) (by rw[<-l];simp only[KK];omega),200,?_⟩;clear a;walk_nrm;u_op r hF;u_c zGl r hF;u_c zGy r hF;u_leave1 H.f_uCas r hF;u_c zGl r hF;u_cnd aG r hF;u_c zGs r hF;u_c stepG_inBlock r hF;u_c stepG_inLoop r hF;exact Goes.stop (λy q=>⟨_,rfl,by simp,by simp,r hF q⟩)}
end
end Go.Wg
namespace Go.Ga
open Go.Conc Go.Ren Go.Proofs Go.RowKit Go.Conc.Lib Go.Wg
open Go.ConcR (KK WgAt stA smA DC0 Payload)
open Go.ConcN (WgLive)
open Go.ConcR.Gen (body_wait)
def kZ (t:zD)(c:Nat):Deferred:=⟨.builtin .close #[t] 0 #[aG],#[.chan (aA c)]⟩
section
variable {P:zZ}
def step_shut {b:zC}{a todo cs ds t c cap s r buf tm w}(m)(l:a.defers=kZ t c::ds)(i:w.heap[c]? =aA (.chan cap buf aG s r tm))(k:(P.funcs[b.fn]?).any (·.norace)=aG):
  stepG P m (G {b.at a todo with mode:= .returning} cs) w= .go (G {b.at ⟨a.tmps,ds⟩ todo with mode:= .returning} cs) (w.setChan c cap buf aF s r tm) (closeEvents c):=by
 have g:(Builtin.close_ #[t] 0 #[.chan (aA c)]).run P w= .ok (.tuple #[]) (w.setChan c cap buf aF s r tm):=run_close_open _ _ i;have h:(Builtin.close_ #[t] 0 #[.chan (aA c)]).events P w #[]=closeEvents c:=by rw[events_close_open _ _ i];rfl
 have d:(invoke (.builtin .close #[t] 0 #[aG]) #[.chan (aA c)]).runT P w #[]=(.ok (.value (.tuple #[])) (w.setChan c cap buf aF s r tm),closeEvents c):=by rw[Sem.runT_eq];have o:(invoke (.builtin .close #[t] 0 #[aG]) #[.chan (aA c)]).run P w= .ok (.value (.tuple #[])) (w.setChan c cap buf aF s r tm):=by{simp[invoke,builtin,g,go_sem]};have n:(invoke (.builtin .close #[t] 0 #[aG]) #[.chan (aA c)]).events P w #[]=closeEvents c:=by{simp[invoke,builtin,g,h,go_sem]};rw[o,n]
 have j:seen P b.fn (closeEvents c)=closeEvents c:=seen_eq k (by intro e h f;simp only[closeEvents,zAs,zAg,zAr,zCd]at h;obtain rfl|rfl:=h<;>simp);simp only[stepG,G,unwind,Frame.at,l,kZ,callDeferred,Bool.false_and,zBe,zDe,d,j,aEC];rw[zCq]
def rI {b:zC}{a ops i rest k cs o j t c w}(m)(l:ops[i]? =aA o)(n:Region.wanted o (yielded ops a.tmps)=aF)(q:b.kind≠.early)(d:o.op= .defer {callee:= .builtin .close,args:= #[.tmp j],argTypes:= #[t]})(h:o.type=0)(f:a.eval (.tmp j)= .chan (aA c)):
  stepG P m (G (b.at a (aN ops (i::rest)::k)) cs) w= .go (G (b.at (Act.put ⟨a.tmps,kZ t c::a.defers⟩ o.dst aEn) (aN ops rest::k)) cs) w #[]:=by
 simp only[Act.eval,zAu]at f;have p:(aEd a.eval o).run P w= .ok (.defer (kZ t c)) w:=by unfold aEd;simp only[d];simp[resolve,f,kZ,h,go_sem]
 have r:(aEd a.eval o).events P w #[]= #[]:=by unfold aEd;simp only[d];simp[resolve,f,h,go_sem]
 have e:(b.at ⟨a.tmps,kZ t c::a.defers⟩ (aN ops (i::rest)::k)).finish aEn=b.at (Act.put ⟨a.tmps,kZ t c::a.defers⟩ o.dst aEn) (aN ops rest::k):=by rw[Frame.finish_at,l];rfl
 have g:(b.kind==CallKind.early)=aG:=by simpa using q
 rw[stepG_oper l n,<-e];simp[stepG.apply,p,r,G,Frame.at,g,aEC,seen_none]
end
noncomputable def Xj:zQ:=match f245.body with|some (.seq _ (.region _ ops _))=>ops|_=> #[]
noncomputable abbrev frC (b6 Wg Cd:Nat):zC:=(baseD 245).at ⟨#[.pointer (aA ⟨b6,0,aB⟩),.pointer (aA ⟨Wg,0,aB⟩),.chan (aA Cd),aEn],[kZ 232 Cd]⟩ (aN Xj [0]::[])
noncomputable def Cs (b6 Wg Cd:Nat):zU:=Go.ConcN.Gen.AnchWN Tryz.link (λ_=>True) Wg (frC b6 Wg Cd) [root Tryz.prog]
section
variable(S:Sp){b6:Nat}
def ZI (h:S.P=Tryz.prog)(w):S.Goes S.iz 3 (G ((baseD 245).at ⟨#[.pointer (aA ⟨b6,0,aB⟩),.pointer (aA ⟨S.Wg,0,aB⟩),.chan (aA S.Cd),.tuple #[]],[kZ 232 S.Cd]⟩ (aN Xj []::[])) [root Tryz.prog]) w:=by obtain⟨P,ty,Wg,Cr,Cd,n,m0,Ok,XS,M,Fin,pP,rP⟩:=S;dsimp only at h;subst h;refine sQ rfl (λ_=>zGl) λc f=> ?_;refine sQ rfl (λ_=>stepG_end) λb e=> ?_;refine Goes.stop λa d=>⟨rfl,rfl,λcap s r t g=>⟨_,step_shut aG rfl g (by kernel_rfl),2,EP rfl rfl func245 rfl⟩⟩
def Hz (c:S.P=Tryz.prog)(h:S.ty=Tryz.link.tWg)(d:S.pP=Cs b6 S.Wg S.Cd)(g)(w)(a:S.pP g w):g.status= .running/\S.On S.lh g w:=by
 have b:=ZI S (b6:=b6) c;rw[d]at a;obtain⟨P,ty,Wg,Cr,Cd,n,m0,Ok,XS,M,Fin,pP,rP⟩:=S;dsimp only at c h d a;subst c;subst h;subst d;refine⟨?_,?_⟩
 .obtain⟨T,rfl,_⟩:=a;rfl
 .exact waitRound Tryz.Af ⟨λ_ r=>⟨trivial,r⟩,λ_=>trivial,λ_=>trivial⟩ (λw _=>b w) g w a
def UP (k:S.P=Tryz.prog)(h:S.ty=Tryz.link.tWg)(l:S.pP=Cs b6 S.Wg S.Cd){rs w}(c:rs b6)(d:w.cell? ⟨b6,0,aB⟩=aA (.chan (aA S.Cd)))(g:S.J w):
  ∃tr,cK Tryz.prog aG S.J (λ_ _=>S.Zm) tr rs (λ_=>False) (born Tryz.prog ⟨.fn (.func 245) #[.pointer (aA ⟨b6,0,aB⟩),.pointer (aA ⟨S.Wg,0,aB⟩)],#[]⟩) w:=by
 obtain⟨P,ty,Wg,Cr,Cd,n,m0,Ok,XS,M,Fin,pP,rP⟩:=S;dsimp only at k h l d g⊢;subst k;subst h;subst l;refine bK rfl (KC func245 (by simp[f245]) rfl) ?_;have q:(#[.pointer (aA ⟨b6,0,aB⟩),.pointer (aA ⟨Wg,0,aB⟩)]:zA)++aD5 (f245.ntmps-2) aEn= #[.pointer (aA ⟨b6,0,aB⟩),.pointer (aA ⟨Wg,0,aB⟩),aEn,aEn]:=by simp[f245,zEo]
 simp only[zAp,zAf,zAl,Nat.reduceAdd,zBd];rw[q];refine bK rfl (λ_=>zGm) ?_;refine bK rfl (λ_=>zGq) ?_;simp only[zAp,zAf,zAl,Nat.reduceAdd,zBd,List.range,List.range.loop];refine cV (.chan (aA Cd)) rfl rfl (by simp[baseD]) (λa r _=> ?_) (λa r _ e i=> ?_) ?_
 .have b:=(bY (aH c) r 0).trans d;go_simp
 .have b:=(bY (aH c) r 0).trans d;simp[go_sem,b]at i;subst i;exact aH ⟨_,_,_,rfl,aI ⟨rfl,c⟩⟩
 walk_nrm;refine bK rfl (λ_=>rI aG rfl rfl (by simp[baseD]) rfl rfl rfl) ?_;refine bK rfl (λ_=>zGl) ?_;refine bK rfl (λ_=>zGq) ?_;walk_nrm;have o:Xj[0]? =aA {dst:=aA 3,op:= .call {callee:= .value (.func 185),args:= #[.tmp 1],argTypes:= #[240]},type:=0,pos:= "gather.go:32",after:= #[],guard:=aB}:=rfl;refine GP (f:=185) (args:= #[.pointer (aA ⟨Wg,0,aB⟩)]) o rfl (by simp[baseD]) (λa=> ?_) (λa=> ?_) ?_
 .simp[aEd,resolve,aEe,invoke,callFunc,func185,f185,go_sem]
 .simp[aEd,resolve,aEe,invoke,callFunc,func185,f185,go_sem]
 rw[enter_at #[.pointer (aA ⟨Wg,0,aB⟩)] func185 rfl];obtain⟨m,p⟩:=waitStart Tryz.Af ⟨λ_ r=>⟨trivial,r⟩,λ_=>trivial,λ_=>trivial⟩ w ⟨trivial,g⟩;obtain⟨tr,c⟩:=xU (λ_ _ _ j=>j) p;exact⟨tr,c.mono λ_ _ _ _ x=>x.2.2⟩
end
noncomputable def L2:Code:=match f240.body with|some (.seq _ (.seq _ (.seq _ (.seq _ (.seq _ (.seq _ (.seq _ (.seq _ (.block _ (.loop b))))))))))=>b|_=> .skip
noncomputable def pS:zQ:=match L2 with| .block _ (.seq _ (.seq (.region _ ops _) _))=>ops|_=> #[]
noncomputable def C4:Code:=match L2 with| .block _ (.seq _ (.seq _ c))=>c|_=> .skip
noncomputable abbrev kP:zI:=[.code C4,.inBlock 3,.inLoop L2,.inBlock 2]
section
variable {J:zW->Prop}{St:(zP)->(zP)->zU}{rs ws:zP}{w:zW}{ds:List Deferred}{cs:zL}{b5 b6 bo N Cr Cd:Nat}{y0 y1 y2 y3 y4 y5 y6 y7 y8 y9 Wm VU VT Py Px Pw Pv Pu Im Il Ik Ij Ii Ih Pt Ps Pr Wl Wj uj ui Zo Wi Wh We Wd Wc Wb Wa Vz Vy Vx Vw:zY}
def RM (w):stepG Tryz.prog aF (G ((base 240).at ⟨#[y0,y1,y2,y3,y4,.pointer (aA ⟨b5,0,aB⟩),.pointer (aA ⟨b6,0,aB⟩),y7,y8,y9,.slice (aA ⟨bo,0,aB⟩) N N,VU,VT,Py,Px,Pw,Pv,Pu,Im,Il,Ik,Ij,Ii,Ih,Pt,Ps,Pr,Wl,Wj,.chan (aA Cr),.chan (aA Cd),Zo,Wi,Wh,We,Wd,Wc,Wb,Wa,Vz,Vy,Vx,Vw],ds⟩ (aN pS [0,1,2,3]::kP)) cs) w=
  .comm (G ((base 240).at ⟨#[y0,y1,y2,y3,y4,.pointer (aA ⟨b5,0,aB⟩),.pointer (aA ⟨b6,0,aB⟩),y7,y8,y9,.slice (aA ⟨bo,0,aB⟩) N N,VU,VT,Py,Px,Pw,Pv,Pu,Im,Il,Ik,Ij,Ii,Ih,Pt,Ps,Pr,Wl,Wj,.chan (aA Cr),.chan (aA Cd),Zo,Wi,Wh,We,Wd,Wc,Wb,Wa,Vz,Vy,Vx,Vw],ds⟩ (aN pS [0,1,2,3]::kP)) cs) #[rcase Cr (.agg #[.int aD 0,.slice aB 0 0]),rcase Cd (.agg #[])] aF .select w #[]:=by
 have h:pS[0]? =aA {dst:=aA 31,op:= .select #[{chan:= .tmp 29,send:=aB,elem:=297},{chan:= .tmp 30,send:=aB,elem:=233}] aF,type:=0,pos:= "gather.go:38",after:= #[],guard:=aB}:=rfl;have e:=stepG_comm (P:=Tryz.prog) (main:=aF) (b:=base 240) (a:=⟨#[y0,y1,y2,y3,y4,.pointer (aA ⟨b5,0,aB⟩),.pointer (aA ⟨b6,0,aB⟩),y7,y8,y9,.slice (aA ⟨bo,0,aB⟩) N N,VU,VT,Py,Px,Pw,Pv,Pu,Im,Il,Ik,Ij,Ii,Ih,Pt,Ps,Pr,Wl,Wj,.chan (aA Cr),.chan (aA Cd),Zo,Wi,Wh,We,Wd,Wc,Wb,Wa,Vz,Vy,Vx,Vw],ds⟩) (k:=kP) (cs:=cs) (rest:=[1,2,3]) (w:=w) (cases:= #[rcase Cr (.agg #[.int aD 0,.slice aB 0 0]),rcase Cd (.agg #[])]) (blocking:=aF) (shape:= .select) (w':=w) h rfl (by simp[base]) (by simp[aEd,rcase,go_sem]);rw[e];have d:(aEd (Act.eval ⟨#[y0,y1,y2,y3,y4,.pointer (aA ⟨b5,0,aB⟩),.pointer (aA ⟨b6,0,aB⟩),y7,y8,y9,.slice (aA ⟨bo,0,aB⟩) N N,VU,VT,Py,Px,Pw,Pv,Pu,Im,Il,Ik,Ij,Ii,Ih,Pt,Ps,Pr,Wl,Wj,.chan (aA Cr),.chan (aA Cd),Zo,Wi,Wh,We,Wd,Wc,Wb,Wa,Vz,Vy,Vx,Vw],ds⟩) {dst:=aA 31,op:= .select #[{chan:= .tmp 29,send:=aB,elem:=297},{chan:= .tmp 30,send:=aB,elem:=233}] aF,type:=0,pos:= "gather.go:38",after:= #[],guard:=aB}).events Tryz.prog w #[]= #[]:=by simp[aEd,go_sem]
 rw[listed_none d]
def Mt {i q l cp v}(hi:i<N)(FQ:v.size=N)(B:rs b5)(A:rs b6)(c5:w.cell? ⟨b5,0,aB⟩=aA (.chan (aA Cr)))(c6:w.cell? ⟨b6,0,aB⟩=aA (.chan (aA Cd)))
  (n:ws bo) (D:w.heap[bo]? =aA (aJ v 283 (0,0))) (P:∀b,rs b->¬ws b/\b<w.heap.size) (fy:bo<w.heap.size) (hN:N<9223372036854775808)
  (hn:∀(t)(w')(y0 y1 y2 y3 y4 y5 y6 y7 y8 y9 Wm VU VT Py Px Pw Pv Pu Im Il Ik Ij Ii Ih Pt Ps Pr Wl Wj uj ui Zo Wi Wh We Wd Wc Wb Wa Vz Vy Vx Vw:zY),(∀b,ws b->t b)->(∀b,rs b->¬t b/\b<w'.heap.size)->(∀b,rs b->w'.heap[b]? =w.heap[b]?)->(∀b,ws b->b≠bo->b<w.heap.size->w'.heap[b]? =w.heap[b]?)->w'.heap[bo]? =aA (aJ (v.setIfInBounds i (.slice q l cp)) 283 (0,0))->w.heap.size<=w'.heap.size->w'.tape=w.tape->w'.os=w.os->w'.output=w.output->
   ∃tr,cK Tryz.prog aF J St tr rs t (G ((base 240).at ⟨#[y0,y1,y2,y3,y4,.pointer (aA ⟨b5,0,aB⟩),.pointer (aA ⟨b6,0,aB⟩),y7,y8,y9,.slice (aA ⟨bo,0,aB⟩) N N,VU,VT,Py,Px,Pw,Pv,Pu,Im,Il,Ik,Ij,Ii,Ih,Pt,Ps,Pr,Wl,Wj,.chan (aA Cr),.chan (aA Cd),Zo,Wi,Wh,We,Wd,Wc,Wb,Wa,Vz,Vy,Vx,Vw],ds⟩ (aN pS [0,1,2,3]::kP)) cs) w'):
  ∃tr,cK Tryz.prog aF J St tr rs ws (G ((base 240).at ⟨#[y0,y1,y2,y3,y4,.pointer (aA ⟨b5,0,aB⟩),.pointer (aA ⟨b6,0,aB⟩),y7,y8,y9,.slice (aA ⟨bo,0,aB⟩) N N,VU,VT,Py,Px,Pw,Pv,Pu,Im,Il,Ik,Ij,Ii,Ih,Pt,Ps,Pr,Wl,Wj,.chan (aA Cr),.chan (aA Cd),.tuple #[.int aD 0,.bool aF,.agg #[.int aD i,.slice q l cp],.agg #[]],Wi,Wh,We,Wd,Wc,Wb,Wa,Vz,Vy,Vx,Vw],ds⟩ (aN pS [1,2,3]::kP)) cs) w:=by
 simp only[kP,pS,C4,L2,f240];refine cV (.int aD 0) rfl rfl (by simp[base]) (λa r _=>by go_simp) (λa r _ e c=>by simp[go_sem]at c) ?_;walk_nrm;refine cV (.bool aF) rfl rfl (by simp[base]) (λa r _=>by go_simp) (λa r _ e c=>by simp[go_sem]at c) ?_;walk_nrm;refine cV (.bool aG) rfl rfl (by simp[base]) (λa r _=>by go_simp) (λa r _ e c=>by simp[go_sem]at c) ?_;walk_nrm;refine bK rfl (λ_=>zGl) ?_;refine bK rfl (λ_=>zHb) ?_;refine bK rfl (λ_=>stepG_cond rfl) ?_;simp only[zCs];refine bK rfl (λ_=>zGm) ?_;refine bK rfl (λ_=>zGq) ?_;simp only[zAp,zAf,zAl,Nat.reduceAdd,zBd,List.range,List.range.loop];refine cV (.agg #[.int aD i,.slice q l cp]) rfl rfl (by simp[base]) (λa r _=>by go_simp) (λa r _ e c=>by simp[go_sem]at c) ?_;walk_nrm;refine MA (λa=> .pointer (aA ⟨a.heap.size,0,aB⟩)) (λa=>a.alloc (aJ #[.int aD 0,.slice aB 0 0] 297)) rfl rfl (by simp[base]) λa r j=>⟨by go_simp,qT ws a _,λe c=>by simp[go_sem]at c,?_⟩;walk_nrm;have X:(a.alloc (aJ #[.int aD 0,.slice aB 0 0] 297)).heap[a.heap.size]? =aA (aJ #[.int aD 0,.slice aB 0 0] 297 (0,0)):=pZ a _;have h:grown ws a (a.alloc (aJ #[.int aD 0,.slice aB 0 0] 297)) a.heap.size:=aI ⟨zAb _,by rw[eP];omega⟩;have f:∀b,ws b->grown ws a (a.alloc (aJ #[.int aD 0,.slice aB 0 0] 297)) b:=λb k=>aH k;have O:∀b,rs b->¬grown ws a (a.alloc (aJ #[.int aD 0,.slice aB 0 0] 297)) b/\b<(a.alloc (aJ #[.int aD 0,.slice aB 0 0] 297)).heap.size:=λb k=>by have h1:=P b k;have h2:=r.size;refine⟨λx=>x.elim h1.1 λy=> ?_,?_⟩;{omega};{rw[eP];omega}
 have Z:∀b,rs b\/ws b->b<w.heap.size->(a.alloc (aJ #[.int aD 0,.slice aB 0 0] 297)).heap[b]? =w.heap[b]? :=λb k hl=>by rw[<-r.cM b k];exact alloc_old a _ (zAd hl r.size)
 have oo:w.heap.size<=(a.alloc (aJ #[.int aD 0,.slice aB 0 0] 297)).heap.size:=by have h2:=r.size;rw[eP];omega
 have af:=r.size;have U:(a.alloc (aJ #[.int aD 0,.slice aB 0 0] 297)).tape=w.tape:=r.tape;have L:(a.alloc (aJ #[.int aD 0,.slice aB 0 0] 297)).os=w.os:=r.os;have H:(a.alloc (aJ #[.int aD 0,.slice aB 0 0] 297)).output=w.output:=r.output;have aA9:a.heap.size<(a.alloc (aJ #[.int aD 0,.slice aB 0 0] 297)).heap.size:=by rw[eP];omega
 clear j r;generalize grown ws a (a.alloc (aJ #[.int aD 0,.slice aB 0 0] 297))=s at*;generalize a.alloc (aJ #[.int aD 0,.slice aB 0 0] 297)=w2 at*;generalize a.heap.size=g at*;clear a;refine GO (λa=>(a.setCell ⟨g,0,aB⟩ (.int aD i)).setCell ⟨g,1,aB⟩ (.slice q l cp)) rfl rfl (by simp[base]) λa r j=>⟨?_,?_,?_,?_⟩
 .have d:=(r.cM g (aI h)).trans X;have m:=bC d 0;have k1:=cR d 0;have M:=cY d 0 (.int aD i);have k2:=bC M 1;have k3:=cR M 1;go_simp
 .exact⟨λb k hx=>(cE _ _ λe=>hx (by rw[show b=g from e];exact h)).trans (cE _ _ λe=>hx (by rw[show b=g from e];exact h)),by rw[dY,dY];exact zAb _,by simp[World.setCell],by simp[World.setCell],by simp[World.setCell]⟩
 .intro e c;have d:=(r.cM g (aI h)).trans X;have m:=bC d 0;have k1:=cR d 0;have k2:=bC d 1;have k3:=cR d 1;rw[FU];simp[go_sem,m,k1,k2,k3]at c;obtain rfl|rfl:=c
  .exact aH ⟨_,_,_,rfl,aH h⟩
  .exact aH ⟨_,_,_,rfl,aH h⟩
 walk_nrm;have d:=cY (cY ((r.cM g (aI h)).trans X) 0 (.int aD i)) 1 (.slice q l cp);rw[FU];simp only[zBr,zDg,zCy]at d;have p:∀b,rs b\/ws b->b<w.heap.size->((a.setCell ⟨g,0,aB⟩ (.int aD i)).setCell ⟨g,1,aB⟩ (.slice q l cp)).heap[b]? =w.heap[b]? :=λb k hl=>by rw[cE _ _ (show b≠(⟨g,1,aB⟩:Addr).block from by show b≠g;omega),cE _ _ (show b≠(⟨g,0,aB⟩:Addr).block from by show b≠g;omega),r.cM b (k.imp id (f b))];exact Z b k hl
 have aAJ:w2.heap.size<=((a.setCell ⟨g,0,aB⟩ (.int aD i)).setCell ⟨g,1,aB⟩ (.slice q l cp)).heap.size:=by rw[dY,dY];exact r.size
 have T:((a.setCell ⟨g,0,aB⟩ (.int aD i)).setCell ⟨g,1,aB⟩ (.slice q l cp)).tape=w.tape:=by simp only[World.setCell];exact r.tape.trans U
 have K:((a.setCell ⟨g,0,aB⟩ (.int aD i)).setCell ⟨g,1,aB⟩ (.slice q l cp)).os=w.os:=by simp only[World.setCell];exact r.os.trans L
 have F:((a.setCell ⟨g,0,aB⟩ (.int aD i)).setCell ⟨g,1,aB⟩ (.slice q l cp)).output=w.output:=by simp only[World.setCell];exact r.output.trans H
 clear r j;generalize(a.setCell ⟨g,0,aB⟩ (.int aD i)).setCell ⟨g,1,aB⟩ (.slice q l cp)=w3 at*;clear a;have R:w3.cell? ⟨b5,0,aB⟩=aA (.chan (aA Cr)):=by have e:=p b5 (aH B) (P b5 B).2;simp only[World.cell?]at c5⊢;rw[e];exact c5
 have Q:w3.cell? ⟨b6,0,aB⟩=aA (.chan (aA Cd)):=by have e:=p b6 (aH A) (P b6 A).2;simp only[World.cell?]at c6⊢;rw[e];exact c6
 have u:=(p bo (aI n) fy).trans D;refine bK rfl (λ_=>zGl) ?_;refine bK rfl (λ_=>zGq) ?_;simp only[zAp,zAf,zAl,Nat.reduceAdd,zBd,List.range,List.range.loop];refine cV (.slice (aA ⟨bo,0,aB⟩) N N) rfl rfl (by simp[base]) (λa r _=>by go_simp) (λa r _ e c=>by simp[go_sem]at c) ?_;walk_nrm;refine cV (.pointer (aA ⟨g,0,aB⟩)) rfl rfl (by simp[base]) (λa r _=>by go_simp) (λa r _ e c=>by simp[go_sem]at c) ?_;walk_nrm;refine cV (.int aD i) rfl rfl (by simp[base]) (λa r _=> ?_) (λa r _ e c=> ?_) ?_
 .have m:=(bY (aI h) r 0).trans (bC d 0);go_simp
 .have m:=(bY (aI h) r 0).trans (bC d 0);simp[go_sem,m]at c;subst c;exact aH ⟨_,_,_,rfl,aH h⟩
 walk_nrm;refine cV (.pointer (aA ⟨g,1,aB⟩)) rfl rfl (by simp[base]) (λa r _=>by go_simp) (λa r _ e c=>by simp[go_sem]at c) ?_;walk_nrm;refine cV (.slice q l cp) rfl rfl (by simp[base]) (λa r _=> ?_) (λa r _ e c=> ?_) ?_
 .have m:=(bY (aI h) r 1).trans (bC d 1);go_simp
 .have m:=(bY (aI h) r 1).trans (bC d 1);simp[go_sem,m]at c;subst c;exact aH ⟨_,_,_,rfl,aH h⟩
 walk_nrm;have Mo:¬((i:Int)<0):=by omega
 have Ve:(i:Int)<N:=by omega
 refine cV (.pointer (aA ⟨bo,i,aB⟩)) rfl rfl (by simp[base]) (λa r _=> ?_) (λa r _ e c=> ?_) ?_
 .go_simp
 .have e2:(Instr.indexAt 287 (.slice (aA ⟨bo,0,aB⟩) N N) (.int aD i)).events Tryz.prog a #[]= #[]:=events_indexAt_slice 287 ⟨bo,0,aB⟩ N N aD i (by kernel_rfl) ⟨by omega,Ve⟩;simp[go_sem,e2]at c
 walk_nrm;refine GO (λa=>a.setCell ⟨bo,i,aB⟩ (.slice q l cp)) rfl rfl (by simp[base]) λa r j=>⟨?_,GG s a _ (f bo n),?_,?_⟩
 .have o:=(r.cM bo (aI (f bo n))).trans u;have m:=bC o i;have k1:=cR o i;have k2:v[i]? =aA v[i]:=zAj (by omega);rw[k2]at m;go_simp
 .intro e c;have o:=(r.cM bo (aI (f bo n))).trans u;have m:=bC o i;have k1:=cR o i;have k2:v[i]? =aA v[i]:=zAj (by omega);rw[k2]at m;rw[kX];simp[go_sem,m,k1]at c;subst c;exact aH ⟨_,_,_,rfl,aH (f bo n)⟩
 walk_nrm;rw[kX];have V:=cY ((r.cM bo (aI (f bo n))).trans u) i (.slice q l cp);have z:∀b,rs b->(a.setCell ⟨bo,i,aB⟩ (.slice q l cp)).heap[b]? =w.heap[b]? :=λb k=>by rw[cE _ _ (show b≠(⟨bo,i,aB⟩:Addr).block fromλe=>(P b k).1 (by rw[show b=bo from e];exact n)),r.cM b (aH k)];exact p b (aH k) (P b k).2
 have Y:∀b,ws b->b≠bo->b<w.heap.size->(a.setCell ⟨bo,i,aB⟩ (.slice q l cp)).heap[b]? =w.heap[b]? :=λb k W hl=>by rw[cE _ _ (show b≠(⟨bo,i,aB⟩:Addr).block from W),r.cM b (aI (f b k))];exact p b (aI k) hl
 have hd4:∀b,rs b->¬s b/\b<(a.setCell ⟨bo,i,aB⟩ (.slice q l cp)).heap.size:=λb k=>⟨(O b k).1,by rw[dY];have:=(O b k).2;have:=r.size;omega⟩;have C:w.heap.size<=(a.setCell ⟨bo,i,aB⟩ (.slice q l cp)).heap.size:=by rw[dY];have:=r.size;omega
 have S:(a.setCell ⟨bo,i,aB⟩ (.slice q l cp)).tape=w.tape:=by simp only[World.setCell];exact r.tape.trans T
 have I:(a.setCell ⟨bo,i,aB⟩ (.slice q l cp)).os=w.os:=by simp only[World.setCell];exact r.os.trans K
 have E:(a.setCell ⟨bo,i,aB⟩ (.slice q l cp)).output=w.output:=by simp only[World.setCell];exact r.output.trans F
 clear r j;generalize a.setCell ⟨bo,i,aB⟩ (.slice q l cp)=w4 at*;clear a;have R:w4.cell? ⟨b5,0,aB⟩=aA (.chan (aA Cr)):=by have e:=z b5 B;simp only[World.cell?]at c5⊢;rw[e];exact c5
 have Q:w4.cell? ⟨b6,0,aB⟩=aA (.chan (aA Cd)):=by have e:=z b6 A;simp only[World.cell?]at c6⊢;rw[e];exact c6
 refine bK rfl (λ_=>zGl) ?_;iterate 2 (refine bK rfl (λ_=>stepG_inBlock) ?_)
 refine bK rfl (λ_=>stepG_inLoop) ?_;refine bK rfl (λ_=>zHb) ?_;iterate 2 (refine bK rfl (λ_=>zGm) ?_)
 refine bK rfl (λ_=>zGq) ?_;simp only[zAp,zAf,zAl,Nat.reduceAdd,zBd,List.range,List.range.loop];refine cV (.chan (aA Cr)) rfl rfl (by simp[base]) (λa r _=> ?_) (λa r _ e c=> ?_) ?_
 .have m:=(bY (aH B) r 0).trans R;go_simp
 .have m:=(bY (aH B) r 0).trans R;simp[go_sem,m]at c;subst c;exact aH ⟨_,_,_,rfl,aI ⟨rfl,B⟩⟩
 walk_nrm;refine bK rfl (λ_=>zGl) ?_;refine bK rfl (λ_=>zGq) ?_;simp only[zAp,zAf,zAl,Nat.reduceAdd,zBd,List.range,List.range.loop];refine cV (.chan (aA Cd)) rfl rfl (by simp[base]) (λa r _=> ?_) (λa r _ e c=> ?_) ?_
 .have m:=(bY (aH A) r 0).trans Q;go_simp
 .have m:=(bY (aH A) r 0).trans Q;simp[go_sem,m]at c;subst c;exact aH ⟨_,_,_,rfl,aI ⟨rfl,A⟩⟩
 walk_nrm;refine bK rfl (λ_=>zGl) ?_;refine bK rfl (λ_=>zGm) ?_;refine bK rfl (λ_=>zGq) ?_;simp only[zAp,zAf,zAl,Nat.reduceAdd,zBd,List.range,List.range.loop];exact hn s w4 _ _ _ _ _ aEn aEn _ _ _ aEn _ _ _ _ _ _ _ _ _ _ _ _ _ _ _ _ _ _ aEn aEn _ _ _ _ _ _ _ _ _ _ _ _ f hd4 z Y V C S I E
end
structure Gt where
 N:Nat
 b5:Nat
 b6:Nat
 Cr:Nat
 Cd:Nat
 ds:List Deferred
 cs:zL
 Rw:Nat->zO->Nat->Nat->(zP)->zW->Prop
 rwr:∀{i q l cp h w w₁},Rw i q l cp h w->(∀b,h b->w₁.heap[b]? =w.heap[b]?)->Rw i q l cp h w₁
 K:zW->Prop
 old:zP
 lo:Nat
structure Gt.Ok (T:Gt)(rs ws:zP)(bo:Nat)(Iz:zA)(R:zP)(w:zW):Prop where
 r5:rs T.b5
 r6:rs T.b6
 c5:w.cell? ⟨T.b5,0,aB⟩=aA (.chan (aA T.Cr))
 c6:w.cell? ⟨T.b6,0,aB⟩=aA (.chan (aA T.Cd))
 wo:ws bo
 out:w.heap[bo]? =aA (aJ Iz 283 (0,0))
 size:Iz.size=T.N
 lt:bo<w.heap.size
 zM:∀b,rs b->¬ws b/\b<w.heap.size
 some:∀i,i<T.N->R i->∃q l cp h,Iz[i]? =aA (.slice q l cp)/\(∀b,h b->ws b/\b≠bo/\b<w.heap.size/\T.lo<=b)/\T.Rw i q l cp h w
 held:T.K w
 yN:∀b,T.old b->rs b
 fresh:T.lo<=bo
def Gt.M (T:Gt)(R rs ws:zP)(g:zH)(w:zW):Prop:=
 ∃(I:Nat)(v:zA)(V U Q P O L K J H F E D C B A z x u t s r q p o n m l k j i h f e d c b a y:zY),g=G ((base 240).at ⟨#[V,U,Q,P,O,.pointer (aA ⟨T.b5,0,aB⟩),.pointer (aA ⟨T.b6,0,aB⟩),L,K,J,.slice (aA ⟨I,0,aB⟩) T.N T.N,H,F,E,D,C,B,A,z,x,u,t,s,r,q,p,o,n,m,.chan (aA T.Cr),.chan (aA T.Cd),l,k,j,i,h,f,e,d,c,b,a,y],T.ds⟩ (aN pS [0,1,2,3]::kP)) T.cs/\T.Ok rs ws I v R w
def Gt.F (T:Gt)(rs ws:zP)(g:zH)(w:zW):Prop:=
 ∃(J:Nat)(v:zA)(V U R Q O M L K I H E D C B A z x u t s r q p o n m P l k j h f e d c b a y:zY),g=G ((base 240).at ⟨#[V,U,R,Q,O,.pointer (aA ⟨T.b5,0,aB⟩),.pointer (aA ⟨T.b6,0,aB⟩),M,L,K,.slice (aA ⟨J,0,aB⟩) T.N T.N,I,H,E,D,C,B,A,z,x,u,t,s,r,q,p,o,n,m,.chan (aA T.Cr),.chan (aA T.Cd),.tuple #[.int aD 1,.bool aG,.agg #[.int aD 0,.slice aB 0 0],.agg #[]],l,k,j,h,f,e,d,c,b,a,y],T.ds⟩ (aN pS [1,2,3]::kP)) T.cs/\T.Ok rs ws J v (λi=>i<T.N) w
def Kr (Cr Cd)(x z a):commResult #[rcase Cr z,rcase Cd a] .select 0 x aF= .tuple #[.int aD 0,.bool aF,x,a]:=by simp[commResult,rcase,goInt]
def Kq (Cr Cd)(z a):commResult #[rcase Cr z,rcase Cd a] .select 1 a aG= .tuple #[.int aD 1,.bool aG,z,a]:=by simp[commResult,rcase,goInt]
def Nf {a cs}(Cr Cd)(x z b):Goroutine.finishComm Tryz.prog (G ((base 240).at a (aN pS [0,1,2,3]::kP)) cs) #[rcase Cr z,rcase Cd b] .select 0 x aF=G ((base 240).at (a.put (aA 31) (.tuple #[.int aD 0,.bool aF,x,b])) (aN pS [1,2,3]::kP)) cs:=by have h:((pS[0]?).bind (·.dst))=aA 31:=rfl;unfold Goroutine.finishComm;rw[show(G ((base 240).at a (aN pS [0,1,2,3]::kP)) cs).frame=(base 240).at a (aN pS [0,1,2,3]::kP)from rfl,Frame.finish_at,h,Kr];rfl
def Nd {a cs}(Cr Cd)(z b):Goroutine.finishComm Tryz.prog (G ((base 240).at a (aN pS [0,1,2,3]::kP)) cs) #[rcase Cr z,rcase Cd b] .select 1 b aG=G ((base 240).at (a.put (aA 31) (.tuple #[.int aD 1,.bool aG,z,b])) (aN pS [1,2,3]::kP)) cs:=by have h:((pS[0]?).bind (·.dst))=aA 31:=rfl;unfold Goroutine.finishComm;rw[show(G ((base 240).at a (aN pS [0,1,2,3]::kP)) cs).frame=(base 240).at a (aN pS [0,1,2,3]::kP)from rfl,Frame.finish_at,h,Kq];rfl
section
variable(S:Sp)(T:Gt)
def Gt.mB (T:Gt):Prop:=∀w a,T.K w->(∀b,T.old b->a.heap[b]? =w.heap[b]?)->w.heap.size<=a.heap.size->a.tape=w.tape->a.os=w.os->a.output=w.output->T.K a
variable {T}
def Gt.Ok.rely (n:T.mB){rs ws g v R w w₁}(ok:T.Ok rs ws g v R w)(r:cA rs ws w w₁):T.Ok rs ws g v R w₁:=by
 have d:∀b,rs b->w₁.heap[b]? =w.heap[b]? :=λb a=>r.cM b (aH a);have c:∀b,rs b->w₁.cell? ⟨b,0,aB⟩=w.cell? ⟨b,0,aB⟩:=λb a=>by simp only[World.cell?];rw[d b a]
 refine⟨ok.r5,ok.r6,(c _ ok.r5).trans ok.c5,(c _ ok.r6).trans ok.c6,ok.wo,(r.cM g (aI ok.wo)).trans ok.out,ok.size,zAd ok.lt r.size,λb a=>⟨(ok.zM b a).1,zAd (ok.zM b a).2 r.size⟩,λk j m=> ?_,n w w₁ ok.held (λb a=>d b (ok.yN b a)) r.size r.tape r.os r.output,ok.yN,ok.fresh⟩;obtain⟨q,l,cp,h,e,f,i⟩:=ok.some k j m;exact⟨q,l,cp,h,e,λb a=>⟨(f b a).1,(f b a).2.1,zAd (f b a).2.2.1 r.size,(f b a).2.2.2⟩,T.rwr i λb a=>r.cM b (aI (f b a).1)⟩
variable(T)
def Kc (hP:S.P=Tryz.prog)(hr:S.Cr=T.Cr)(hd:S.Cd=T.Cd)(hn:S.n=T.N)(hN:T.N<9223372036854775808)(hv:∀i v h w,S.Ok i v h w->∃q l cp C,v= .agg #[.int aD i,.slice q l cp]/\(∀b,C b->h b/\T.lo<=b)/\T.Rw i q l cp C w)(hM:S.M=T.M)(hF:S.Fin=T.F)
  (hK:T.mB)
  (R rs ws) (g) (w) (h:S.M R rs ws g w):
  g.status= .running/\∃z sh zr zd,stepG S.P aF g w= .comm z (S.cases zr zd) aF sh w #[]/\S.Pb R rs ws z sh zr zd w:=by
 rw[hM]at h;obtain⟨D,t,y0,y1,y2,y3,y4,y7,y8,y9,VU,VT,Py,Px,Pw,Pv,Pu,Im,Il,Ik,Ij,Ii,Ih,Pt,Ps,Pr,Z,Y,X,W,V,U,Q,O,L,K,J,I,H,E,rfl,ok⟩:=h;refine⟨rfl,G ((base 240).at ⟨#[y0,y1,y2,y3,y4,.pointer (aA ⟨T.b5,0,aB⟩),.pointer (aA ⟨T.b6,0,aB⟩),y7,y8,y9,.slice (aA ⟨D,0,aB⟩) T.N T.N,VU,VT,Py,Px,Pw,Pv,Pu,Im,Il,Ik,Ij,Ii,Ih,Pt,Ps,Pr,Z,Y,.chan (aA T.Cr),.chan (aA T.Cd),X,W,V,U,Q,O,L,K,J,I,H,E],T.ds⟩ (aN pS [0,1,2,3]::kP)) T.cs,.select,.agg #[.int aD 0,.slice aB 0 0],.agg #[],?_,?_⟩
 .rw[hP];unfold Sp.cases;rw[hr,hd];exact RM w
 .refine⟨λc r j=> ?_,λd mj _ i v h hi hR hOk f=> ?_,λhR c r j=> ?_⟩
  .rw[hP];unfold Sp.cases;rw[hr,hd];exact RM c
  .have fb:=hn▸hi;obtain⟨q,l,cp,C,rfl,A,hq⟩:=hv i v h d hOk;replace ok:=ok.rely hK mj;rw[hP];unfold Sp.cases;rw[hr,hd,Nf];walk_nrm;refine Mt fb ok.size ok.r5 ok.r6 ok.c5 ok.c6 (aH ok.wo) ok.out (λb a=>⟨λx=>x.elim (ok.zM b a).1 λy=>(f b y).2.1 a,(ok.zM b a).2⟩) ok.lt hN λPz w' y0 y1 y2 y3 y4 y5 y6 y7 y8 y9 Wm VU VT Py Px Pw Pv Pu Im Il Ik Ij Ii Ih Pt Ps Pr Z Y uj ui X W V U Q O L K J I H E a1 a2 a3 a9 a4 a5 a6 a7 a8=> ?_;refine AE λc r j=> ?_;rw[hM];have Ir:∀b,rs b->c.heap[b]? =d.heap[b]? :=λb a=>(r.cM b (aH a)).trans (a3 b a);have m:∀b,rs b->c.cell? ⟨b,0,aB⟩=d.cell? ⟨b,0,aB⟩:=λb a=>by{simp only[World.cell?];rw[Ir b a]};have s:=zBb a5 r.size;have u:∀b,(ws b\/h b)->b≠D->b<d.heap.size->c.heap[b]? =d.heap[b]? :=λb a p hl=>(r.cM b (aI (a1 b a))).trans (a9 b a p hl);refine⟨D,t.setIfInBounds i (.slice q l cp),_,_,_,_,_,_,_,_,_,_,_,_,_,_,_,_,_,_,_,_,_,_,_,_,_,_,_,_,_,_,_,_,_,_,_,_,_,_,rfl,⟨ok.r5,ok.r6,(m _ ok.r5).trans ok.c5,(m _ ok.r6).trans ok.c6,a1 _ (aH ok.wo),(r.cM D (aI (a1 _ (aH ok.wo)))).trans a4,by rw[zDa];exact ok.size,zAd ok.lt s,λb a=>⟨(a2 b a).1,zAd (a2 b a).2 r.size⟩,λk hk rr=> ?_,hK d c ok.held (λb a=>Ir b (ok.yN b a)) s (r.tape.trans a6) (r.os.trans a7) (r.output.trans a8),ok.yN,ok.fresh⟩⟩;by_cases e:k=i;{subst e;have p:∀b,h b->b≠D:=λb a e=>(f b a).2.2 (by rw[e];exact ok.wo);refine⟨q,l,cp,C,by rw[zAo (by rw[ok.size];exact hk)],λb a=>⟨a1 b (aI (A b a).1),p b (A b a).1,zAd (f b (A b a).1).1 s,(A b a).2⟩,T.rwr hq λb a=>u b (aI (A b a).1) (p b (A b a).1) (f b (A b a).1).1⟩};{obtain⟨q',l',cp',C,e1,B,hw⟩:=ok.some k hk (rr.resolve_right e);refine⟨q',l',cp',C,by rw[zAe λx=>e x.symm];exact e1,λb a=>⟨a1 b (aH (B b a).1),(B b a).2.1,zAd (B b a).2.2.1 s,(B b a).2.2.2⟩,T.rwr hw λb a=>u b (aH (B b a).1) (B b a).2.1 (B b a).2.2.1⟩}
  .rw[hP,hF];unfold Sp.cases;rw[hr,hd,Nd];walk_nrm;have o:=ok.rely hK r;exact⟨D,t,_,_,_,_,_,_,_,_,_,_,_,_,_,_,_,_,_,_,_,_,_,_,_,_,_,_,aEn,_,_,_,_,_,_,_,_,_,_,_,rfl,⟨o.r5,o.r6,o.c5,o.c6,o.wo,o.out,o.size,o.lt,o.zM,λk hk _=>o.some k hk (hR k (by rw[hn];exact hk)),o.held,o.yN,o.fresh⟩⟩
end
end Go.Ga
namespace Go.Wg
open Go.Conc Go.RowKit Go.Conc.Lib Go.ConcR.Gen Go.ConcN Go.ConcN.Gen
open Go.ConcR (KK wgBlock WgAt stA smA rd wr mk Payload DC0)
variable {L:WgLink}
section
variable {P:zZ}{R:zW->zW->Prop}{F:zW->Prop}{Wg:Nat}{UT:zC}{VF:Act}{pF:zQ}{TJ:Nat}{oJ:List Nat}{TG:zI}{cs:zL}{Fin:zU}
def add1 [Payload] (H:WgLib P L)(j:Cx L.tWg Wg R F){mT}(o:∀w,F w/\WgLive L.tWg Wg w->Goes P aF R DC0 Fin mT (G (UT.at (VF.put ((pF[TJ]?).bind (·.dst)) (.tuple #[])) (aN pF oJ::TG)) cs) w)
  (w) (hF:F w/\WgLive L.tWg Wg w):
  On P aF R (gT P aF .disable (On P aF R (ug P aF L.tWg Wg λv=>On P aF R (if v=0 then gT P aF (.read (smA Wg)) (On P aF R (gT P aF .enable (On P aF R Fin)))else gT P aF .enable (On P aF R Fin)))))
   (G ((base L.add).at ⟨#[.pointer (aA ⟨Wg,0,aB⟩),.int aD 1]++aD5 115 aEn,[]⟩ [.code (body_add L)]) (UT.at VF (aN pF (TJ::oJ)::TG)::cs)) w:=by
 have r:= @j.rely;lib_facts;simp only[body_add,addFn,zCv];refine⟨200,?_⟩;walk_nrm;u_c zGm r hF;u_cnd aF r hF;u_c zGm r hF;u_c zGm r hF;u_reg r hF;u_op r hF;u_op r hF;u_c zGl r hF;u_cnd aG r hF;u_c zGs r hF;u_c zGm r hF;u_reg r hF;refine Goes.stop (λn g=> ?_);replace hF:=r hF g;refine⟨rfl,_,stepG_mark0 .disable (by simp) rfl rfl (by k_ne) rfl H.f_disable (x_disable_n L) (x_disable_b L) (x_disable_x L) (x_disable_f L),200,?_⟩;walk_nrm;u_c zGl r hF;u_reg r hF;u_defer r hF;u_c zGl r hF;u_c zGm r hF;u_reg r hF;u_op r hF;u_c zGl r hF;u_c zGm r hF;u_c zGm r hF;u_reg r hF;u_bub r hF;u_c zGl r hF;u_cnd aG r hF;u_c zGs r hF;u_c zGm r hF;u_reg r hF;iterate 6 (u_op r hF)
 u_call H.f_uAdd (nm_uAdd L) uAddFn r hF;u_c zGm r hF;u_reg r hF;u_op r hF;u_c zGl r hF;u_c zGm r hF;u_reg r hF;iterate 4 (u_op r hF)
 refine Goes.stop (λa f=> ?_);replace hF:=r hF f;refine⟨rfl,λv E b=> ?_⟩;obtain rfl|q:=zEe v
 .replace b:WgAt L.tWg Wg a 0 0:=by{simpa using b};have z:(((0:Nat):Int)+1)*KK=KK:=by{simp};rw[z];have u:IntKind.u64.wrap (0+4294967296)=KK:=by{decide};refine⟨_,(stepG_add_atomic rfl rfl (by k_ne) rfl H.f_addU64 (x_addU64_n L) (x_addU64_b L) (x_addU64_x L) aR (x_addU64_f L) rfl rfl b.cellSt (b.thaw 0)).trans (by rw[u];rfl),?_⟩;show∃m,Goes P aF R DC0 (if(0:Nat)=0 then _ else _) m _ _;rw[zAz rfl];refine⟨200,?_⟩;replace hF:F (a.setCell (stA Wg) (.int aR KK))/\WgLive L.tWg Wg (a.setCell (stA Wg) (.int aR KK)):=⟨j.BO hF.1,⟨_,_,b.setSt _⟩⟩;simp only[KK]at hF⊢;walk_nrm;u_op r hF;u_c zGl r hF;u_c zGy r hF;u_leave1 H.f_uAdd r hF;u_op r hF;u_c zGl r hF;u_c zGm r hF;u_c zGm r hF;u_reg r hF;iterate 4 (u_op r hF)
  u_skip r hF;u_skip r hF;u_op r hF;u_c zGl r hF;u_cnd aG r hF;u_c zGs r hF;u_c zGm r hF;u_reg r hF;iterate 4 (u_op r hF)
  u_c zGl r hF;u_c zGm r hF;u_reg r hF;iterate 4 (u_op r hF)
  u_c zGl r hF;u_c zGm r hF;u_c zGm r hF;u_reg r hF;iterate 10 (u_op r hF)
  u_c zGl r hF;u_cnd aF r hF;u_reg r hF;iterate 3 (u_op r hF)
  u_conv H.underlying_tPU32 H.room_tU32 (WgLive.cell1 hF.2).choose_spec r hF;refine Goes.stop (λl c=> ?_);replace hF:=r hF c;clear c;refine⟨rfl,_,stepG_markAt .read (by simp) rfl rfl (by k_ne) rfl H.f_raceRead (x_raceRead_n L) (x_raceRead_b L) (x_raceRead_x L) (x_raceRead_f L) (ad:=⟨Wg,1,aB⟩) (by simp[Act.eval]),200,?_⟩;walk_nrm;u_c zGl r hF;u_c zGm r hF;u_c zGm r hF;u_reg r hF;u_op r hF;u_op r hF;u_c zGl r hF;u_cnd aG r hF;u_c zGs r hF;u_c zGm r hF;u_c zGm r hF;u_reg r hF;iterate 3 (u_op r hF)
  u_skip r hF;u_skip r hF;u_op r hF;u_op r hF;iterate 4 (u_skip r hF)
  u_op r hF;u_c zGl r hF;u_cnd aG r hF;u_c zGs r hF;u_c zGm r hF;u_c zGm r hF;u_reg r hF;iterate 3 (u_op r hF)
  u_skip r hF;u_skip r hF;u_op r hF;u_c zGl r hF;u_cnd aF r hF;u_c zGy r hF;refine Goes.stop (λe h=> ?_);replace hF:=r hF h;clear h;refine⟨rfl,_,stepG_unwind_entry (v:= .tuple #[]) (evs:= #[mk .enable]) rfl H.f_enable (x_enable_n L) (x_enable_b L) (x_enable_x L) (x_enable_f L) (by simp[Extern.Race.none_]) (by simp[mk]) (by simp[mk]),mT+1,?_⟩;u_leave0 H.f_add r hF;exact o _ hF
 .obtain⟨V,i⟩:∃V:Int,V=(v:Int)+1:=⟨_,rfl⟩;obtain⟨S,d⟩:∃S:Int,S=V*KK:=⟨_,rfl⟩;have p:IntKind.u64.wrap ((v:Int)*KK+4294967296)=S:=by{rw[aED,d,i];simp only[KK];omega};rw[<-i,<-d];have M:S/4294967296=V:=by{rw[d];simp only[KK];omega};have J:bits .and aR S 2147483648=0:=by{rw[d,i];have:=st_flag (v+1) 0 (by omega) (by omega);simpa [KK]using this};have I:bits .and aR S 2147483647=0:=by{rw[d,i];have:=st_waiters (v+1) 0 (by omega) (by omega);simpa [KK]using this};have c1:IntKind.i32.wrap V=V:=by{rw[aEE];omega};have t:1<V:=by{omega};have s:V<2147483648:=by{omega};have D:(V==1)=aG:=by{simp;omega};have C:decide (V=1)=aG:=zBv (by omega);have B:decide (V<0)=aG:=zBv (by omega);have A:decide (0<V)=aF:=zDd (by omega);have y:(V==0)=aG:=by{simp;omega};have x:decide (V=0)=aG:=zBv (by omega);refine⟨_,(stepG_add_atomic rfl rfl (by k_ne) rfl H.f_addU64 (x_addU64_n L) (x_addU64_b L) (x_addU64_x L) aR (x_addU64_f L) rfl rfl b.cellSt (b.thaw 0)).trans (by rw[p];rfl),?_⟩;show∃m,Goes P aF R DC0 (if v=0 then _ else _) m _ _;rw[zAv (by omega)];refine⟨200,?_⟩;replace hF:F (a.setCell (stA Wg) (.int aR S))/\WgLive L.tWg Wg (a.setCell (stA Wg) (.int aR S)):=⟨j.BO hF.1,⟨_,_,b.setSt _⟩⟩;clear b d i p;walk_nrm;u_op r hF;u_c zGl r hF;u_c zGy r hF;u_leave1 H.f_uAdd r hF;u_op r hF;u_c zGl r hF;u_c zGm r hF;u_c zGm r hF;u_reg r hF;iterate 4 (u_op r hF)
  u_skip r hF;u_skip r hF;u_op r hF;u_c zGl r hF;u_cnd aG r hF;u_c zGs r hF;u_c zGm r hF;u_reg r hF;iterate 4 (u_op r hF)
  u_c zGl r hF;u_c zGm r hF;u_reg r hF;iterate 4 (u_op r hF)
  u_c zGl r hF;u_c zGm r hF;u_c zGm r hF;u_reg r hF;iterate 10 (u_op r hF)
  u_c zGl r hF;u_cnd aG r hF;u_c zGs r hF;u_c zGm r hF;u_c zGm r hF;u_reg r hF;u_op r hF;u_op r hF;u_c zGl r hF;u_cnd aG r hF;u_c zGs r hF;u_c zGm r hF;u_c zGm r hF;u_reg r hF;iterate 3 (u_op r hF)
  u_skip r hF;u_skip r hF;u_op r hF;u_op r hF;iterate 4 (u_skip r hF)
  u_op r hF;u_c zGl r hF;u_cnd aG r hF;u_c zGs r hF;u_c zGm r hF;u_c zGm r hF;u_reg r hF;iterate 3 (u_op r hF)
  u_skip r hF;u_skip r hF;u_op r hF;u_c zGl r hF;u_cnd aF r hF;u_c zGy r hF;refine Goes.stop (λe h=> ?_);replace hF:=r hF h;clear h;refine⟨rfl,_,stepG_unwind_entry (v:= .tuple #[]) (evs:= #[mk .enable]) rfl H.f_enable (x_enable_n L) (x_enable_b L) (x_enable_x L) (x_enable_f L) (by simp[Extern.Race.none_]) (by simp[mk]) (by simp[mk]),mT+1,?_⟩;u_leave0 H.f_add r hF;exact o _ hF
end
end Go.Wg
namespace Go.Ga
open Go.Conc Go.Ren Go.Proofs Go.RowKit Go.Conc.Lib Go.Wg
open Go.ConcR (KK WgAt stA smA DC0 Payload)
open Go.ConcN (WgLive)
open Go.ConcR.Gen (body_add)
section
variable {S:Sp}{St:(zP)->(zP)->zU}{rs ws:zP}{d:Nat}{g g':zH}{w:zW}
def Sp.wg (S:Sp)(ws:zP):zP:=λb=>ws b\/b=S.Wg
def qZ (c:g.status= .running)
  (h:∀w₁,cA rs (S.wg ws) w w₁->∃g' w' es,stepG S.P aF g w₁= .go g' w' es/\Go.Ren.Does (S.wg ws) w₁ w'/\S.J w'/\(∀e∈es,iv S rs (grown ws w₁ w') e)/\∃tr,S.dK St tr (deafBehind d es) rs (grown ws w₁ w') g' w'):∃tr,S.dK St tr d rs ws g w:=by
 have b:∀w₁:zW,∃tr:Tree,cA rs (S.wg ws) w w₁->∃g' w' es,stepG S.P aF g w₁= .go g' w' es/\Go.Ren.Does (S.wg ws) w₁ w'/\S.J w'/\(∀e∈es,iv S rs (grown ws w₁ w') e)/\S.dK St tr (deafBehind d es) rs (grown ws w₁ w') g' w':=λw₁=>by by_cases a:cA rs (S.wg ws) w w₁;{obtain⟨g',w',es,l,k,j,i,tr,f⟩:=h w₁ a;exact⟨tr,λ_=>⟨g',w',es,l,k,j,i,f⟩⟩};{exact⟨.leaf,λx=>absurd x a⟩}
 exact⟨.node λw₁=>aEi (b w₁),c,λw₁ a=>zAw (b w₁) a⟩
def PG (h:S.J w){w₁}(r:cA rs (S.wg ws) w w₁):S.J w₁:=by obtain⟨a,b,x⟩:=h;exact⟨a,b,(r.cM S.Wg (aI (aI rfl))).trans x⟩
def Ay {w₁}(r:cA rs (S.wg ws) w w₁):cA rs ws w w₁:=⟨λb h=>r.cM b (h.imp id aH),r.size,r.tape,r.os,r.output⟩
def Cn {tr}(h:S.dK St tr d rs ws g w){w₁}(r:cA rs (S.wg ws) w w₁):S.dK St tr d rs ws g w₁:=Sp.dK.rely h r
def ie {es:zE}(i:S.J w)(b:g.status= .running)(h:∀w₁,cA rs (S.wg ws) w w₁->stepG S.P aF g w₁= .go g' w₁ es)(f:∀e∈es,iv S rs ws e)(c:∃tr,S.dK St tr (deafBehind d es) rs ws g' w):∃tr,S.dK St tr d rs ws g w:=
 qZ b λw₁ r=>⟨g',w₁,es,h w₁ r,Go.Ren.Does.refl _ w₁,PG i r,λe a=>by rw[dL];exact f e a,by rw[dL];exact let⟨tr,x⟩:=c;⟨tr,Cn x r⟩⟩
def dR (c:S.J w)(a:g.status= .running)(h:∀w₁,stepG S.P aF g w₁= .go g' w₁ #[])(b:∃tr,S.dK St tr d rs ws g' w):∃tr,S.dK St tr d rs ws g w:=
 ie c a (λw₁ _=>h w₁) (by simp) b
def Cm (h:∀w₁,cA rs (S.wg ws) w w₁->St rs ws g w₁):∃tr,S.dK St tr 0 rs ws g w:=⟨.leaf,rfl,h⟩
def qY {b:zC}{a:Act}{k:zI}{cs:zL}{ops:zQ}{i:Nat}{rest:List Nat}{o:Oper}(t:S.J w)(v:zY)(m:ops[i]? =aA o)(j:Region.wanted o (yielded ops a.tmps)=aF)(p:b.kind≠.early)
  (l:∀w₁,cA rs (S.wg ws) w w₁->(aEd a.eval o).run S.P w₁= .ok (.value v) w₁) (c:∀w₁,cA rs (S.wg ws) w w₁->∀e∈(aEd a.eval o).events S.P w₁ #[],VP rs ws e)
  (n:∃tr,S.dK St tr d rs ws (G (b.at (a.put o.dst v) (aN ops rest::k)) cs) w):∃tr,S.dK St tr d rs ws (G (b.at a (aN ops (i::rest)::k)) cs) w:=
 qZ rfl λw₁ r=>⟨_,w₁,_,stepG_value m j p (l w₁ r),Go.Ren.Does.refl _ w₁,PG t r,λe h=>by rw[dL];exact aH (c w₁ r e (zHc h)),by
  have f:deafBehind d (listed S.P b.fn a o w₁)=d:=deafBehind_still (λe h=>by
   obtain⟨a,wr,s,rfl,_⟩|⟨r,s,rfl,_⟩|x|x|⟨q,x⟩:=c w₁ r e (zHc h);{simp};{simp};{rw[x];simp};{rw[x];simp}
   .rw[x];simp) d
  rw[dL,f];exact let⟨tr,x⟩:=n;⟨tr,Cn x r⟩⟩
def UI {es rs ws}(h:∀e∈es,VP rs ws e)(d):deafBehind d es=d:=deafBehind_still (λe b=>by
 obtain⟨a,wr,s,rfl,_⟩|⟨r,s,rfl,_⟩|x|x|⟨q,x⟩:=h e b
 .simp
 .simp
 .rw[x];simp
 .rw[x];simp
 .rw[x];simp) d
def Cl {b:zC}{a:Act}{k:zI}{cs:zL}{ops:zQ}{i:Nat}{rest:List Nat}{o:Oper}(v:zW->zY)(W:zW->zW)(m:ops[i]? =aA o)(l:Region.wanted o (yielded ops a.tmps)=aF)(p:b.kind≠.early)
  (h:∀w₁,cA rs (S.wg ws) w w₁->(aEd a.eval o).run S.P w₁= .ok (.value (v w₁)) (W w₁)/\Go.Ren.Does ws w₁ (W w₁)/\S.J (W w₁)/\(∀e∈(aEd a.eval o).events S.P w₁ #[],VP rs (grown ws w₁ (W w₁)) e)/\
   ∃tr,S.dK St tr d rs (grown ws w₁ (W w₁)) (G (b.at (a.put o.dst (v w₁)) (aN ops rest::k)) cs) (W w₁)):∃tr,S.dK St tr d rs ws (G (b.at a (aN ops (i::rest)::k)) cs) w:=
 qZ rfl λw₁ r=>let⟨h1,c,t,j,s⟩:=h w₁ r;⟨_,W w₁,_,stepG_value m l p h1,⟨λb q n=>c.keep b q λx=>n (aH x),c.size,c.tape,c.os,c.output⟩,t,λe f=>aH (j e (zHc f)),by rw[UI λe f=>j e (zHc f)];exact s⟩
def UZ {b:zC}{a:Act}{k:zI}{cs:zL}{ops:zQ}{i:Nat}{rest:List Nat}{o:Oper}(W:zW->zW)(m:ops[i]? =aA o)(l:Region.wanted o (yielded ops a.tmps)=aF)(p:b.kind≠.early)
  (h:∀w₁,cA rs (S.wg ws) w w₁->(aEd a.eval o).run S.P w₁= .ok .skip (W w₁)/\Go.Ren.Does ws w₁ (W w₁)/\S.J (W w₁)/\(∀e∈(aEd a.eval o).events S.P w₁ #[],VP rs (grown ws w₁ (W w₁)) e)/\
   ∃tr,S.dK St tr d rs (grown ws w₁ (W w₁)) (G (b.at (a.put o.dst aEn) (aN ops rest::k)) cs) (W w₁)):∃tr,S.dK St tr d rs ws (G (b.at a (aN ops (i::rest)::k)) cs) w:=
 qZ rfl λw₁ r=>let⟨h1,c,t,j,s⟩:=h w₁ r;⟨_,W w₁,_,stepG_none m l p h1,⟨λb q n=>c.keep b q λx=>n (aH x),c.size,c.tape,c.os,c.output⟩,t,λe f=>aH (j e (zHc f)),by rw[UI λe f=>j e (zHc f)];exact s⟩
def lC {Stop:zU}{w₀:zW}(f:∀g w,cA rs (S.wg ws) w₀ w->S.J w->(∀w₁,S.J w₁->Stop g w₁)->∃tr,S.dK St tr d rs ws g w):
  ∀(m:Nat)(g:zH)(w:zW),cA rs (S.wg ws) w₀ w->S.J w->Go.Conc.Goes S.P aF (λ_ w₁=>WgLive S.ty S.Wg w₁) DC0 Stop m g w->∃tr,S.dK St tr d rs ws g w
 |0,g,w,b,c,h=>f g w b c h
 |m+1,g,w,b,c,h=>by obtain h|⟨i,h⟩:=h;{exact f g w b c h};{refine qZ i λw₁ r=> ?_;have a:=PG c r;obtain⟨g',e,o,n,⟨l,k⟩,j⟩:=goes_elim (h w₁ a);subst l;subst k;refine⟨g',e,#[],n,Go.Ren.Does.refl _ e,a,by simp,?_⟩;rw[dL];exact lC f m g' e (b.trans r) a j}
end
section
variable {S:Sp}{St:(zP)->(zP)->zU}{rs ws:zP}{w:zW}
def ZF (d):deafBehind d #[Go.ConcR.mk .disable]=d+1:=by simp[deafBehind,Go.ConcR.mk]
def OG:deafBehind 1 #[Go.ConcR.mk .enable]=0:=by simp[deafBehind,Go.ConcR.mk]
def OF (d)(a):deafBehind d #[Go.ConcR.mk (.read a)]=d:=by simp[deafBehind,Go.ConcR.mk]
def OP {d l m K w₀}(q:deafBehind d #[Go.ConcR.mk m]=l)(o:m= .disable\/m= .enable\/∃a,m= .read a/\a.block=S.Wg)
  (p:∀g w,cA rs (S.wg ws) w₀ w->S.J w->K g w->∃tr,S.dK St tr l rs ws g w):∀g w,cA rs (S.wg ws) w₀ w->S.J w->(∀b,S.J b->gT S.P aF m K g b)->∃tr,S.dK St tr d rs ws g w:=by
 intro g w n j h;refine qZ (h w j).1 λb r=> ?_;have c:=PG j r;obtain⟨_,k,f,t⟩:=h b c;refine⟨k,b,_,f,Go.Ren.Does.refl _ b,c,λe i=> ?_,?_⟩
 .simp only[zAs,zAg,zAr,zCd]at i;subst i;obtain rfl|rfl|⟨a,rfl,s⟩:=o
  .exact aI (aI (aH rfl))
  .exact aI (aI (aI (aH rfl)))
  .exact aI (aI (aI (aI ⟨a,rfl,s⟩)))
 .rw[q,dL];exact p k b (n.trans r) c t
def Yw (Q:S.P=Tryz.prog)(I:S.ty=Tryz.link.tWg){j:Nat}(hj:j<2147483647)(K:∀b,rs b\/ws b->b≠S.Wg)(L:WgAt S.ty S.Wg w (j*KK) 0){q:zC}{s o p c l cs}
  (Y:∀w',cA rs ws w w'->WgAt S.ty S.Wg w' (((j+1:Nat):Int)*KK) 0->∃tr,S.dK St tr 0 rs ws (G (q.at (s.put ((o[p]?).bind (·.dst)) (.tuple #[])) (aN o c::l)) cs) w'):
  ∃tr,S.dK St tr 0 rs ws (G ((base Tryz.link.add).at ⟨#[.pointer (aA ⟨S.Wg,0,aB⟩),.int aD 1]++aD5 115 aEn,[]⟩ [.code (body_add Tryz.link)]) (q.at s (aN o (p::c)::l)::cs)) w:=by
 obtain⟨P,ty,Wg,Cr,Cd,n,m0,Ok,XS,M,Fin,pP,rP⟩:=S;dsimp only at Q I;subst Q;subst I;have R:WgLive Tryz.link.tWg Wg w:=⟨_,_,L⟩;obtain⟨m,Z⟩:=add1 (Fin:=λg _=>g=G (q.at (s.put ((o[p]?).bind (·.dst)) (.tuple #[])) (aN o c::l)) cs) (mT:=0) Tryz.Af ⟨λ_ r=>⟨trivial,r⟩,λ_=>trivial,λ_=>trivial⟩ (λw _=>Goes.stop λ_ _=>rfl) w ⟨trivial,R⟩;have fin:∀(a:zW),cA rs ws w a->WgAt Tryz.link.tWg Wg a (((j+1:Nat):Int)*KK) 0->∀g w',cA rs (Sp.wg ⟨Tryz.prog,Tryz.link.tWg,Wg,Cr,Cd,n,m0,Ok,XS,M,Fin,pP,rP⟩ ws) a w'->WgLive Tryz.link.tWg Wg w'->
   On Tryz.prog aF (λ_ d=>WgLive Tryz.link.tWg Wg d) (λg _=>g=G (q.at (s.put ((o[p]?).bind (·.dst)) (.tuple #[])) (aN o c::l)) cs) g w'->∃tr,Sp.dK ⟨Tryz.prog,Tryz.link.tWg,Wg,Cr,Cd,n,m0,Ok,XS,M,Fin,pP,rP⟩ St tr 0 rs ws g w':=by
  intro a u t g w' z A ⟨m,J⟩
  refine lC (λg d f v C=> ?_) m g w' z A J
  have e:=C d v
  rw[e]
  exact Y d (u.trans (Ay f)) ((f.cM Wg (aI (aI rfl))).trans t)
 have en:∀(a:zW),cA rs ws w a->WgAt Tryz.link.tWg Wg a (((j+1:Nat):Int)*KK) 0->∀g w',cA rs (Sp.wg ⟨Tryz.prog,Tryz.link.tWg,Wg,Cr,Cd,n,m0,Ok,XS,M,Fin,pP,rP⟩ ws) a w'->WgLive Tryz.link.tWg Wg w'->
   On Tryz.prog aF (λ_ d=>WgLive Tryz.link.tWg Wg d) (gT Tryz.prog aF .enable (On Tryz.prog aF (λ_ d=>WgLive Tryz.link.tWg Wg d) (λg _=>g=G (q.at (s.put ((o[p]?).bind (·.dst)) (.tuple #[])) (aN o c::l)) cs))) g w'->∃tr,Sp.dK ⟨Tryz.prog,Tryz.link.tWg,Wg,Cr,Cd,n,m0,Ok,XS,M,Fin,pP,rP⟩ St tr 1 rs ws g w':=by
  intro a u t g w' z A ⟨m,J⟩
  exact lC (OP OG (aI (aH rfl)) (fin a u t)) m g w' z A J
 refine lC (OP (ZF 0) (aH rfl) λg w' z A ⟨V,J⟩=> ?_) m _ w (cA.refl _ _ w) R Z;refine lC (λU d f v C=> ?_) V g w' z A J;refine qZ (C d v).1 λx D=> ?_;have h:WgAt Tryz.link.tWg Wg x (j*KK) 0:=((f.trans D).cM Wg (aI (aI rfl))).trans L;obtain⟨B,F,hK⟩:=(C x ⟨_,_,h⟩).2 j hj h;have i:=h.setSt (((j:Int)+1)*KK);have H:(((j:Nat):Int)+1)=(((j+1:Nat):Nat):Int):=by omega
 have y:cA rs ws w (x.setCell (stA Wg) (.int aR (((j:Int)+1)*KK))):=by have r:=Ay (f.trans D);exact⟨λb O=>(cE _ _ (show b≠(stA Wg).block from K b O)).trans (r.cM b O),by rw[dY];exact r.size,by simp only[World.setCell];exact r.tape,by simp only[World.setCell];exact r.os,by simp only[World.setCell];exact r.output⟩
 refine⟨B,_,_,F,⟨λb _ X=>cE _ _ λe=>X (aI e),by rw[dY];exact zAb _,by simp[World.setCell],by simp[World.setCell],by simp[World.setCell]⟩,⟨_,_,i⟩,λe N=> ?_,?_⟩
 .simp only[zAs,zAg,zAr,zCd]at N;obtain rfl|rfl:=N
  .exact aI (aH ⟨_,_,rfl,rfl⟩)
  .exact aI (aH ⟨_,_,rfl,rfl⟩)
 .have W:deafBehind (0+1) #[Go.ConcR.rd (stA Wg),Go.ConcR.wr (stA Wg)]=1:=by{simp[deafBehind,Go.ConcR.rd,Go.ConcR.wr]};rw[W,kX];rw[H]at i;obtain⟨E,k⟩:=hK;by_cases T:j=0;{rw[zAz T]at k;refine lC (w₀:=x.setCell (stA Wg) (.int aR (((j:Int)+1)*KK))) (OP (OF 1 _) (aI (aI ⟨_,rfl,rfl⟩)) (en _ y (by rw[H];exact i))) E B _ (cA.refl _ _ _) ⟨_,_,h.setSt _⟩ k};{rw[zAv T]at k;exact en _ y (by rw[H];exact i) B _ (cA.refl _ _ _) ⟨_,_,h.setSt _⟩ ⟨E,k⟩}
end
noncomputable def L0:Code:=match f240.body with|some (.seq _ (.seq _ (.seq _ (.seq _ (.seq _ (.seq (.seq _ (.block _ (.loop b))) _))))))=>b|_=> .skip
noncomputable def K0:Code:=match f240.body with|some (.seq _ (.seq _ (.seq _ (.seq _ (.seq _ (.seq _ c))))))=>c|_=> .skip
noncomputable def Li:zQ:=match L0 with| .seq _ (.seq _ (.seq (.block _ (.seq _ (.seq _ (.region _ ops _)))) _))=>ops|_=> #[]
noncomputable def Zp:Code:=match L0 with| .seq _ (.seq _ (.seq _ c))=>c|_=> .skip
structure Ft where
 N:Nat
 bp:Nat
 o:Nat
 cp:Nat
 b3:Nat
 b5:Nat
 b6:Nat
 fv:zY
 pt:Nat->zO
 K:zW->Prop
 old:zP
 lo:Nat
 pa:zO
abbrev Ft.p0 (T:Ft)(i:Nat):zY:= .pointer (T.pt i)
section
variable(S:Sp)(T:Ft)
structure Ft.Ok (rs ws:zP)(i:Nat)(w:zW):Prop where
 zM:∀b,rs b->¬ws b/\b<w.heap.size
 Xn:∀b,rs b\/ws b->b≠S.Wg
 r3:rs T.b3
 r5:rs T.b5
 r6:rs T.b6
 rp:0<T.N->rs T.bp
 c3:w.cell? ⟨T.b3,0,aB⟩=aA T.fv
 c5:w.cell? ⟨T.b5,0,aB⟩=aA (.chan (aA S.Cr))
 c6:w.cell? ⟨T.b6,0,aB⟩=aA (.chan (aA S.Cd))
 q0:∀i,i<T.N->w.cell? ⟨T.bp,T.o+i,aB⟩=aA (T.p0 i)
 wg:WgAt S.ty S.Wg w (i*KK) 0
 yN:∀b,T.old b->rs b
 held:T.K w
 low:T.lo<=w.heap.size
end
section
variable {S:Sp}{T:Ft}{rs ws Pz:zP}{i i':Nat}{w w':zW}
def Ft.mB (T:Ft):Prop:=∀w w',T.K w->(∀b,T.old b->w'.heap[b]? =w.heap[b]?)->w.heap.size<=w'.heap.size->w'.tape=w.tape->w'.os=w.os->w'.output=w.output->T.K w'
def Ft.Ok.lt (h:T.Ok S rs ws i w):S.Wg<w.heap.size:=(zAa.1 (show w.heap[S.Wg]? =aA _ from h.wg)).1
def Ft.Ok.to (l:T.mB)(h:T.Ok S rs ws i w)(f:∀b,rs b->w'.heap[b]? =w.heap[b]?)(g:WgAt S.ty S.Wg w' (i'*KK) 0)(hs:w.heap.size<=w'.heap.size)(o:w'.tape=w.tape)(n:w'.os=w.os)(m:w'.output=w.output)(c:∀b,Pz b->ws b\/w.heap.size<=b):T.Ok S rs Pz i' w':=by
 have d:∀b j,rs b->w'.cell? ⟨b,j,aB⟩=w.cell? ⟨b,j,aB⟩:=λb j a=>by simp only[World.cell?];rw[f b a]
 have hl:=h.lt;exact⟨λb a=>⟨λx=>(c b x).elim (h.zM b a).1 λy=>by have:=(h.zM b a).2;omega,zAd (h.zM b a).2 hs⟩,λb a e=>a.elim (λx=>h.Xn b (aH x) e) λx=>(c b x).elim (λy=>h.Xn b (aI y) e) λy=>by omega,h.r3,h.r5,h.r6,h.rp,
  (d _ _ h.r3).trans h.c3,(d _ _ h.r5).trans h.c5,(d _ _ h.r6).trans h.c6,λj k=>(d _ _ (h.rp (by omega))).trans (h.q0 j k),g,h.yN,l w w' h.held (λb a=>f b (h.yN b a)) hs o n m,zBb h.low hs⟩
def Ft.Ok.lM (c:T.mB)(h:T.Ok S rs ws i w)(r:cA rs (S.wg ws) w w'):T.Ok S rs ws i w':=
 h.to c (λb a=>r.cM b (aH a)) ((r.cM S.Wg (aI (aI rfl))).trans h.wg) r.size r.tape r.os r.output λ_ a=>aH a
def Ft.Ok.bm (d:T.mB)(h:T.Ok S rs ws i w)(r:cA rs ws w w')(c:WgAt S.ty S.Wg w' (i'*KK) 0):T.Ok S rs ws i' w':=
 h.to d (λb a=>r.cM b (aH a)) c r.size r.tape r.os r.output λ_ a=>aH a
def Ft.Ok.alloc (c:T.mB)(h:T.Ok S rs ws i w)(o:Obj):T.Ok S rs (grown ws w (w.alloc o)) i (w.alloc o):=
 h.to c (λb a=>alloc_old w o (h.zM b a).2) ((alloc_old w o h.lt).trans h.wg) (by rw[eP];omega) rfl rfl rfl λ_ a=>a.imp id λy=>y.1
def Ft.Ok.set (f:T.mB)(h:T.Ok S rs ws i w){a:Addr}(v:zY)(d:ws a.block):T.Ok S rs ws i (w.setCell a v):=
 h.to f (λb c=>cE w v λe=>(h.zM b c).1 (e▸d)) ((cE w v λe=>h.Xn _ (aI d) e.symm).trans h.wg) (by rw[dY];exact zAb _) (by simp[World.setCell]) (by simp[World.setCell]) (by simp[World.setCell]) λ_ c=>aH c
def Ft.Ok.live (h:T.Ok S rs ws i w):S.J w:=⟨_,_,h.wg⟩
end
section
variable {S:Sp}{T:Ft}{St:(zP)->(zP)->zU}{rs ws:zP}{i:Nat}{w:zW}{ds:List Deferred}{cs:zL}
noncomputable abbrev Gn (S:Sp) (T:Ft) (ds:List Deferred) (cs:zL) (M L K J I H F E D C:zY) (i:Int) (B A z x v u t s r q p o n m l j h g f e d c b a y:zY) (k:zI):zH:=
 G ((base 240).at ⟨#[.slice T.pa T.N T.cp,M,L,.pointer (aA ⟨T.b3,0,aB⟩),K,.pointer (aA ⟨T.b5,0,aB⟩),.pointer (aA ⟨T.b6,0,aB⟩),.pointer (aA ⟨S.Wg,0,aB⟩),J,I,H,F,E,D,C,.slice T.pa T.N T.cp,.int aD T.N,.int aD i,B,A,z,x,v,u,t,s,r,q,p,o,n,m,l,j,h,g,f,e,d,c,b,a,y],ds⟩ k) cs
def Oh {b:zC}{a:Act}{k:zI}{ops:zQ}{i:Nat}{rest:List Nat}{o:Oper}{f:zN}{args:zA}{d:Nat}(m:S.J w)(e:ops[i]? =aA o)(h:Region.wanted o (yielded ops a.tmps)=aF)(j:b.kind≠.early)
  (c:∀w₁,(aEd a.eval o).run S.P w₁= .ok (.enter f args) w₁) (l:∀w₁,(aEd a.eval o).events S.P w₁ #[]= #[])
  (g:∃tr,S.dK St tr d rs ws (G (Frame.enter S.P f args .normal) (b.at a (aN ops (i::rest)::k)::cs)) w):∃tr,S.dK St tr d rs ws (G (b.at a (aN ops (i::rest)::k)) cs) w:=
 dR m rfl (λw₁=>by rw[stepG_enter e h j (c w₁),listed_none (l w₁)]) g
def Gq (hP:S.P=Tryz.prog)(Zy:S.ty=Tryz.link.tWg)(m:T.mB)(h:T.Ok S rs ws i w)(Is:0<T.N->T.pa=aA ⟨T.bp,T.o,aB⟩)(hi:i<T.N)(hN:T.N<2147483648)(y1 y2 y4 y8 y9 Wm VU VT Z Y Im Il Ik Ij Ii Ih X W V U R Q O L K J I H G F E D C B A)
  (hn:∀(Pz)(w')(d g)(au ar aq ao an),T.Ok S rs Pz (i+1) w'->T.lo<=d->Pz d->Pz g->d<w'.heap.size->g<w'.heap.size->w'.cell? ⟨d,0,aB⟩=aA (.int aD i)->w'.cell? ⟨g,0,aB⟩=aA (T.p0 i)->
   ∃tr,S.dK St tr 0 rs Pz (Gn S T ds cs y1 y2 y4 (.pointer (aA ⟨d,0,aB⟩)) (.pointer (aA ⟨g,0,aB⟩)) Wm VU VT Z Y i au ar aq ao an (.func (.func 244) #[] #[.pointer (aA ⟨S.Wg,0,aB⟩),.pointer (aA ⟨T.b5,0,aB⟩),.pointer (aA ⟨d,0,aB⟩),.pointer (aA ⟨T.b3,0,aB⟩),.pointer (aA ⟨g,0,aB⟩)]) X W V U R Q O L K J I H G F E D C B A [aN Li [1],.inBlock 1,.code Zp,.inLoop L0,.inBlock 0,.code K0]) w'):
  ∃tr,S.dK St tr 0 rs ws (Gn S T ds cs y1 y2 y4 y8 y9 Wm VU VT Z Y i Im Il Ik Ij Ii Ih X W V U R Q O L K J I H G F E D C B A [.code L0,.inLoop L0,.inBlock 0,.code K0]) w:=by
 obtain⟨P,ty,Wg,Cr,Cd,n,m0,Ok,XS,M,Fin,pP,rP⟩:=S;dsimp only at hP;subst hP;have p:=h.live;simp only[L0,f240];refine dR p rfl (λ_=>zGm) ?_;refine dR p rfl (λ_=>zGq) ?_;simp only[zAp,zAf,zAl,Nat.reduceAdd,zBd,List.range,List.range.loop];have Ve:(i:Int)<T.N:=by omega
 refine qY p (.bool aF) rfl rfl (by simp[base]) (λb r=>by go_simp) (λb r e k=>by simp[go_sem]at k) ?_;walk_nrm;refine dR p rfl (λ_=>zGl) ?_;refine dR p rfl (λ_=>zGm) ?_;refine dR p rfl (λ_=>stepG_cond rfl) ?_;simp only[zCs];refine dR p rfl (λ_=>zGs) ?_;refine dR p rfl (λ_=>zGm) ?_;refine dR p rfl (λ_=>zHb) ?_;refine dR p rfl (λ_=>zGm) ?_;refine dR p rfl (λ_=>zGq) ?_;simp only[zAp,zAf,zAl,Nat.reduceAdd,zBd,List.range,List.range.loop];refine qY p (.int aD i) rfl rfl (by simp[base]) (λb r=>by go_simp) (λb r e k=>by simp[go_sem]at k) ?_;walk_nrm;have Mo:¬((i:Int)<0):=by omega
 refine qY p (.pointer (aA ⟨T.bp,T.o+i,aB⟩)) rfl rfl (by simp[base]) (λb r=> ?_) (λb r e k=> ?_) ?_
 .have hp:=Is (by omega);go_simp
 .have e2:(Instr.indexAt 166 (.slice T.pa T.N T.cp) (.int aD i)).events Tryz.prog b #[]= #[]:=by
   rw[Is (by omega)];exact events_indexAt_slice 166 ⟨T.bp,T.o,aB⟩ T.N T.cp aD i (by kernel_rfl) ⟨by omega,Ve⟩
  simp[go_sem,e2]at k
 walk_nrm;refine qY p (T.p0 i) rfl rfl (by simp[base]) (λb r=> ?_) (λb r e k=> ?_) ?_
 .have x:=(h.lM m r).q0 i hi;go_simp
 .have x:=(h.lM m r).q0 i hi;simp[go_sem,x]at k;subst k;exact aH ⟨_,_,_,rfl,aI ⟨rfl,h.rp (by omega)⟩⟩
 walk_nrm;refine Cl (λb=> .pointer (aA ⟨b.heap.size,0,aB⟩)) (λb=>b.alloc (aJ #[.int aD 0] 3)) rfl rfl (by simp[base]) λb r=>⟨by go_simp,qT ws b _,((h.lM m r).alloc m _).live,λe k=>by simp[go_sem]at k,?_⟩;walk_nrm;have h2:=(h.lM m r).alloc m (aJ #[.int aD 0] 3);have a2:=pZ b (aJ #[.int aD 0] 3);have o2:grown ws b (b.alloc (aJ #[.int aD 0] 3)) b.heap.size:=aI ⟨zAb _,by rw[eP];omega⟩;have l2:b.heap.size<(b.alloc (aJ #[.int aD 0] 3)).heap.size:=by rw[eP];omega
 have nk:=(h.lM m r).low;clear r;generalize grown ws b (b.alloc (aJ #[.int aD 0] 3))=q at*;generalize b.alloc (aJ #[.int aD 0] 3)=w2 at*;generalize b.heap.size=d at*;clear b h p;refine Cl (λb=> .pointer (aA ⟨b.heap.size,0,aB⟩)) (λb=>b.alloc (aJ #[.pointer aB] 264)) rfl rfl (by simp[base]) λb r=>⟨by go_simp,qT q b _,((h2.lM m r).alloc m _).live,λe k=>by simp[go_sem]at k,?_⟩;walk_nrm;have h3:=(h2.lM m r).alloc m (aJ #[.pointer aB] 264);have a3:=pZ b (aJ #[.pointer aB] 264);have u:grown q b (b.alloc (aJ #[.pointer aB] 264)) b.heap.size:=aI ⟨zAb _,by rw[eP];omega⟩;have l3:b.heap.size<(b.alloc (aJ #[.pointer aB] 264)).heap.size:=by rw[eP];omega
 have l:grown q b (b.alloc (aJ #[.pointer aB] 264)) d:=aH o2;have l2':=zAd l2 r.size;have v:(b.alloc (aJ #[.pointer aB] 264)).heap[d]? =aA (aJ #[.int aD 0] 3):=(alloc_old _ _ l2').trans ((r.cM d (aI (aH o2))).trans a2);clear r o2 a2 l2 h2;generalize grown q b (b.alloc (aJ #[.pointer aB] 264))=z at*;generalize b.alloc (aJ #[.pointer aB] 264)=w3 at*;generalize b.heap.size=g at*;clear b q w2;refine UZ (λb=>b.setCell ⟨d,0,aB⟩ (.int aD i)) rfl rfl (by simp[base]) λb r=>⟨?_,GG z b _ l,((h3.lM m r).set m _ l).live,?_,?_⟩
 .have s:=(r.cM d (aI (aH l))).trans v;have x:=bC s 0;have k1:=cR s 0;go_simp
 .intro e k;have s:=(r.cM d (aI (aH l))).trans v;have x:=bC s 0;have k1:=cR s 0;rw[kX];simp[go_sem,x,k1]at k;subst k;exact aH ⟨_,_,_,rfl,aH l⟩
 walk_nrm;rw[kX];have h4:=(h3.lM m r).set m (a:=⟨d,0,aB⟩) (.int aD i) l;have a4:=cY ((r.cM d (aI (aH l))).trans v) 0 (.int aD i);have a5:(b.setCell ⟨d,0,aB⟩ (.int aD i)).heap[g]? =aA (aJ #[.pointer aB] 264):=(cE _ _ (show g≠d by omega)).trans ((r.cM g (aI (aH u))).trans a3);have l4:g<(b.setCell ⟨d,0,aB⟩ (.int aD i)).heap.size:=by rw[dY];exact zAd l3 r.size
 simp only[zBr,zDg,zCy]at a4;clear r h3 a3 v l3;generalize b.setCell ⟨d,0,aB⟩ (.int aD i)=w4 at*;clear b w3;refine UZ (λb=>b.setCell ⟨g,0,aB⟩ (T.p0 i)) rfl rfl (by simp[base]) λb r=>⟨?_,GG z b _ u,((h4.lM m r).set m _ u).live,?_,?_⟩
 .have t:=(r.cM g (aI (aH u))).trans a5;have x:=bC t 0;have k1:=cR t 0;go_simp
 .intro e k;have t:=(r.cM g (aI (aH u))).trans a5;have x:=bC t 0;have k1:=cR t 0;rw[kX];simp[go_sem]at k;rw[events_store Tryz.prog _ _ _ (T.p0 i) _ rfl]at k;simp[x,k1]at k;subst k;exact aH ⟨_,_,_,rfl,aH u⟩
 walk_nrm;rw[kX];have y:=(h4.lM m r).set m (a:=⟨g,0,aB⟩) (T.p0 i) u;have a6:=cY ((r.cM g (aI (aH u))).trans a5) 0 (T.p0 i);have a7:(b.setCell ⟨g,0,aB⟩ (T.p0 i)).heap[d]? =aA (aJ #[.int aD i] 3):=(cE _ _ (show d≠g by omega)).trans ((r.cM d (aI (aH l))).trans a4);have l5:g<(b.setCell ⟨g,0,aB⟩ (T.p0 i)).heap.size:=by rw[dY];exact zAd l4 r.size
 simp only[zBr,zDg,zCy]at a6;clear r h4 a4 a5 l4;generalize b.setCell ⟨g,0,aB⟩ (T.p0 i)=w5 at*;clear b w4;refine dR y.live rfl (λ_=>zGl) ?_;refine dR y.live rfl (λ_=>zGm) ?_;refine dR y.live rfl (λ_=>zGq) ?_;simp only[zAp,zAf,zAl,Nat.reduceAdd,zBd,List.range,List.range.loop];refine Oh (f:=181) (args:= #[.pointer (aA ⟨Wg,0,aB⟩),.int aD 1]) y.live rfl rfl (by simp[base]) (λb=> ?_) (λb=> ?_) ?_
 .simp[aEd,resolve,aEe,invoke,callFunc,func181,f181,go_sem]
 .simp[aEd,resolve,aEe,invoke,callFunc,func181,f181,go_sem]
 rw[enter_at (P:=Tryz.prog) (f:=181) (c:=body_add Tryz.link) #[.pointer (aA ⟨Wg,0,aB⟩),.int aD 1] func181 rfl];refine Yw (S:=⟨Tryz.prog,ty,Wg,Cr,Cd,n,m0,Ok,XS,M,Fin,pP,rP⟩) rfl Zy (j:=i) (by omega) y.Xn y.wg λw' r hw=> ?_;have h6:=y.bm m r (i':=i+1) hw;have l6:=zAd l5 r.size;have k8:=bC ((r.cM d (aI l)).trans a7) 0;have k9:=bC ((r.cM g (aI u)).trans a6) 0;clear r y a6 a7 l5;refine dR h6.live rfl (λ_=>zGl) ?_;refine dR h6.live rfl (λ_=>zGq) ?_;simp only[zAp,zAf,zAl,Nat.reduceAdd,zBd,List.range,List.range.loop];walk_nrm;refine qY h6.live (.func (.func 244) #[] #[.pointer (aA ⟨Wg,0,aB⟩),.pointer (aA ⟨T.b5,0,aB⟩),.pointer (aA ⟨d,0,aB⟩),.pointer (aA ⟨T.b3,0,aB⟩),.pointer (aA ⟨g,0,aB⟩)]) rfl rfl (by simp[base]) (λb r=>by go_simp) (λb r e k=>by simp[go_sem]at k) ?_;walk_nrm;exact hn z w' d g _ _ _ _ _ h6 nk l u (by omega) l6 k8 k9
end
def NU:∃i,Tryz.prog.info? 283=aA i/\i.zero=aA (.slice aB 0 0)/\i.size=1/\i.bytes=24:=⟨_,rfl,rfl,rfl,rfl⟩
def Rp {N:Nat}(g:N<2147483648)(w):(Instr.makeSlice 287 (.int aD N) (.int aD N)).run Tryz.prog w= .ok (.slice (aA ⟨w.heap.size,0,aB⟩) N N) (w.alloc (aJ (madeCells #[.slice aB 0 0] N) 283)):=by obtain⟨i,f,d,c,a⟩:=NU;have e:=run_make w 287 283 i (.slice aB 0 0) underlying287 f d aD aD N N (by omega) (by omega) (by rw[a];omega) (by omega);rw[c]at e;simpa [Value.cells]using e
def Yo {N:Nat}(k:N<2147483648)(w):(Instr.makeSlice 287 (.int aD N) (.int aD N)).events Tryz.prog w #[]= #[]:=by
 obtain⟨i,f,e,d,c⟩:=NU;have wl:IntKind.i64.wrap (N:Int)=N:=by rw[zGt];omega
 have j:¬(N:Int)<0:=by omega
 have n:¬(281474976710656<(24:Int)*N):=by omega
 have n3:N*24<=roomBytes:=by simp only[roomBytes];omega
 by_cases a:N=0
 .subst a;have g:IntKind.i64.wrap 0=0:=by{rw[zGt];omega};simp[Instr.makeSlice,run_underlying underlying287,asInt,asIntOf,typeInfo,f,e,d,c,sizeOf,zeroValue,newRow,askRoom,g,go_sem]
 .simp[Instr.makeSlice,run_underlying underlying287,asInt,asIntOf,typeInfo,f,e,d,c,sizeOf,zeroValue,wl,j,n,n3,a,newRow,askRoom,go_sem]
noncomputable def SI:zQ:=match K0 with| .seq (.region _ ops _) _=>ops|_=> #[]
noncomputable def K1:Code:=match K0 with| .seq _ c=>c|_=> .skip
def Ft.gt (S:Sp)(T:Ft)(ds:List Deferred)(cs:zL)(Rw:Nat->zO->Nat->Nat->(zP)->zW->Prop)(rwr:∀{i q l cp h w w₁},Rw i q l cp h w->(∀b,h b->w₁.heap[b]? =w.heap[b]?)->Rw i q l cp h w₁):Gt:=⟨T.N,T.b5,T.b6,S.Cr,S.Cd,ds,cs,Rw,rwr,T.K,T.old,T.lo⟩
section
variable {S:Sp}{T:Ft}{St:(zP)->(zP)->zU}{rs ws:zP}{i:Nat}{w:zW}{ds:List Deferred}{cs:zL}{Rw:Nat->zO->Nat->Nat->(zP)->zW->Prop}{rwr:∀{i q l cp h w w₁},Rw i q l cp h w->(∀b,h b->w₁.heap[b]? =w.heap[b]?)->Rw i q l cp h w₁}
def Dh (hP:S.P=Tryz.prog)(hM:S.M=(T.gt S ds cs Rw rwr).M)(hT:T.mB)(h:T.Ok S rs ws i w)(hN:T.N<2147483648)(j)(y1 y2 y4 y8 y9 Wm VU VT Z Y X W V U R Q O L K I H G F E D C B A z v u t s p o):
  ∃tr,cK Tryz.prog aF S.J (S.M λ_=>False) tr rs ws (Gn S T ds cs y1 y2 y4 y8 y9 Wm VU VT Z Y j X W V U R Q O L K I H G F E D C B A z v u t s p o [aN SI [],.code K1]) w:=by
 rw[hM];refine bK rfl (λ_=>zGl) ?_;simp only[K1,K0,f240];refine bK rfl (λ_=>zGm) ?_;refine bK rfl (λ_=>zGq) ?_;simp only[zAp,zAf,zAl,Nat.reduceAdd,zBd,List.range,List.range.loop];refine cV (.slice T.pa T.N T.cp) rfl rfl (by simp[base]) (λw₁ r _=>by go_simp) (λw₁ r _ e c=>by simp[go_sem]at c) ?_;walk_nrm;refine cV (.int aD T.N) rfl rfl (by simp[base]) (λw₁ r _=>by go_simp) (λw₁ r _ e c=>by simp[go_sem]at c) ?_;walk_nrm;refine MA (λw₁=> .slice (aA ⟨w₁.heap.size,0,aB⟩) T.N T.N) (λw₁=>w₁.alloc (aJ (madeCells #[.slice aB 0 0] T.N) 283)) rfl rfl (by simp[base]) λw₁ r jj=>⟨?_,qT ws w₁ _,λe c=> ?_,?_⟩
 .have e1:=Rp hN w₁;go_simp
 .have e1:=Yo hN w₁;simp[go_sem,e1]at c
 walk_nrm;have hk:∀b,rs b->(w₁.alloc (aJ (madeCells #[.slice aB 0 0] T.N) 283)).heap[b]? =w.heap[b]? :=λb a=>(alloc_old _ _ (zAd (h.zM b a).2 r.size)).trans (r.cM b (aH a));have m:=pZ w₁ (aJ (madeCells #[.slice aB 0 0] T.N) 283);have bT:w₁.heap.size<(w₁.alloc (aJ (madeCells #[.slice aB 0 0] T.N) 283)).heap.size:=by rw[eP];omega
 have xd:=r.size;have g:grown ws w₁ (w₁.alloc (aJ (madeCells #[.slice aB 0 0] T.N) 283)) w₁.heap.size:=aI ⟨zAb _,bT⟩;have n:∀b,rs b->¬grown ws w₁ (w₁.alloc (aJ (madeCells #[.slice aB 0 0] T.N) 283)) b:=λb a x=>x.elim (h.zM b a).1 λy=>by have:=(h.zM b a).2;omega
 have ht:(w₁.alloc (aJ (madeCells #[.slice aB 0 0] T.N) 283)).tape=w.tape:=r.tape;have ho:(w₁.alloc (aJ (madeCells #[.slice aB 0 0] T.N) 283)).os=w.os:=r.os;have hu:(w₁.alloc (aJ (madeCells #[.slice aB 0 0] T.N) 283)).output=w.output:=r.output;clear r jj;generalize grown ws w₁ (w₁.alloc (aJ (madeCells #[.slice aB 0 0] T.N) 283))=ws2 at*;generalize w₁.alloc (aJ (madeCells #[.slice aB 0 0] T.N) 283)=w2 at*;generalize w₁.heap.size=bo at*;clear w₁;have d:∀(b k:Nat),rs b->w2.cell? ⟨b,k,aB⟩=w.cell? ⟨b,k,aB⟩:=λb k a=>by simp only[World.cell?];rw[hk b a]
 have k5:=(d T.b5 0 h.r5).trans h.c5;have k6:=(d T.b6 0 h.r6).trans h.c6;refine cV (.slice (aA ⟨bo,0,aB⟩) T.N T.N) rfl rfl (by simp[base]) (λw₁ r _=>by go_simp) (λw₁ r _ e c=>by simp[go_sem]at c) ?_;walk_nrm;refine bK rfl (λ_=>zGl) ?_;refine bK rfl (λ_=>zHb) ?_;refine bK rfl (λ_=>stepG_loop) ?_;refine bK rfl (λ_=>zHb) ?_;iterate 2 (refine bK rfl (λ_=>zGm) ?_)
 refine bK rfl (λ_=>zGq) ?_;simp only[zAp,zAf,zAl,Nat.reduceAdd,zBd,List.range,List.range.loop];refine cV (.chan (aA S.Cr)) rfl rfl (by simp[base]) (λw₁ r _=> ?_) (λw₁ r _ e c=> ?_) ?_
 .have f:=(bY (aH h.r5) r 0).trans k5;go_simp
 .have f:=(bY (aH h.r5) r 0).trans k5;simp[go_sem,f]at c;subst c;exact aH ⟨_,_,_,rfl,aI ⟨rfl,h.r5⟩⟩
 walk_nrm;refine bK rfl (λ_=>zGl) ?_;refine bK rfl (λ_=>zGq) ?_;simp only[zAp,zAf,zAl,Nat.reduceAdd,zBd,List.range,List.range.loop];refine cV (.chan (aA S.Cd)) rfl rfl (by simp[base]) (λw₁ r _=> ?_) (λw₁ r _ e c=> ?_) ?_
 .have f:=(bY (aH h.r6) r 0).trans k6;go_simp
 .have f:=(bY (aH h.r6) r 0).trans k6;simp[go_sem,f]at c;subst c;exact aH ⟨_,_,_,rfl,aI ⟨rfl,h.r6⟩⟩
 walk_nrm;refine bK rfl (λ_=>zGl) ?_;refine bK rfl (λ_=>zGm) ?_;refine bK rfl (λ_=>zGq) ?_;simp only[zAp,zAf,zAl,Nat.reduceAdd,zBd,List.range,List.range.loop];refine AE λw₁ r _=> ?_;have Ir:∀b,rs b->w₁.heap[b]? =w.heap[b]? :=λb a=>(r.cM b (aH a)).trans (hk b a);refine⟨bo,madeCells #[.slice aB 0 0] T.N,_,_,_,_,_,_,_,_,_,_,_,_,_,_,_,_,_,_,_,_,_,_,_,_,_,_,_,_,_,_,_,_,_,_,_,_,_,_,rfl,⟨h.r5,h.r6,(bY (aH h.r5) r 0).trans k5,(bY (aH h.r6) r 0).trans k6,g,(r.cM bo (aI g)).trans m,size_madeCells _ _,zAd bT r.size,λb a=>⟨n b a,?_⟩,λ_ _ x=>x.elim,hT w w₁ h.held (λb a=>Ir b (h.yN b a)) ?_ (r.tape.trans ht) (r.os.trans ho) (r.output.trans hu),h.yN,zBb h.low xd⟩⟩
 .have:=(h.zM b a).2;have:=r.size;omega
 .have:=r.size;omega
def Ft.Ok.hand {hh:zP}(h:T.Ok S rs ws i w)(d:∀b,hh b->rs b\/ws b)(c:∀b,hh b->b<w.heap.size):T.Ok S (λb=>rs b\/hh b) (λb=>ws b/\¬hh b) i w:=
 ⟨λb a=>⟨λx=>a.elim (λy=>(h.zM b y).1 x.1) λy=>x.2 y,a.elim (λy=>(h.zM b y).2) (c b)⟩,λb a=>a.elim (λx=>x.elim (λy=>h.Xn b (aH y)) λy=>h.Xn b (d b y)) λx=>h.Xn b (aI x.1),aH h.r3,aH h.r5,aH h.r6,λx=>aH (h.rp x),h.c3,h.c5,h.c6,h.q0,h.wg,λb a=>aH (h.yN b a),h.held,h.low⟩
end
section
variable {S:Sp}{T:Ft}{St:(zP)->(zP)->zU}{rs ws:zP}{i:Nat}{w:zW}{ds:List Deferred}{cs:zL}{Rw:Nat->zO->Nat->Nat->(zP)->zW->Prop}{rwr:∀{i q l cp h w w₁},Rw i q l cp h w->(∀b,h b->w₁.heap[b]? =w.heap[b]?)->Rw i q l cp h w₁}
def WN (j)(U R Q P O M L K J I H G F E D C B X A z x v u t s r p o n m g f d c y:zY)(w):
  stepG Tryz.prog aF (Gn S T ds cs U R Q P O M L K J I j H G F E D C B (.func (.func 245) #[] #[.pointer (aA ⟨T.b6,0,aB⟩),.pointer (aA ⟨S.Wg,0,aB⟩)]) A z x v u t s r p o n m g f d c y [aN SI [1],.code K1]) w=
  .spawn (Gn S T ds cs U R Q P O M L K J I j H G F E D C B (.func (.func 245) #[] #[.pointer (aA ⟨T.b6,0,aB⟩),.pointer (aA ⟨S.Wg,0,aB⟩)]) A z x v u t s r p o n m g f d c y [aN SI [],.code K1]) (born Tryz.prog ⟨.fn (.func 245) #[.pointer (aA ⟨T.b6,0,aB⟩),.pointer (aA ⟨S.Wg,0,aB⟩)],#[]⟩) w #[]:=by
 have Y:SI[1]? =aA {dst:=aB,op:= .go {callee:= .value (.tmp 25),args:= #[],argTypes:= #[]},type:=0,pos:= "gather.go:30",after:= #[⟨0,.data⟩],guard:=aB}:=rfl;have W:∀a:Act,a.eval (.tmp 25)=(.func (.func 245) #[] #[.pointer (aA ⟨T.b6,0,aB⟩),.pointer (aA ⟨S.Wg,0,aB⟩)])->(aEd a.eval {dst:=aB,op:= .go {callee:= .value (.tmp 25),args:= #[],argTypes:= #[]},type:=0,pos:= "gather.go:30",after:= #[⟨0,.data⟩],guard:=aB}).run Tryz.prog w= .ok (.spawn ⟨.fn (.func 245) #[.pointer (aA ⟨T.b6,0,aB⟩),.pointer (aA ⟨S.Wg,0,aB⟩)],#[]⟩) w/\
   (aEd a.eval {dst:=aB,op:= .go {callee:= .value (.tmp 25),args:= #[],argTypes:= #[]},type:=0,pos:= "gather.go:30",after:= #[⟨0,.data⟩],guard:=aB}).events Tryz.prog w #[]= #[]:=λa V=>by
  simp only[Act.eval,zAu]at V
  constructor
  .simp[aEd,resolve,aEe,V,go_sem]
  .simp[aEd,resolve,aEe,V,go_sem]
 have e:=stepG_spawn (main:=aF) (b:=base 240) (k:=[.code K1]) (cs:=cs) (rest:=[]) Y (a:=⟨#[.slice T.pa T.N T.cp,U,R,.pointer (aA ⟨T.b3,0,aB⟩),Q,.pointer (aA ⟨T.b5,0,aB⟩),.pointer (aA ⟨T.b6,0,aB⟩),.pointer (aA ⟨S.Wg,0,aB⟩),P,O,M,L,K,J,I,.slice T.pa T.N T.cp,.int aD T.N,.int aD j,H,G,F,E,D,C,B,(.func (.func 245) #[] #[.pointer (aA ⟨T.b6,0,aB⟩),.pointer (aA ⟨S.Wg,0,aB⟩)]),A,z,x,v,u,t,s,r,p,o,n,m,g,f,d,c,y],ds⟩) rfl (by simp[base]) (W _ rfl).1 rfl;rw[listed_none (W _ rfl).2]at e;exact e
def MW (j)(P O)(W V U R Q M L K J I H G F E D Z C B A z x v u t s r p o n m g f d c y:zY)(w):
  stepG Tryz.prog aF (Gn S T ds cs W V U R Q M L K J I j H G F E D (.func (.func 244) #[] #[.pointer (aA ⟨S.Wg,0,aB⟩),.pointer (aA ⟨T.b5,0,aB⟩),.pointer (aA ⟨P,0,aB⟩),.pointer (aA ⟨T.b3,0,aB⟩),.pointer (aA ⟨O,0,aB⟩)]) C B A z x v u t s r p o n m g f d c y [aN Li [1],.inBlock 1,.code Zp,.inLoop L0,.inBlock 0,.code K0]) w=
  .spawn (Gn S T ds cs W V U R Q M L K J I j H G F E D (.func (.func 244) #[] #[.pointer (aA ⟨S.Wg,0,aB⟩),.pointer (aA ⟨T.b5,0,aB⟩),.pointer (aA ⟨P,0,aB⟩),.pointer (aA ⟨T.b3,0,aB⟩),.pointer (aA ⟨O,0,aB⟩)]) C B A z x v u t s r p o n m g f d c y [aN Li [],.inBlock 1,.code Zp,.inLoop L0,.inBlock 0,.code K0]) (born Tryz.prog ⟨.fn (.func 244) #[.pointer (aA ⟨S.Wg,0,aB⟩),.pointer (aA ⟨T.b5,0,aB⟩),.pointer (aA ⟨P,0,aB⟩),.pointer (aA ⟨T.b3,0,aB⟩),.pointer (aA ⟨O,0,aB⟩)],#[]⟩) w #[]:=by
 have ho:Li[1]? =aA {dst:=aB,op:= .go {callee:= .value (.tmp 23),args:= #[],argTypes:= #[]},type:=0,pos:= "gather.go:25",after:= #[⟨0,.data⟩],guard:=aB}:=rfl;have Y:∀a:Act,a.eval (.tmp 23)=(.func (.func 244) #[] #[.pointer (aA ⟨S.Wg,0,aB⟩),.pointer (aA ⟨T.b5,0,aB⟩),.pointer (aA ⟨P,0,aB⟩),.pointer (aA ⟨T.b3,0,aB⟩),.pointer (aA ⟨O,0,aB⟩)])->(aEd a.eval {dst:=aB,op:= .go {callee:= .value (.tmp 23),args:= #[],argTypes:= #[]},type:=0,pos:= "gather.go:25",after:= #[⟨0,.data⟩],guard:=aB}).run Tryz.prog w= .ok (.spawn ⟨.fn (.func 244) #[.pointer (aA ⟨S.Wg,0,aB⟩),.pointer (aA ⟨T.b5,0,aB⟩),.pointer (aA ⟨P,0,aB⟩),.pointer (aA ⟨T.b3,0,aB⟩),.pointer (aA ⟨O,0,aB⟩)],#[]⟩) w/\
   (aEd a.eval {dst:=aB,op:= .go {callee:= .value (.tmp 23),args:= #[],argTypes:= #[]},type:=0,pos:= "gather.go:25",after:= #[⟨0,.data⟩],guard:=aB}).events Tryz.prog w #[]= #[]:=λa X=>by
  simp only[Act.eval,zAu]at X
  constructor
  .simp[aEd,resolve,aEe,X,go_sem]
  .simp[aEd,resolve,aEe,X,go_sem]
 have e:=stepG_spawn (main:=aF) (b:=base 240) (k:=[.inBlock 1,.code Zp,.inLoop L0,.inBlock 0,.code K0]) (cs:=cs) (rest:=[]) ho (a:=⟨#[.slice T.pa T.N T.cp,W,V,.pointer (aA ⟨T.b3,0,aB⟩),U,.pointer (aA ⟨T.b5,0,aB⟩),.pointer (aA ⟨T.b6,0,aB⟩),.pointer (aA ⟨S.Wg,0,aB⟩),R,Q,M,L,K,J,I,.slice T.pa T.N T.cp,.int aD T.N,.int aD j,H,G,F,E,D,(.func (.func 244) #[] #[.pointer (aA ⟨S.Wg,0,aB⟩),.pointer (aA ⟨T.b5,0,aB⟩),.pointer (aA ⟨P,0,aB⟩),.pointer (aA ⟨T.b3,0,aB⟩),.pointer (aA ⟨O,0,aB⟩)]),C,B,A,z,x,v,u,t,s,r,p,o,n,m,g,f,d,c,y],ds⟩) rfl (by simp[base]) (Y _ rfl).1 rfl;rw[listed_none (Y _ rfl).2]at e;exact e
def Mx (hP:S.P=Tryz.prog)(a:S.J w)(Z Y X W V O L K I H R G F E D C B Q A z x v u t s p o m k j g f d c y)
  (hn:∃tr,S.dK St tr 0 rs ws (Gn S T ds cs Z Y X W V O L K I H T.N (.bool aG) G F E D C B (.func (.func 245) #[] #[.pointer (aA ⟨T.b6,0,aB⟩),.pointer (aA ⟨S.Wg,0,aB⟩)]) A z x v u t s p o m k j g f d c y [aN SI [1],.code K1]) w):
  ∃tr,S.dK St tr 0 rs ws (Gn S T ds cs Z Y X W V O L K I H T.N R G F E D C B Q A z x v u t s p o m k j g f d c y [.code L0,.inLoop L0,.inBlock 0,.code K0]) w:=by
 obtain⟨P,ty,Wg,Cr,Cd,n,m0,Ok,XS,M,Fin,pP,rP⟩:=S;dsimp only at hP;subst hP;simp only[L0,f240];refine dR a rfl (λ_=>zGm) ?_;refine dR a rfl (λ_=>zGq) ?_;simp only[zAp,zAf,zAl,Nat.reduceAdd,zBd,List.range,List.range.loop];refine qY a (.bool aG) rfl rfl (by simp[base]) (λw₁ r=>by go_simp) (λw₁ r e U=>by simp[go_sem]at U) ?_;walk_nrm;refine dR a rfl (λ_=>zGl) ?_;refine dR a rfl (λ_=>zGm) ?_;refine dR a rfl (λ_=>stepG_cond rfl) ?_;simp only[zBe,zDe];refine dR a rfl (λ_=>stepG_exit rfl) ?_;simp only[K0,f240];refine dR a rfl (λ_=>zGm) ?_;refine dR a rfl (λ_=>zGq) ?_;simp only[zAp,zAf,zAl,Nat.reduceAdd,zBd,List.range,List.range.loop];refine qY a (.func (.func 245) #[] #[.pointer (aA ⟨T.b6,0,aB⟩),.pointer (aA ⟨Wg,0,aB⟩)]) rfl rfl (by simp[base]) (λw₁ r=>by go_simp) (λw₁ r e U=>by simp[go_sem]at U) ?_;walk_nrm;exact hn
def Gr (Z:S.P=Tryz.prog)(a:S.J w)(hi:i<2147483648)(Y X W V U O N L K I H G F E D C Q B A z x v u t s p o m k j g f d c y)
  (hn:∃tr,S.dK St tr 0 rs ws (Gn S T ds cs Y X W V U O N L K I ((i+1:Nat):Int) H G F E D C (.int aD ((i+1:Nat):Int)) B A z x v u t s p o m k j g f d c y [.code L0,.inLoop L0,.inBlock 0,.code K0]) w):
  ∃tr,S.dK St tr 0 rs ws (Gn S T ds cs Y X W V U O N L K I i H G F E D C Q B A z x v u t s p o m k j g f d c y [aN Li [],.inBlock 1,.code Zp,.inLoop L0,.inBlock 0,.code K0]) w:=by
 obtain⟨P,ty,Wg,Cr,Cd,n,m0,Ok,XS,M,Fin,pP,rP⟩:=S;dsimp only at Z;subst Z;have wl:IntKind.i64.wrap ((i:Int)+1)=((i+1:Nat):Int):=by rw[zGt];omega
 refine dR a rfl (λ_=>zGl) ?_;refine dR a rfl (λ_=>stepG_inBlock) ?_;simp only[Zp,L0,f240];refine dR a rfl (λ_=>zGq) ?_;simp only[zAp,zAf,zAl,Nat.reduceAdd,zBd,List.range,List.range.loop];refine qY a (.int aD ((i+1:Nat):Int)) rfl rfl (by simp[base]) (λw₁ r=>by go_simp) (λw₁ r e R=>by simp[go_sem]at R) ?_;walk_nrm;refine qY a (.int aD ((i+1:Nat):Int)) rfl rfl (by simp[base]) (λw₁ r=>by go_simp) (λw₁ r e R=>by simp[go_sem]at R) ?_;walk_nrm;refine dR a rfl (λ_=>zGl) ?_;refine dR a rfl (λ_=>stepG_inLoop) ?_;exact hn
def Vi {f:zN}{fn:Func}{first cap:zA}(Is:0<T.N->T.pa=aA ⟨T.bp,T.o,aB⟩)(Y:S.P=Tryz.prog)(Zy:S.ty=Tryz.link.tWg)(hA:S.pP=Cs T.b6 S.Wg S.Cd)(hM:S.M=(T.gt S ds cs Rw rwr).M)(hT:T.mB)(hN:T.N<2147483648)(hn:S.n=T.N)
  (xf:T.fv= .func (.func f) first cap) (hf:Tryz.prog.funcs[f]? =aA fn) (ki:¬fn.name= "runtime.NumGoroutine") (hb:¬fn.body=aB)
  (hW:∀i,i<T.N->∀(br:zP)(w w':zW),T.K w->(∀b,T.old b->br b)->(∃b,br b/\T.lo<=b)->(∀b,T.old b->w'.heap[b]? =w.heap[b]?)->Works S.J br w' f (first.push (T.p0 i)++cap) λq l cp ws w=>S.Ok i (.agg #[.int aD i,.slice q l cp]) ws w):
  ∀(k i:Nat)(rs ws:zP)(w:zW)(y1 y2 y4 y8 y9 I H G F E Z W V U R Q O L D C B A z v u t s p m j g e d c a:zY),i+k=T.N->T.Ok S rs ws i w->
  ∃tr,S.dK (S.Fk k) tr 0 rs ws (Gn S T ds cs y1 y2 y4 y8 y9 I H G F E i Z W V U R Q O L D C B A z v u t s p m j g e d c a [.code L0,.inLoop L0,.inBlock 0,.code K0]) w
 |0,i,rs,ws,w,y1,y2,y4,y8,y9,I,H,G,F,E,Z,W,V,U,R,Q,O,L,D,C,B,A,z,v,u,t,s,p,m,j,g,e,d,c,a,hik,h=>by have hi:i=T.N:=by{omega};subst hi;refine Mx Y h.live y1 y2 y4 y8 y9 I H G F E Z W V U R Q O L D C B A z v u t s p m j g e d c a ?_;refine Cm λw₁ r=> ?_;have X:=h.lM hT r;have e1:(λb=>rs b\/rs b)=rs:=funext λb=>propext ⟨λx=>x.elim id id,aH⟩;have e2:(λb=>ws b/\¬rs b)=ws:=funext λb=>propext ⟨λx=>x.1,λx=>⟨x,λy=>(h.zM b y).1 x⟩⟩;refine⟨rfl,by rw[hn];exact X.wg,_,_,rs,by rw[Y];exact WN T.N y1 y2 y4 y8 y9 I H G F E (.bool aG) W V U R Q O L D C B A z v u t s p m j g e d c a w₁,λ_ x=>aH x,?_,?_⟩;{rw[Y];exact UP S Y Zy hA X.r6 X.c6 X.live};{rw[e1,e2,Y];exact Dh (Rw:=Rw) (rwr:=rwr) Y hM hT X hN T.N y1 y2 y4 y8 y9 I H G F E (.bool aG) W V U R Q O (.func (.func 245) #[] #[.pointer (aA ⟨T.b6,0,aB⟩),.pointer (aA ⟨S.Wg,0,aB⟩)]) D C B A z v u t s p m j g e d c a}
 |k+1,i,rs,ws,w,y1,y2,y4,y8,y9,I,H,G,F,E,Z,W,V,U,R,Q,O,L,D,C,B,A,z,v,u,t,s,p,m,j,g,e,d,c,a,hik,h=>by
  refine Gq Y Zy hT h Is (by omega) hN y1 y2 y4 y8 y9 I H G F E Z W V U R Q O L D C B A z v u t s p m j g e d c a λPz w' b8 b9 au ar aq ao an h' nk o8 o9 l8 l9 k8 k9=> ?_;refine Cm λw₁ r=> ?_;have X:=h'.lM hT r;have hk8:=(bY (aI (aH o8)) r 0).trans k8;have hk9:=(bY (aI (aH o9)) r 0).trans k9;have Mn:∀b,rs b\/b=b8\/b=b9->rs b\/Pz b:=λb hb=>by obtain x|rfl|rfl:=hb;{exact aH x};{exact aI o8};{exact aI o9}
  have bT:∀b,rs b\/b=b8\/b=b9->b<w₁.heap.size:=λb hb=>by obtain x|rfl|rfl:=hb;{exact(X.zM b x).2};{exact zAd l8 r.size};{exact zAd l9 r.size}
  have h2:=X.hand (hh:=λb=>rs b\/b=b8\/b=b9) Mn bT;refine⟨rfl,_,_,λb=>rs b\/b=b8\/b=b9,by rw[Y];exact MW i b8 b9 y1 y2 y4 (.pointer (aA ⟨b8,0,aB⟩)) (.pointer (aA ⟨b9,0,aB⟩)) I H G F E au ar aq ao an Q O L D C B A z v u t s p m j g e d c a w₁,Mn,?_,?_⟩;{have e3:S.n-1-k=i:=by{omega};rw[e3,Y];exact PT S Y Zy bT ⟨aH X.r5,aI (aH rfl),aH X.r3,aI (aI rfl),X.c5,hk8,by rw[X.c3,xf],hk9⟩ hf ki hb λlq dz=>hW i (by omega) _ w₁ lq X.held (λb hb=>aH (X.yN b hb)) ⟨b8,aI (aH rfl),nk⟩ λb hb=>dz b (aH (X.yN b hb))};{refine Gr Y h2.live (by omega) y1 y2 y4 (.pointer (aA ⟨b8,0,aB⟩)) (.pointer (aA ⟨b9,0,aB⟩)) I H G F E au ar aq ao an (.func (.func 244) #[] #[.pointer (aA ⟨S.Wg,0,aB⟩),.pointer (aA ⟨T.b5,0,aB⟩),.pointer (aA ⟨b8,0,aB⟩),.pointer (aA ⟨T.b3,0,aB⟩),.pointer (aA ⟨b9,0,aB⟩)]) O L D C B A z v u t s p m j g e d c a ?_;exact Vi Is Y Zy hA hM hT hN hn xf hf ki hb hW k (i+1) _ _ w₁ y1 y2 y4 (.pointer (aA ⟨b8,0,aB⟩)) (.pointer (aA ⟨b9,0,aB⟩)) I H G F E au ar aq ao an (.func (.func 244) #[] #[.pointer (aA ⟨S.Wg,0,aB⟩),.pointer (aA ⟨T.b5,0,aB⟩),.pointer (aA ⟨b8,0,aB⟩),.pointer (aA ⟨T.b3,0,aB⟩),.pointer (aA ⟨b9,0,aB⟩)]) (.int aD ((i+1:Nat):Int)) L D C B A z v u t s p m j g e d c a (by omega) h2}
end
open Go.Conc Go.Ren Go.Proofs Go.RowKit Go.Conc.Lib Go.Wg Go.Tr
open Go.ConcN (sumTo upd sumTo_upd upd_same upd_ne)
structure Calm (Sh:zP)(B:Nat)(t:Trace):Prop where
 past:Past (λl=>∃b,blk l=aA b/\Sh b) B t
 Wy:∀b,Sh b->∀i a,touchAt t i=aA a->blk a.loc=aA b->a.kind≠.plain
abbrev EvC (Sh:zP)(B:Nat)(e:Event):Prop:=EvL (λl=>∃b,blk l=aA b/\Sh b) B e
section
variable {P:zZ}{Sh:zP}{B B':Nat}{t:Trace}{gs:zG}{q:Nat->Nat}{sl:Option (Nat×Nat)}{w:zW}{a:zH}
def Calm.mono (h:Calm Sh B t)(b:B<=B'):Calm Sh B' t:=⟨h.past.mono b,h.Wy⟩
def Calm.own (h:Calm Sh B t){fn:zN}{pos:String}{es:zE}(j:∀e∈es,EvC Sh B e):Calm Sh B (t++aEs 0 fn pos es):=
 ⟨h.past.own j,λb k i x hi g=>by
  obtain⟨_,l⟩|⟨op,_,_,d,c⟩:=dM hi;{exact h.Wy b k i x l g}
  .obtain⟨e,f,rfl⟩:=Go.Conc.mem_ofEvents d;exact(j e f).1 x c ⟨b,g,k⟩⟩
def Calm.mute (h:Calm Sh B t){g:Nat}(l:g≠0){fn:zN}{pos:String}{es:zE}(j:∀e∈es,e.mute=aF):Calm Sh B (t++aEs g fn pos es):=
 ⟨h.past.mute l j,λb m i x hi k=>by
  obtain⟨_,n⟩|⟨op,_,_,d,c⟩:=dM hi;{exact h.Wy b m i x n k}
  .obtain⟨e,f,rfl⟩:=Go.Conc.mem_ofEvents d;rw[touch_mute (j e f)]at c;cases c⟩
def xF (k:Leavers P t gs q){j g d w' u c}(f:∀op∈u,op.g=j)(n:j<gs.size)(m:∀i,i≠j->c i=q i)(h:0<j->QuitsD P (c j) (Deaf (t++u) j) d):
  Leavers P (t++u) ((gs.map (woken P g d w')).setIfInBounds j d) c:=by
 refine⟨λi x hi b=> ?_,λi hi=> ?_⟩
 .by_cases e:j=i
  .subst e;rw[zAo (by simpa using n)]at b;cases b;exact h hi
  .rw[zAe e,zCg]at b;obtain⟨y,l,rfl⟩:=zBp.1 b;have:=k.old i y hi l;rw[woken_quitsD this,Deaf_other t e u f,m i λx=>e x.symm];exact this
 .simp only[zDa,Array.size_map]at hi;rw[Deaf_other t (by omega) u f];exact k.above i hi
def AQ {a':Nat->zH}{w':Nat->zW}{es:Nat->zE}{C:Nat->Nat}(H:a.status= .running)(G:∀d,stepG P aF a (w.at d)= .go (a' d) (w' d) (es d))(L:∀d,B<=C d)(X:∀d,∀e∈es d,EvC Sh (C d) e):
  ∀(M)(gs)(d)(sl)(t)(q),sumTo gs.size q=M->gs[0]? =aA a->Leavers P t gs q->Calm Sh B t->
  ∃(N v:Nat)(b:zG)(s:Option (Nat×Nat))(m:Trace)(E:Nat->Nat),runNT P N (crowd gs (w.at d) sl) t=(.next (crowd b (w' v) s),m)/\b.size=gs.size/\b[0]? =aA (a' v)/\Leavers P m b E/\Calm Sh (C v) m:=by
 intro M;induction M using Nat.strongRecOn with
 |_ M U=>
  intro gs d sl t q hM r D T;have K:∀g∈gs,Go.Conc.awake g:=by intro y V;obtain⟨i,hi,rfl⟩:=Array.mem_iff_getElem.1 V;have F:=zAj hi;by_cases u:i=0;{subst u;rw[r]at F;rw[<-zAk F];exact awake_of (aH H)};{exact awake_of ((D.old i _ (by omega) F).status.elim aH λx=>aI (aI x))}
  obtain⟨j,g,d1,s,p,A,S⟩:=crowd_pick (P:=P) (w:=w.at d) (sl:=sl) K ⟨0,a,r,H⟩;have bT:=(zAa.1 p).1;have c:∀(g:Nat)(fn:zN)(pos:String)(es:zE),∀op∈aEs g fn pos es,op.g=g:=λg fn pos es op J=>by{obtain⟨e,_,rfl⟩:=Go.Conc.mem_ofEvents J;rfl};by_cases u:j=0;{subst u;rw[r]at p;cases p;have h:=runT_crowd_go (sl:=s) r (show stepG P (0==0) a ((w.at d).at d1)=_ from G d1);refine⟨1,d1,(gs.map (woken P a (a' d1) (w' d1))).setIfInBounds 0 (a' d1),s,t++aEs 0 a.frame.fn a.frame.place (es d1),q,by simp only[runNT,S,h],by simp,by rw[zAo (by simpa using bT)],xF D (c 0 _ _ _) bT (λ_ _=>rfl) (λx=>absurd x (zDy 0)),(T.mono (L d1)).own (X d1)⟩}
  .have z:=D.old j g (by omega) p;cases l:q j with
   |zero=>rw[l]at z;rw[z.1]at A;cases A
   |succ k=>
    rw[l]at z;obtain⟨W,_⟩|⟨_,O,Q,hm,o,I⟩:=z;{rw[W]at A;cases A}
    .have h:=runT_crowd_go (sl:=s) (i:=j) p (by rw[show(j==0)=aG by simp;omega];exact o ((w.at d).at d1));have R:sumTo gs.size (upd q j k)+(k+1)=sumTo gs.size q+k:=by
      have:=sumTo_upd q k id bT;simp only[id_eq,l]at this;exact this
     have f:woken P g O ((w.at d).at d1) a=a:=woken_running H;obtain⟨N,v,b,n,m,E,h1,Z,Y⟩:=U (sumTo gs.size (upd q j k)) (by omega) ((gs.map (woken P g O ((w.at d).at d1))).setIfInBounds j O) d1 s (t++aEs j g.frame.fn g.frame.place Q) (upd q j k) (by simp) (by rw[zAe u,zCg,r,zBi,f])
      (xF D (c j _ _ _) bT (λi hi=>upd_ne q k hi) λ_=>by rw[upd_same,Deaf_own];exact I) (T.mute u hm)
     exact⟨N+1,v,b,n,m,E,by simp only[runNT,S,h];exact h1,by rw[Z];simp,Y⟩
end
open Go.ConcR (wgBlock)
abbrev eX (P:zZ)(Sh:zP)(B:Nat)(Stop:zU)(n:Nat):zU:=Go.Conc.Goes P aF Go.Conc.AtRel (λ_ _ a=>∀e∈a,EvC Sh B e) Stop n
section
variable {P:zZ}{Sh:zP}{B:Nat}{Stop:zU}
def tJ:∀(n:Nat)(a:zH)(w:zW)(c:zG)(s:Option (Nat×Nat))(t:Trace)(q:Nat->Nat),eX P Sh B Stop n a w->c[0]? =aA a->Leavers P t c q->Calm Sh B t->
  ∃(N:Nat)(b:zG)(F:zH)(j:zW)(f:Option (Nat×Nat))(k:Trace)(y:Nat->Nat),runNT P N (crowd c w s) t=(.next (crowd b j f),k)/\b.size=c.size/\b[0]? =aA F/\Stop F j/\Leavers P k b y/\Calm Sh B k
 |0,a,w,c,s,t,q,h,p,o,hC=>⟨0,c,a,w,s,t,q,rfl,rfl,p,h w (atRel_refl w),o,hC⟩
 |n+1,a,w,c,s,t,q,h,p,o,hC=>by
  obtain h|⟨H,h⟩:=h;{exact⟨0,c,a,w,s,t,q,rfl,rfl,p,h w (atRel_refl w),o,hC⟩}
  .have i:∀d,∃x:zH×zW×zE,stepG P aF a (w.at d)= .go x.1 x.2.1 x.2.2/\(∀e∈x.2.2,EvC Sh B e)/\eX P Sh B Stop n x.1 x.2.1:=λd=>by
    obtain⟨g',j,G,D,A,z⟩:=goes_elim (h (w.at d) ⟨d,rfl⟩);exact⟨(g',j,G),D,A,z⟩
   obtain⟨N,d,b,f,k,y,D,A,z,J,I⟩:=AQ (w:=w) (a':=λd=>(aEi (i d)).1) (w':=λd=>(aEi (i d)).2.1) (es:=λd=>(aEi (i d)).2.2) H (λd=>(zAw (i d)).1) (C:=λ_=>B) (λ_=>zAb _) (λd=>(zAw (i d)).2.1) (sumTo c.size q) c w.drawn s t q rfl p o hC;obtain⟨O,m,E,r,l,u,v,M,L,K⟩:=tJ n _ _ b f k y (zAw (i d)).2.2 z J I;exact⟨N+O,m,E,r,l,u,v,by rw[runNT_add,show crowd c w s=crowd c (w.at w.drawn) s from rfl,D];exact M,L.trans A,K⟩
end
def ext (w:zW)(os:zJ):zW:={w with heap:=w.heap++os}
section
variable {w:zW}{os:zJ}
def lV:(ext w os).heap.size=w.heap.size+os.size:=by simp[ext]
def ext_get {B i}(h:w.heap.size=B):(ext w os).heap[B+i]? =os[i]? :=by subst h;show(w.heap++os)[w.heap.size+i]? =_;rw[zCc (by omega)];congr 1;omega
def Ts {b}(h:b<w.heap.size):(ext w os).heap[b]? =w.heap[b]? :=by show(w.heap++os)[b]? =_;rw[zCr h]
def nB (o):(ext w os).alloc o=ext w (os.push o):=by simp[ext,World.alloc]
def Bs {B i}(f:w.heap.size=B){c t fr}(h:os[i]? =aA (aJ c t fr))(v):(ext w os).setCell ⟨B+i,0,aB⟩ v=ext w (os.setIfInBounds i (aJ (c.setIfInBounds 0 v) t fr)):=by
 subst f;have hi:=(zAa.1 h).1;have d:os[i]=aJ c t fr:=by simpa [zAj hi]using h
 simp only[ext,World.setCell,World.mk.injEq,and_true,true_and];apply Array.ext
 .simp
 .intro k a b;simp only[Array.size_modify,zEp]at a;rw[Array.getElem_modify];by_cases e:w.heap.size+i=k
  .subst e;simp[aEy,d]
  .rw[zAv e];simp only[aEy];split
   .rfl
   .rw[Array.getElem_setIfInBounds_ne];omega
end
section
variable {P:zZ}{Sh:zP}{B B0 n:Nat}{Stop:zU}{w:zW}{os Qg:zJ}{g g':zH}
def eX.rely {w₁}(h:eX P Sh B Stop n g w)(r:Go.Conc.AtRel w w₁):eX P Sh B Stop n g w₁:=Go.Conc.Goes.rely atRel_trans h r
def KY {es:zW->zE}(b:w.heap.size=B0)(c:g.status= .running)(h:∀w,w.heap.size=B0->stepG P aF g (ext w os)= .go g' (ext w Qg) (es w))(i:∀w,w.heap.size=B0->∀e∈es w,EvC Sh B e)(f:eX P Sh B Stop n g' (ext w Qg)):eX P Sh B Stop (n+1) g (ext w os):=
 aI ⟨c,λa ⟨d,e⟩=>by subst e;rw[show(ext w os).at d=ext (w.at d) os from rfl,h (w.at d) b,goes_go];exact⟨i (w.at d) b,eX.rely f ⟨d,rfl⟩⟩⟩
def aY (b:g.status= .running)(h:∀w,stepG P aF g w= .go g' w #[])(c:eX P Sh B Stop n g' w):eX P Sh B Stop (n+1) g w:=
 aI ⟨b,λa r=>by rw[h a,goes_go];exact⟨by simp,eX.rely c r⟩⟩
def iB {b:zC}{a:Act}{k:zI}{cs:zL}{ops:zQ}{i:Nat}{rest:List Nat}{o:Oper}(v:zY)(Qg:zJ)(p:w.heap.size=B0)(f:ops[i]? =aA o)(d:Region.wanted o (yielded ops a.tmps)=aF)(l:b.kind≠.early)
  (h:∀w,w.heap.size=B0->(aEd a.eval o).run P (ext w os)= .ok (.value v) (ext w Qg)/\∀e∈(aEd a.eval o).events P (ext w os) #[],EvC Sh B e) (j:eX P Sh B Stop n (G (b.at (a.put o.dst v) (aN ops rest::k)) cs) (ext w Qg)):
  eX P Sh B Stop (n+1) (G (b.at a (aN ops (i::rest)::k)) cs) (ext w os):=
 KY (es:=λw=>listed P b.fn a o (ext w os)) p rfl (λw c=>stepG_value f d l (h w c).1) (λw c e m=>(h w c).2 e (zHc m)) j
def KZ {b:zC}{a:Act}{k:zI}{cs:zL}{ops:zQ}{i:Nat}{rest:List Nat}{o:Oper}(Qg:zJ)(p:w.heap.size=B0)(f:ops[i]? =aA o)(d:Region.wanted o (yielded ops a.tmps)=aF)(l:b.kind≠.early)
  (h:∀w,w.heap.size=B0->(aEd a.eval o).run P (ext w os)= .ok .skip (ext w Qg)/\∀e∈(aEd a.eval o).events P (ext w os) #[],EvC Sh B e) (j:eX P Sh B Stop n (G (b.at (a.put o.dst aEn) (aN ops rest::k)) cs) (ext w Qg)):
  eX P Sh B Stop (n+1) (G (b.at a (aN ops (i::rest)::k)) cs) (ext w os):=
 KY (es:=λw=>listed P b.fn a o (ext w os)) p rfl (λw c=>stepG_none f d l (h w c).1) (λw c e m=>(h w c).2 e (zHc m)) j
def gN {a wr s}(f:¬Sh a.block)(e:a.block<B):EvC Sh B ⟨.cell a,wr,s⟩:=by have c:MemAct.ofEvent ⟨.cell a,wr,s⟩= .access ⟨.cell a,wr,s⟩:=rfl;refine⟨λx h ⟨b,hb,d⟩=> ?_,by simp,by simp,by rw[c];exact e⟩;rw[c]at h;simp only[MemAct.touch?,aEx]at h;subst h;simp only[blk,aEx]at hb;subst hb;exact absurd d f
end
end Go.Ga
namespace Go.Ren
open Go.Conc (G)
section
variable {P:zZ}{Al:zF}{K:Kp}{fs:Array Func}{R:zR}
def TE (t:Shape P fs)(f:K.nR=aB){π fr fr' own' v w}(h:VM P Al K π fr [] v fr' own' w){x}(S:∀J d,fr.leaving P (v.re J d) (aM x))(g:fs[fr.fn]? =P.funcs[fr.fn]?)(k)(c)(cs):
  stepG ⟨P.toTables,fs⟩ k (G fr' (own'++c::cs)) w=stepG P k (G fr' (own'++c::cs)) w:=by
 obtain⟨Q,O,N,fn,F,M⟩:=S w.tape w.drawn;have U:=h.world.ok;have s:fr'.mode= .returning:=by have:=h.frame.mode;rw[Q]at this;generalize fr'.mode=m at this;cases this;rfl
 have E:fr'.defers=[]:=by have:=h.frame.defers;rw[O]at this;generalize fr'.defers=l at this;cases this;rfl
 have D:fr'.kind= .normal:=by rw[h.frame.kind];exact N
 have A:P.funcs[fr'.fn]? =aA fn:=by rw[h.frame.fn];exact F
 have z:(⟨P.toTables,fs⟩:zZ).funcs[fr'.fn]? =aA fn:=by rw[h.frame.fn,g];exact F
 have q:own'=[]:=by cases h.own;rfl
 subst q;have j:((results fn fr.tmps).runT P (v.re w.tape w.drawn) #[]).1= .ok x (v.re w.tape w.drawn):=by rw[Sem.runT_fst];exact M
 obtain⟨hl,u,B,e,_⟩|e:=(gY fn h.frame.tmps).blind t f _ w #[] #[] h.world
 .rw[e]at j;cases j
 .have o:∀p:zZ,p.funcs[fr'.fn]? =aA fn->stepG p k (G fr' ([]++c::cs)) w=aEC (seen p fr'.fn ((results fn fr'.tmps).runT p w #[]).2) (match((results fn fr'.tmps).runT p w #[]).1 with
    | .ok y w1=> .go (G (c.finish y) cs) w1
    | .halt _ w1=> .ended (.stuck "results" (fr'.pos p)) w1)\/∃hl w1,((results fn fr'.tmps).runT p w #[]).1= .halt hl w1:=λp T=>by
   cases C:(results fn fr'.tmps).runT p w #[]with
   |mk r es=>
    cases r with
    |halt hl w1=>exact aI ⟨hl,w1,rfl⟩
    |ok y w1=>left;have Y:stepG p k (G fr' ([]++c::cs)) w=unwind p k fr' (c::cs) aB w:=by{simp only[stepG,G,s,zCk]};rw[Y];unfold unwind;rw[E];dsimp only;rw[s];dsimp only;rw[T];dsimp only;rw[C];dsimp only;unfold doReturn;rw[D];rfl
  have i:∀hl w1,((results fn fr'.tmps).runT P w #[]).1≠.halt hl w1:=λhl w1 I=>by
   obtain(⟨hl,v',B,X,_⟩|⟨⟨n,H,_⟩,_⟩)|⟨Z,v1,L,B,dd,h1,h2,h3,W⟩:=(gY fn h.frame.tmps).runT _ w #[] #[] h.world;{rw[X]at j;cases j};{rw[f]at H;cases H}
   .obtain⟨a,b,r1,r2,V⟩|⟨y,y',r1,r2,hy⟩:=W
    .rw[r2]at I;cases I
    .rw[r1]at j;cases j
  obtain k1|⟨hl,w1,k1⟩:=o P A
  .obtain k2|⟨hl,w1,k2⟩:=o _ z
   .rw[k1,k2,e,dX t];cases C:((results fn fr'.tmps).runT P w #[]).1 with
    |ok y w1=>rfl
    |halt hl w1=>exact absurd C (i hl w1)
   .rw[e]at k2;exact absurd k2 (i hl w1)
  .exact absurd k1 (i hl w1)
end
abbrev Ic:Type:=zC×zL×zW
section
variable {P:zZ}{Al:zF}{S:zS}
def One (P:zZ)(S:zS)(x y:Ic):Prop:=
 ¬S y.1 y.2.1 y.2.2/\(y.1.mode= .run\/y.1.defers≠[]\/y.2.1≠[])/\∃a d m e,stepG P m (G y.1 y.2.1) (y.2.2.re a d)= .go (G x.1 x.2.1) x.2.2 e
inductive Sub (P:zZ)(S:zS):Ic->Ic->Prop
 |one {x y:Ic} (h:One P S x y):Sub P S x y
 |more {x y z:Ic} (h:One P S x y) (k:Sub P S y z):Sub P S x z
def Sub.trans {x y z}(h:Sub P S x y)(k:Sub P S y z):Sub P S x z:=by
 induction h with
 |one h=>exact .more h k
 |more h _ i=>exact .more h (i k)
def Ends.acc {fr own v}(h:Ends P Al S fr own v):Acc (One P S) (fr,own,v):=by
 induction h with
 |stop h=>exact⟨_,λy f=>absurd h f.1⟩
 | @step fr own v b n h1 g p i=>refine⟨_,λy ⟨_,_,a,d,m,es,c⟩=> ?_⟩;obtain⟨j,e⟩:=g a d [] m;dsimp only at c;rw[zAq,zAq,c]at e;have o:y.1=(n a d).1:=by{injection e with e _ _;exact congrArg Goroutine.frame e};have l:y.2.1=(n a d).2.1:=by{injection e with e _ _;exact congrArg Goroutine.callers e};have k:y.2.2=(n a d).2.2:=by{injection e};have:=i a d;rw[<-o,<-l,<-k]at this;exact this
def Uh {x}(h:Acc (One P S) x):Acc (Sub P S) x:=by
 induction h with
 |intro x _ f=>
  refine⟨_,λy e=> ?_⟩;have d:∀{y z:Ic},Sub P S y z->(∀y,One P S y z->Acc (Sub P S) y)->Acc (Sub P S) y:=by
   intro y z e;induction e with
   |one h=>exactλk=>k _ h
   | @more a b c h hb i=>exactλk=>(i k).inv (.one h)
  exact d e λy h=>f y h
def Ends.ind {M:zS}(e:∀fr own v,Ends P Al S fr own v->(∀fr1 own1 v1,Sub P S (fr1,own1,v1) (fr,own,v)->Ends P Al S fr1 own1 v1->M fr1 own1 v1)->M fr own v){fr own v}(h:Ends P Al S fr own v):M fr own v:=by
 have k:∀x:Ic,Acc (Sub P S) x->Ends P Al S x.1 x.2.1 x.2.2->M x.1 x.2.1 x.2.2:=λx b=>by
  induction b with
  |intro x _ i=>exactλd=>e _ _ _ d λfr1 own1 v1 c a=>i (fr1,own1,v1) c a
 exact k (fr,own,v) (Uh h.acc) h
def Lone.QH (L:∀K:Kp,(∀b,¬K b)->cB P Al K){T cs}(A:∀fr l v,(fr.mode= .run\/fr.defers≠[]\/l≠[])->¬T fr (l++cs) v){fr l u}(h:Lone P [bI] S fr l u):
  ∀{D},Closed P Al D fr l u->Ends P Al T fr (l++cs) u->∃f d u2 D2,S f d u2/\Closed P Al D2 f d u2/\(∀b,D b->D2 b)/\Ends P Al T f (d++cs) u2/\((f,d++cs,u2)=(fr,l++cs,u)\/Sub P T (f,d++cs,u2) (fr,l++cs,u)):=by
 induction h with
 | @stop fr l u h=>exactλr n=>⟨fr,l,u,_,h,r,λ_ x=>x,n,aH rfl⟩
 | @step fr k l t u u1 O a w h H=>
  intro D r n;obtain⟨o,w1,O,g⟩|⟨f,d,v2,M,D2,g,p,I,m,i,j⟩:=gF L r a aF u.tape u.drawn;{rw[gG,w]at g;cases g}
  .rw[gG,w]at g;have W:k=f:=by injection g with e _ _;exact congrArg Goroutine.frame e
   have V:t=d:=by injection g with e _ _;exact zCz (congrArg Goroutine.callers e)
   have U:u1=v2:=by injection g
   subst W;subst V;subst U;obtain⟨N,s⟩:=j u.tape u.drawn cs aF (λ_ _=>rfl);have R:u1.re u.tape (u.drawn+(u1.drawn-u.drawn))=u1:=by have Q:u.drawn+(u1.drawn-u.drawn)=u1.drawn:=by{omega};rw[Q,<-m];rfl
   rw[R]at s;have c:One P T (k,t++cs,u1) (fr,l++cs,u):=⟨A _ _ _ a,a.imp id λx=>x.imp id λy z=>y (List.append_eq_nil_iff.1 z).1,_,_,_,_,s⟩;obtain⟨tN,G,u3,D3,F,E,C,B,q⟩:=H p (n.next (A _ _ _ a) s);refine⟨tN,G,u3,D3,F,E,λb J=>C b (i b J),B,aI ?_⟩;obtain e|q:=q;{rw[e];exact .one c};{exact q.trans (.one c)}
end
end Go.Ren
namespace Go.Ga
open Go.Conc Go.Ren Go.Tr
section
variable {Q:zZ}{fs:Array Func}{Al:zF}{Sh:zP}{gs:zG}{w:zW}{t:Trace}{q:Nat->Nat}{π:Rn}{fr fr':zC}{own own':zL}{v:zW}{sl:Option (Nat×Nat)}
structure Main (Q:zZ)(fs:Array Func)(Al:zF)(Sh:zP)(gs:zG)(w:zW)(t:Trace)(q:Nat->Nat)(π:Rn)(fr:zC)(own:zL)(v:zW)(fr':zC)(own':zL):Prop where
 lv:Leavers ⟨Q.toTables,fs⟩ t gs q
 calm:Calm Sh w.heap.size t
 IU:∀b,Sh b->b<w.heap.size
 NQ:VM Q Al Go.Ren.K0 π fr own v fr' own' w
 off:∀b b',π b b'->¬Sh b'
 Vk:∀b,Al (1000002+b)->(∀b',¬π b b')/\v.heap[b]? =aA (aJ #[.int aQ 0] 0 (0,0))
structure qB (π:Rn)(Sh:zP)(w:zW)(uh:Rn)(Sh1:zP)(w1:zW):Prop where
 sub:∀b b',π b b'->uh b b'
 size:w.heap.size<=w1.heap.size
 still:∀b',b'<w.heap.size->(∀b,¬π b b')->¬Sh b'->w1.heap[b']? =w.heap[b']?/\(∀b,¬uh b b')/\¬Sh1 b'
def qB.refl {π Sh w}:qB π Sh w π Sh w:=⟨λ_ _ h=>h,zAb _,λ_ _ b a=>⟨rfl,b,a⟩⟩
def qB.trans {π c a:Rn}{Sh e S:zP}{w w1 w2:zW}(h:qB π Sh w c e w1)(k:qB c e w1 a S w2):qB π Sh w a S w2:=
 ⟨λb d x=>k.sub b d (h.sub b d x),zBb h.size k.size,λd f i g=>by obtain⟨m,l,j⟩:=h.still d f i g;obtain⟨f1,f2,f3⟩:=k.still d (zAd f h.size) l j;exact⟨f1.trans m,f2,f3⟩⟩
def Ql {K v w}(h:bQ Q Al K π v w){b b'}(a:π b b'):b'<w.heap.size:=by
 obtain⟨_,_,_,_,_,_,e,_⟩|⟨_,_,_,e,_⟩|⟨_,_,_,e,_⟩:=h.blk b b' a
 .exact(zAa.1 e).1
 .exact(zAa.1 e).1
 .exact(zAa.1 e).1
def No {K B ρ}(d:∀b b',ρ b b'->¬Sh b'/\b'<B){e}(h:mC K ρ e):EvC Sh B e:=by
 obtain⟨a,n,wr,s,rfl,k,_⟩|(h|h)|⟨f,h⟩|⟨r,g,s,rfl,i⟩:=h
 .exact gN (d _ _ k.1).1 (d _ _ k.1).2
 .obtain⟨l,wr,s⟩:=e;dsimp only at h;subst h;refine⟨λx c ⟨b,hb,_⟩=> ?_,by simp,by simp,trivial⟩;simp[MemAct.ofEvent,MemAct.touch?]at c
 .obtain⟨l,wr,s⟩:=e;dsimp only at h;subst h;refine⟨λx c ⟨b,hb,_⟩=> ?_,by simp,by simp,trivial⟩;simp only[MemAct.ofEvent,MemAct.touch?,aEx]at c;subst c;simp[blk]at hb
 .obtain⟨l,wr,s⟩:=e;dsimp only at h;subst h;refine⟨λx c ⟨b,hb,_⟩=> ?_,by simp,by simp,trivial⟩;simp[MemAct.ofEvent,MemAct.touch?]at c
 .have j:MemAct.ofEvent ⟨.obj g,aG,s⟩= .access ⟨.obj g,aG,s⟩:=rfl;refine⟨λx c ⟨b,hb,m⟩=> ?_,by simp,by simp,by rw[j];exact(d _ _ i).2⟩;rw[j]at c;simp only[MemAct.touch?,aEx]at c;subst c;simp only[blk,aEx]at hb;subst hb;exact absurd m (d _ _ i).1
def Main.step (Y:Shape Q fs)(B:cB Q Al Go.Ren.K0)(h:Main Q fs Al Sh gs w t q π fr own v fr' own')(hg:gs[0]? =aA (G fr' own'))(p:fr.mode= .run\/fr.defers≠[]\/own≠[])(Z:(fs[fr.fn]?).map (·.results)=(Q.funcs[fr.fn]?).map (·.results))(hs:nZ Al fr)
  {n:(zT)->Nat->zC×zL×zW} (hn:∀R d cs mn,∃es,stepG Q mn (G fr (own++cs)) (v.re R d)= .go (G (n R d).1 ((n R d).2.1++cs)) (n R d).2.2 es):
  ∃(N d:Nat)(l:zG)(w1:zW)(F:Option (Nat×Nat))(t1:Trace)(H:Nat->Nat)(A:Rn)(j:zC)(c:zL),runNT ⟨Q.toTables,fs⟩ N (crowd gs w sl) t=(.next (crowd l w1 F),t1)/\l.size=gs.size/\
   Main Q fs Al Sh l w1 t1 H A (n w.tape d).1 (n w.tape d).2.1 (n w.tape d).2.2 j c/\w1.tape=w.tape/\w1.os=w.os/\w1.output=w.output/\qB π Sh w A Sh w1/\
   ((l[0]? =aA (G j c)/\(c.length=own'.length+1->fs[j.fn]? =Q.funcs[j.fn]?))\/∃f m k,Al f/\m.size<=20/\(k= .normal\/Al (900000+f))/\c.length=own'.length+1/\fs[f]?≠Q.funcs[f]?/\j=Frame.enter Q f m k/\l[0]? =aA (G (Frame.enter ⟨Q.toTables,fs⟩ f m k) c)):=by
 have s:∀d,∃x:(zH×zW×zE)×Rn×zC×zL,stepG ⟨Q.toTables,fs⟩ aF (G fr' own') (w.at d)= .go x.1.1 x.1.2.1 x.1.2.2/\VM Q Al Go.Ren.K0 x.2.1 (n w.tape d).1 (n w.tape d).2.1 (n w.tape d).2.2 x.2.2.1 x.2.2.2 x.1.2.1/\w.heap.size<=x.1.2.1.heap.size/\
   (x.1.2.1.tape=w.tape/\x.1.2.1.os=w.os/\x.1.2.1.output=w.output/\qB π Sh w x.2.1 Sh x.1.2.1)/\((∀b g,x.2.1 b g->¬Sh g)/\∀b,Al (1000002+b)->(∀g,¬x.2.1 b g)/\(n w.tape d).2.2.heap[b]? =aA (aJ #[.int aQ 0] 0 (0,0)))/\(∀e∈x.1.2.2,EvC Sh x.1.2.1.heap.size e)/\
   ((x.1.1=G x.2.2.1 x.2.2.2/\(x.2.2.2.length=own'.length+1->fs[x.2.2.1.fn]? =Q.funcs[x.2.2.1.fn]?))\/∃f m k,Al f/\m.size<=20/\(k= .normal\/Al (900000+f))/\x.2.2.2.length=own'.length+1/\fs[f]?≠Q.funcs[f]?/\x.2.2.1=Frame.enter Q f m k/\x.1.1=G (Frame.enter ⟨Q.toTables,fs⟩ f m k) x.2.2.2):=λd=>by
  have S:VM Q Al Go.Ren.K0 π fr own v fr' own' (w.at d):=h.NQ.rely rfl ⟨λ_ _ _=>rfl,zAb _,rfl⟩
  obtain⟨gn,W⟩:=hn w.tape d [] aF
  obtain⟨A,j,c,w1,es,s1,k1,m1,e1⟩:=S.step rfl B p ⟨gn,W⟩ aF []
  have i:∀b g,A b g->¬Sh g:=λb g r x=>by obtain y|⟨_,y,_⟩:=m1.rM b g r;{exact h.off b g y x};{have:=h.IU g x;have y':w.heap.size<=g:=y;omega}
  have D:∀b,Al (1000002+b)->(∀g,¬A b g)/\(n w.tape d).2.2.heap[b]? =aA (aJ #[.int aQ 0] 0 (0,0)):=λb r=>by obtain⟨O,T⟩:=h.Vk b r;have bT:=(zAa.1 T).1;refine⟨λg hr=> ?_,(m1.DD b bT O).trans T⟩;obtain y|⟨y,_,_⟩:=m1.rM b g hr;{exact O g y};{exact absurd bT (zEy.2 y)}
  have E:qB π Sh w A Sh w1:=⟨m1.sub,m1.size,λg r O T=>⟨m1.still g r λb L=>absurd L (O b),λb L=>by
   obtain y|⟨_,y,_⟩:=m1.rM b g L;{exact O b y}
   .have y':w.heap.size<=g:=y;omega,T⟩⟩
  have K:∀e∈es,EvC Sh w1.heap.size e:=λe he=>No (λb g r=>⟨i b g r,Ql k1.world r⟩) (e1 e he)
  rw[zAq,zAq]at s1
  have bl:=oG (cs:=[]) (cs':=[]) B Y rfl S.world S.frame Z S.own p aF aF
  rw[zAq]at bl
  obtain⟨o,u,Vj,e⟩|⟨e,z⟩|⟨f,m,k,callers,uk,gp,M,V,J,hlen,H,q2,I⟩:=bl
  .rw[zAq]at W;have e':stepG Q aF (G fr own) (v.re w.tape d)= .ended o u Vj:=e;rw[W]at e';cases e'
  .rw[zAq]at e z;exact⟨((G j c,w1,es),A,j,c),e.trans s1,k1,m1.size,⟨m1.tape,m1.os,m1.out,E⟩,⟨i,D⟩,K,aH ⟨rfl,λhl=>z (G j c) w1 es s1 hl⟩⟩
  .rw[zAq]at H q2 hlen;rw[s1]at H;cases H;exact⟨((_,w1,es),A,Frame.enter Q f m k,c),q2,k1,m1.size,⟨m1.tape,m1.os,m1.out,E⟩,⟨i,D⟩,K,aI ⟨f,m,k,M,V,J,hlen,I,rfl,rfl⟩⟩
 obtain⟨N,d,l,F,t1,H,r1,z1,g1,l1,c1⟩:=AQ (P:=⟨Q.toTables,fs⟩) (Sh:=Sh) (B:=w.heap.size) (w:=w) (a:=G fr' own') (a':=λd=>(aEi (s d)).1.1) (w':=λd=>(aEi (s d)).1.2.1) (es:=λd=>(aEi (s d)).1.2.2) (C:=λd=>(aEi (s d)).1.2.1.heap.size) rfl
  (λd=>(zAw (s d)).1) (λd=>(zAw (s d)).2.2.1) (λd=>(zAw (s d)).2.2.2.2.2.1) _ gs w.drawn sl t q rfl hg h.lv h.calm
 have sp:=zAw (s d);generalize aEi (s d)=x at sp r1 g1 c1;obtain⟨s1,k1,m1,⟨U,o1,u1,sub⟩,i,K,X⟩:=sp;refine⟨N,d,l,x.1.2.1,F,t1,H,x.2.1,x.2.2.1,x.2.2.2,r1,z1,⟨l1,c1,λb r=>zAd (h.IU b r) m1,k1,i.1,i.2⟩,U,o1,u1,sub,?_⟩;obtain⟨e,z⟩|⟨f,m,k,M,V,J,hlen,I,e1,e2⟩:=X
 .left;exact⟨by rw[g1,e],z⟩
 .right;exact⟨f,m,k,M,V,J,hlen,I,e1,by rw[g1,e2]⟩
end
section
variable {Q:zZ}{fs:Array Func}{Al A2:zF}{R:zR}{E:List PanicEntry->zW->Prop}{Inv:zS}{InvE:zN->zA->zL->zW->Prop}
def fZ.len {α T}{l a:List α}(h:fZ T l a):a.length=l.length:=by
 induction h with
 |nil=>rfl
 |cons _ _ i=>simp[i]
def PF (Q:zZ)(fs:Array Func)(Al A2:zF)(R:zR)(E:List PanicEntry->zW->Prop)(Inv:zS)(x:Ic)(Sh:zP)(π:Rn)(d:zG)(w:zW)(sl:Option (Nat×Nat))(t:Trace):Prop:=
 ∃(N:Nat)(g:zG)(w1:zW)(s:Option (Nat×Nat))(t1:Trace)(q:Nat->Nat)(S:zP)(c:Rn)(f:zC)(o:zL)(v:zW)(D1:zP)(b:zC)(a:zL),runNT ⟨Q.toTables,fs⟩ N (crowd d w sl) t=(.next (crowd g w1 s),t1)/\g[0]? =aA (G b a)/\
  Main Q fs A2 S g w1 t1 q c f o v b a/\Closed Q Al D1 f o v/\Go.Ren.Ends Q Al (Go.Ren.AtEnd Q R E) f o v/\(w1.tape=w.tape/\w1.os=w.os/\w1.output=w.output)/\((f,o,v)=x\/Sub Q (Go.Ren.AtEnd Q R E) (f,o,v) x)/\Inv f o v/\qB π Sh w c S w1
def Ae (Q:zZ)(fs:Array Func)(Al A2:zF)(R:zR)(E:List PanicEntry->zW->Prop)(Inv:zS)(Sh:zP)(π:Rn)(c:zG)(w:zW)(sl:Option (Nat×Nat))(t:Trace):Prop:=
 ∃(N:Nat)(g:zG)(w1:zW)(s:Option (Nat×Nat))(t1:Trace)(q:Nat->Nat)(S:zP)(b:Rn)(a:zC)(v:zW)(f:zC),runNT ⟨Q.toTables,fs⟩ N (crowd c w sl) t=(.next (crowd g w1 s),t1)/\g[0]? =aA (G f [])/\
  Main Q fs A2 S g w1 t1 q b a [] v f []/\Go.Ren.AtEnd Q R E a [] v/\(w1.tape=w.tape/\w1.os=w.os/\w1.output=w.output)/\Inv a [] v/\qB π Sh w b S w1
def Ae.behind {gs g w w1 sl s t t1 N Sh S π a}(e:qB π Sh w a S w1)(l:runNT ⟨Q.toTables,fs⟩ N (crowd gs w sl) t=(.next (crowd g w1 s),t1))(d:w1.tape=w.tape/\w1.os=w.os/\w1.output=w.output)(h:Ae Q fs Al A2 R E Inv S a g w1 s t1):Ae Q fs Al A2 R E Inv Sh π gs w sl t:=by obtain⟨r,i,w2,c,t2,q,k,b,j,v2,f,r2,m,M2,a2,⟨p,o,n⟩,i2,k2⟩:=h;exact⟨N+r,i,w2,c,t2,q,k,b,j,v2,f,by rw[runNT_add,l];exact r2,m,M2,a2,⟨p.trans d.1,o.trans d.2.1,n.trans d.2.2⟩,i2,e.trans k2⟩
def reach {S x xs y}(h:x=xs\/Sub Q S x xs)(k:Sub Q S y x):Sub Q S y xs:=by
 obtain rfl|h:=h
 .exact k
 .exact k.trans h
def Fo (fl:Shape Q fs)(xt:∀f:zN,(fs[f]?).map (·.results)=(Q.funcs[f]?).map (·.results))(hB:∀K:Kp,(∀b,¬K b)->cB Q Al K)(sj:cB Q A2 Go.Ren.K0)
  (hI:∀(fr)(own)(v)(D)(fr1)(own1)(v1)(τ)(d)(es),Inv fr own v->Closed Q Al D fr own v->(fr.mode= .run\/fr.defers≠[]\/own≠[])->stepG Q aF (G fr own) (v.re τ d)= .go (G fr1 own1) v1 es->
   Inv fr1 own1 v1\/∃f xs k,fr1=Frame.enter Q f xs k/\xs.size<=20/\own1.length=own.length+1/\fs[f]?≠Q.funcs[f]?/\InvE f xs own1 v1)
  (hJ:∀(f)(xs s)(k:CallKind)(own own')(v)(D)(Sh)(l)(w)(t)(q)(sl)(π),fs[f]?≠Q.funcs[f]?->xs.size<=20->(k= .normal\/A2 (900000+f))->Inv (Frame.enter Q f xs k) own v\/InvE f xs own v->Main Q fs A2 Sh l w t q π (Frame.enter Q f xs k) own v (Frame.enter Q f s k) own'->
   l[0]? =aA (G (Frame.enter ⟨Q.toTables,fs⟩ f s k) own')->own≠[]->Closed Q Al D (Frame.enter Q f xs k) own v->Go.Ren.Ends Q Al (Go.Ren.AtEnd Q R E) (Frame.enter Q f xs k) own v->
   PF Q fs Al A2 R E Inv (Frame.enter Q f xs k,own,v) Sh π l w sl t)
  {xs:Ic} (hH:∀(fr)(own)(v),((fr,own,v)=xs\/Sub Q (Go.Ren.AtEnd Q R E) (fr,own,v) xs)->nZ A2 fr)
  {fr own v} (h:Go.Ren.Ends Q Al (Go.Ren.AtEnd Q R E) fr own v) (Y:(fr,own,v)=xs\/Sub Q (Go.Ren.AtEnd Q R E) (fr,own,v) xs):
  ∀(Sh)(l)(w)(t)(q)(sl)(π)(D)(g)(own'),Main Q fs A2 Sh l w t q π fr own v g own'->l[0]? =aA (G g own')->Closed Q Al D fr own v->Inv fr own v->
   Ae Q fs Al A2 R E Inv Sh π l w sl t:=by
 have ab:∀b,¬Go.Ren.K0 b:=λb h=>h;revert Y;refine Go.Ren.Ends.ind (M:=λfr own v=>((fr,own,v)=xs\/Sub Q (Go.Ren.AtEnd Q R E) (fr,own,v) xs)->∀(Sh:zP)(l:zG)(w:zW)(t:Trace)(q:Nat->Nat)(sl:Option (Nat×Nat))(π:Rn)(D:zP)(g:zC)(own':zL),Main Q fs A2 Sh l w t q π fr own v g own'->l[0]? =aA (G g own')->Closed Q Al D fr own v->Inv fr own v->
   Ae Q fs Al A2 R E Inv Sh π l w sl t) ?_ h
 intro fr own v he ih Y Sh l w t q sl π D g own' hM hg hc hi;cases he with
 |stop h=>
  have e:own=[]:=by obtain x|x:=h;{exact x.1};{exact x.1}
  subst e;have e':own'=[]:=by{cases hM.NQ.own;rfl};subst e';exact⟨0,l,w,sl,t,q,Sh,π,fr,v,g,rfl,hg,hM,h,⟨rfl,rfl,rfl⟩,hi,.refl⟩
 |step a n h1 h2 h3=>
  obtain⟨N,d,Tn,w1,U,t1,V,ρ,fr1,own1,r1,z1,T,et,eo,eu,sub,hor⟩:=hM.step fl sj hg a (xt _) (hH _ _ _ Y) h2;obtain⟨gn,j⟩:=h2 w.tape d [] aF;rw[zAq,zAq]at j;have c:One Q (Go.Ren.AtEnd Q R E) ((n w.tape d).1,(n w.tape d).2.1,(n w.tape d).2.2) (fr,own,v):=⟨by have:=eO (P:=Q) (R:=R) (E:=E) (v:=v) (cs:=[]) a;rwa [zAq]at this,a,_,_,_,_,j⟩;obtain⟨D1,J⟩:=h1 w.tape d;have L:=h3 w.tape d;refine Ae.behind sub r1 ⟨et,eo,eu⟩ ?_;have B:=T.NQ.frame.fn;have wv:=fZ.len T.NQ.own;have wx:=fZ.len hM.NQ.own;have i:=hI _ _ _ _ _ _ _ _ _ _ hi hc a j;obtain⟨g1,I⟩|⟨O,s,k,rk,hz',qd,hlen,A,e3,g1⟩:=hor
  .obtain i|⟨f,y,k,r,_,hl,H,_⟩:=i
   .exact ih _ _ _ (.one c) L (aI (reach Y (.one c))) Sh Tn w1 t1 V U ρ D1 fr1 own1 T g1 J i
   .exfalso;have S:(n w.tape d).1.fn=f:=by{rw[r];rfl};have:=I (by omega);rw[B,S]at this;exact H this
  .subst e3;have F:(n w.tape d).1.fn=O:=by{rw[<-B];rfl};have X:(n w.tape d).1.kind=k:=by rw[<-T.NQ.frame.kind];rfl
   have qc:∃y,y.size<=20/\(n w.tape d).1=Frame.enter Q O y k/\(Inv (n w.tape d).1 (n w.tape d).2.1 (n w.tape d).2.2\/InvE O y (n w.tape d).2.1 (n w.tape d).2.2):=by
    obtain i|⟨f,y,k2,r,W,_,H,z⟩:=i
    .have bl:=oG (cs:=[]) (cs':=[]) (hB _ ab) fl rfl (fW hc.world ab w.tape w.tape d d (λ_ _=>rfl)) hc.frame (xt _) hc.own a aF aF (hs:=jG hc.nj.2);rw[zAq]at bl;obtain⟨o,u,Vj,e⟩|⟨_,I⟩|⟨f,y,k2,callers,uk,gp,_,W,_,_,V,_,H⟩:=bl
     .rw[j]at e;cases e
     .exfalso;have:=I _ _ _ j (by show(n w.tape d).2.1.length=own.length+1;omega);have S:(G (n w.tape d).1 (n w.tape d).2.1).frame.fn=O:=F;rw[S]at this;exact A this
     .rw[j]at V;have r:(n w.tape d).1=Frame.enter Q f y k2:=by
       injection V with e _ _;exact congrArg Goroutine.frame e
      have S:f=O:=by{rw[<-F,r];rfl};have e5:k2=k:=by{rw[<-X,r];rfl};subst S;subst e5;exact⟨y,W,r,aH i⟩
    .have S:f=O:=by{rw[<-F,r];rfl};have e5:k2=k:=by{rw[<-X,r];rfl};subst S;subst e5;exact⟨y,W,r,aI z⟩
   obtain⟨y,W,r,z⟩:=qc;have Z:(n w.tape d).2.1≠[]:=λe=>by rw[e]at wv;simp only[zAl]at wv;omega
   rw[r]at T J L c z;obtain⟨N2,gh,w2,jg,t2,q2,Sh2,zu,Yl,lP,v2,D2,gj,C,r2,g2,M2,c2,E2,eq2,m,hi2,rj⟩:=hJ O y s k _ own1 _ D1 Sh Tn w1 t1 V U ρ A W qd z T g1 Z J L;have p:Sub Q (Go.Ren.AtEnd Q R E) (Yl,lP,v2) (fr,own,v):=by obtain e|m:=m;{rw[e];exact .one c};{exact m.trans (.one c)}
   exact Ae.behind rj r2 eq2 (ih Yl lP v2 p E2 (aI (reach Y p)) Sh2 gh w2 t2 q2 jg zu D2 gj C M2 g2 c2 hi2)
end
end Go.Ga
namespace Go.Ren
open Go.Conc (G)
def refused {P Al R E f fn w}(b:P.funcs[f]? =aA fn)(c:fn.body=aA (.refuse w)){xs kd own v}(h:Ends P Al (AtEnd P R E) (Frame.enter P f xs kd) own v):False:=by
 cases h with
 |stop h=>have:=eO (P:=P) (R:=R) (E:=E) (fr:=Frame.enter P f xs kd) (l:=own) (cs:=[]) (v:=v) (aH rfl);rw[zAq]at this;exact this h
 |step a n h1 d g=>obtain⟨i,e⟩:=d v.tape v.drawn [] aF;simp[stepG,stepG.exec,G,Frame.enter,b,c]at e
section
variable {P:zZ}{Al:zF}{K:Kp}{fs:Array Func}
def Mf (J:Shape P fs)(i:K.nR=aB){π fr fr' own' v w}(h:VM P Al K π fr [] v fr' own' w){x}(hx:∀U d,fr.leaving P (v.re U d) (aM x))(c:(fs[fr.fn]?).map (·.results)=(P.funcs[fr.fn]?).map (·.results))(I:P.inits.idxOf? fr.fn=aB):
  ∃O S,bG Al π x O/\own'=[]/\stepG ⟨P.toTables,fs⟩ aF (G fr' own') w= .ended (.done O) w S/\∀e∈S,mC K π e:=by
 have r:own'=[]:=by cases h.own;rfl
 subst r;obtain⟨q1,Z,Y,fn,X,W⟩:=hx w.tape w.drawn;have kg:=h.world.ok;have s:fr'.mode= .returning:=by have:=h.frame.mode;rw[q1]at this;generalize fr'.mode=m at this;cases this;rfl
 have M:fr'.defers=[]:=by have:=h.frame.defers;rw[Z]at this;generalize fr'.defers=l at this;cases this;rfl
 have H:fr'.kind= .normal:=by rw[h.frame.kind];exact Y
 obtain⟨f,z,o⟩:∃f,(⟨P.toTables,fs⟩:zZ).funcs[fr'.fn]? =aA f/\∀D,results f D=results fn D:=by
  rw[h.frame.fn];rw[X]at c;cases C:fs[fr.fn]? with
  |none=>rw[C]at c;cases c
  |some f=>rw[C]at c;have:f.results=fn.results:=by{simpa using c};exact⟨f,rfl,λD=>by unfold results;rw[this]⟩
 have t:(⟨P.toTables,fs⟩:zZ).inits.idxOf? fr'.fn=aB:=by rw[h.frame.fn];exact I
 have j:((results fn fr.tmps).runT P (v.re w.tape w.drawn) #[]).1= .ok x (v.re w.tape w.drawn):=by rw[Sem.runT_fst];exact W
 have g:=gY (P:=P) (F:=K) fn h.frame.tmps;obtain⟨hl,u,A,e,_⟩|eb:=g.blind J i _ w #[] #[] h.world
 .rw[e]at j;cases j
 obtain(⟨hl,v',A,e,_⟩|⟨⟨n,Q,_⟩,_⟩)|⟨V,v1,w1,A,T,h1,C,h3,h4⟩:=g.runT _ w #[] #[] h.world
 .rw[e]at j;cases j
 .rw[i]at Q;cases Q
 .obtain⟨a,b,r1,r2,N⟩|⟨y,y',r1,r2,hy⟩:=h4
  .rw[r1]at j;cases j;have E:=sW fn fr'.tmps w #[] b w1 _ r2;subst E;have k:∀p B,V p B->π p B:=λp B hp=>by
    obtain q|⟨_,q,q'⟩:=C.rM p B hp;{exact q};{omega}
   refine⟨b,seen ⟨P.toTables,fs⟩ fr'.fn (#[]++T)++ #[],N.mono k,rfl,?_,λe R=> ?_⟩;{have e0:stepG ⟨P.toTables,fs⟩ aF (G fr' []) w1=unwind ⟨P.toTables,fs⟩ aF fr' [] aB w1:=by{simp only[stepG,G,s]};rw[e0];unfold unwind;rw[M];dsimp only;rw[s];dsimp only;rw[z];dsimp only;rw[o,eb,r2];dsimp only;unfold doReturn;rw[H];simp only[t,Bool.not_true,zBe,zDe];rfl}
   .rw[zCq]at R;have L:e∈T:=by
     have:=Go.Conc.mem_seen R;simpa using this
    exact(h3 e L).mono k
  .rw[r1]at j;cases j
end
end Go.Ren
namespace Go.Ga
open Go.Conc Go.Ren Go.Tr
section
variable {Q:zZ}{fs fm:Array Func}{Al Am:zF}
def Apart (Q:zZ)(fm:Array Func)(Am:zF)(fr:zC)(own:zL)(v:zW):Prop:=∃D,Closed ⟨Q.toTables,fm⟩ Am D fr own v
def AI (Q:zZ)(fm:Array Func)(Am:zF)(f:zN)(xs:zA)(own:zL)(v:zW):Prop:=
 ∃D,Am f/\aZ Am (cC D) xs xs/\fZ (cJ ⟨Q.toTables,fm⟩ Am Go.Ren.K0 (cC D)) own own/\bQ ⟨Q.toTables,fm⟩ Am Go.Ren.K0 (cC D) v v
def Da {π xs ys zs}(h:aZ Am π zs zs)(e:zs=xs++ys):aZ Am π xs xs:=by
 subst e;have k:∀(i:Nat)(v:zY),xs[i]? =aA v->(xs++ys)[i]? =aA v:=λi v b=>by rw[zCr (zAa.1 b).1];exact b
 exact⟨rfl,λi v a d c=>h.at' i v a (k i v d) (k i a c)⟩
def ZB (P)(f)(xs)(k:CallKind):(Frame.enter P f xs k).tmps=xs++aD5 (((P.funcs[f]?).map (·.ntmps)).getD 0-xs.size) aEn/\(Frame.enter P f xs k).fn=f:=⟨rfl,rfl⟩
def ZY (y:Shape Q fm)(A:∀f:zN,(fm[f]?).map (·.results)=(Q.funcs[f]?).map (·.results))(T:cB Q Al Go.Ren.K0)(B:∀K:Kp,(∀b,¬K b)->cB ⟨Q.toTables,fm⟩ Am K)(n:∀f:zN,fm[f]?≠Q.funcs[f]?->fs[f]?≠Q.funcs[f]?)
  (fr) (own) (v) (D) (fr1) (own1) (v1) (p) (d) (es) (hi:Apart Q fm Am fr own v) (r:Closed Q Al D fr own v)
  (g:fr.mode= .run\/fr.defers≠[]\/own≠[]) (j:stepG Q aF (G fr own) (v.re p d)= .go (G fr1 own1) v1 es):
  Apart Q fm Am fr1 own1 v1\/∃f x k,fr1=Frame.enter Q f x k/\x.size<=20/\own1.length=own.length+1/\fs[f]?≠Q.funcs[f]?/\AI Q fm Am f x own1 v1:=by
 have t:∀b,¬Go.Ren.K0 b:=λb h=>h;obtain⟨V,z⟩:=hi;have m:=gF (cs:=[]) B z g aF p d;rw[zAq]at m;have E:=oG (cs:=[]) (cs':=[]) T y rfl (fW r.world t p p d d (λ_ _=>rfl)) r.frame (A _) r.own g aF aF (hs:=jG r.nj.2);rw[zAq]at E;obtain⟨o,u,i,e⟩|⟨e,_⟩|⟨f,x,k,callers,w,J,I,H,_,hlen,q,F,s⟩:=E
 .rw[j]at e;cases e
 .left;rw[e,j]at m;obtain⟨o,u,i,c⟩|⟨l,lP,v2,i,D2,c,a,_⟩:=m
  .cases c
  .rw[zAq]at c;have N:fr1=l:=by{injection c with e _ _;exact congrArg Goroutine.frame e};have M:own1=lP:=by{injection c with e _ _;exact congrArg Goroutine.callers e};have L:v1=v2:=by{injection c};subst N;subst M;subst L;exact⟨D2,a⟩
 .right;rw[j]at q;rw[F]at m;obtain⟨o,u,i,c⟩|⟨l,lP,v2,i,D2,c,a,_⟩:=m
  .cases c
  .rw[zAq]at c;have S:fr1=Frame.enter Q f x k:=by{injection q with e _ _;exact congrArg Goroutine.frame e};have a2:own1=callers:=by{injection q with e _ _;exact congrArg Goroutine.callers e};have a3:v1=w:=by{injection q};have R:Frame.enter ⟨Q.toTables,fm⟩ f x k=l:=by{injection c with e _ _;exact congrArg Goroutine.frame e};have P:callers=lP:=by{injection c with e _ _;exact congrArg Goroutine.callers e};have b3:w=v2:=by{injection c};subst a2;subst a3;subst P;subst b3;subst R;have C:=a.frame.al;exact⟨f,x,k,S,H,hlen,n f s,D2,C,Da a.frame.tmps (ZB ⟨Q.toTables,fm⟩ f x k).1,a.own,a.world⟩
end
end Go.Ga
namespace Go.Ren
open Go.Conc (G)
inductive Trail (P:zZ)(N:Nat)(T:zS):zS
 |stop {fr:zC} {own:zL} {v:zW} (hn:v.heap.size<=N) (h:T fr own v):Trail P N T fr own v
 |step {fr fr1:zC} {own own1:zL} {v v1:zW} {es:zE} (hn:v.heap.size<=N) (Vb:fr.mode= .run\/fr.defers≠[]\/own≠[]) (hs:stepG P aF (G fr own) v= .go (G fr1 own1) v1 es) (h:Trail P N T fr1 own1 v1):Trail P N T fr own v
section
variable {P:zZ}{Al:zF}{S:zS}{fr:zC}{own:zL}{v:zW}
def Trail.snoc {N N'}(d:N<=N'){T f}(k:∀fr own v,T fr own v->(fr.mode= .run\/fr.defers≠[]\/own≠[])/\∃fr1 own1 v1 es,stepG P aF (G fr own) v= .go (G fr1 own1) v1 es/\v1.heap.size<=N'/\f fr1 own1 v1)(h:Trail P N T fr own v):Trail P N' f fr own v:=by
 induction h with
 | @stop fr own v c h=>obtain⟨b,fr1,own1,v1,es,e,g,j⟩:=k _ _ _ h;exact .step (zBb c d) b e (.stop g j)
 |step c a b _ i=>exact .step (zBb c d) a b i
def Trail.mono {N N'}(c:N<=N'){T}(h:Trail P N T fr own v):Trail P N' T fr own v:=by
 induction h with
 |stop b h=>exact .stop (zBb b c) h
 |step b a d _ i=>exact .step (zBb b c) a d i
def lk (y:Ic)(a:zT)(e:Nat)(fr:zC)(own:zL)(u:zW):Prop:=fr=y.1/\own=y.2.1/\u=y.2.2.re u.tape u.drawn/\∀k,u.tape (u.drawn+k)=a (e+k)
def Vg (E:∀K:Kp,(∀b,¬K b)->cB P Al K){x y z:Ic}(h:One P S x y)(w:∃D,Closed P Al D y.1 y.2.1 y.2.2){N}(m:∀f e,∃c,Trail P N (lk y f e) z.1 z.2.1 (z.2.2.re c 0)):
  (∃D,Closed P Al D x.1 x.2.1 x.2.2)/\∃N,∀f e,∃c,Trail P N (lk x f e) z.1 z.2.1 (z.2.2.re c 0):=by
 obtain⟨D,C⟩:=w;obtain⟨_,a,c,d,t,L,A⟩:=h;have r:=gF (cs:=[]) E C a t c d;rw[zAq,A]at r;obtain⟨o,u,q,g⟩|⟨p,lP,v2,q,D2,g,n,J,_,_,j⟩:=r
 .cases g
 rw[zAq]at g;have I:x.1=p:=by injection g with e _ _;exact congrArg Goroutine.frame e
 have H:x.2.1=lP:=by injection g with e _ _;exact congrArg Goroutine.callers e
 have G:x.2.2=v2:=by injection g
 subst I;subst H;subst G;refine⟨⟨D2,n⟩,N+x.2.2.heap.size,λf e=> ?_⟩;obtain⟨l,m⟩:=m (λi=>if i<x.2.2.drawn-d then c (d+i)else f (e+(i-(x.2.2.drawn-d)))) 0;refine⟨l,m.snoc (zDn _ _) ?_⟩;rintro fr own u ⟨rfl,rfl,hu,hk⟩;refine⟨a,?_⟩;obtain⟨F,s⟩:=j u.tape u.drawn [] aF λk B=>by rw[hk k];have:0+k<x.2.2.drawn-d:=by{omega};show(if 0+k<x.2.2.drawn-d then c (d+(0+k))else _)=_;rw[zAz this,zBd]
 rw[zAq,zAq,<-hu]at s;refine⟨_,_,_,_,s,Nat.le_add_left _ _,rfl,rfl,rfl,λk=> ?_⟩;show u.tape (u.drawn+(x.2.2.drawn-d)+k)=_;rw[zCh,hk];have:¬0+(x.2.2.drawn-d+k)<x.2.2.drawn-d:=by omega
 show(if 0+(x.2.2.drawn-d+k)<x.2.2.drawn-d then _ else f (e+(0+(x.2.2.drawn-d+k)-(x.2.2.drawn-d))))=_;rw[zAv this];congr 1;omega
def glue (d:∀K:Kp,(∀b,¬K b)->cB P Al K){x z}(h:Sub P S x z)(c:∃D,Closed P Al D z.1 z.2.1 z.2.2):
  (∃D,Closed P Al D x.1 x.2.1 x.2.2)/\∃N,∀a e,∃f,Trail P N (lk x a e) z.1 z.2.1 (z.2.2.re f 0):=by
 induction h with
 | @one x y h=>exact Vg d h c (N:=y.2.2.heap.size) λa e=>⟨λi=>a (e+i),.stop (zAb _) ⟨rfl,rfl,rfl,λk=>by show a (e+(0+k))=_;rw[zBd]⟩⟩
 |more h _ g=>obtain⟨j,N,l⟩:=g c;exact Vg d h j l
def Live (P:zZ)(fr:zC)(own:zL)(v:zW):Prop:=∃n f w,runN P n (lone fr (own++[bI]) v)= .next (lone f [bI] w)/\f.mode≠.run/\f.defers=[]
def Live.step (h:Live P fr own v)(b:fr.mode= .run\/fr.defers≠[]\/own≠[]):(∀o u d,stepG P aF (G fr (own++[bI])) v≠.ended o u d)/\∀f a g d,stepG P aF (G fr (own++[bI])) v= .go (G f (a++[bI])) g d->Live P f a g:=by
 obtain⟨n,c,w,h,i,k⟩:=h;cases n with
 |zero=>
  exfalso;have h:=h;have l:lone fr (own++[bI]) v=lone c [bI] w:=by injection h
  have j:({frame:=fr,callers:=own++[bI],status:= .running,dying:=aB}:zH)={frame:=c,callers:=[bI],status:= .running,dying:=aB}:=by have:=congrArg Machine.gs l;simpa [lone]using this
  have q:=congrArg Goroutine.frame j;have p:=congrArg Goroutine.callers j;have m:own=[]:=by have:=congrArg List.length p;simp at this;exact this
  subst q;subst m;obtain x|x|x:=b;{exact i x};{exact x k};{exact x rfl}
 |succ n=>refine⟨λo u d e=> ?_,λf a g d e=> ?_⟩;{have:=step_lone_ended (by rw[show({frame:=fr,callers:=own++[bI],status:= .running,dying:=aB}:zH)=G fr (own++[bI])from rfl,e];rfl);simp only[runN,this]at h;cases h};{have:=step_lone_go (cs':=a++[bI]) (by rw[show({frame:=fr,callers:=own++[bI],status:= .running,dying:=aB}:zH)=G fr (own++[bI])from rfl,e];rfl);exact⟨n,c,w,by simpa only[runN,this]using h,i,k⟩}
def Jt {A K π fr fr' own own'}(a:cJ P A K π fr fr')(b:fZ (cJ P A K π) own own')(h:fr'.mode= .run\/fr'.defers≠[]\/own'≠[]):fr.mode= .run\/fr.defers≠[]\/own≠[]:=by
 obtain h|h|h:=h
 .left;have:=a.mode;rw[h]at this;generalize fr.mode=m at this;cases this;rfl
 .right;left;intro e;have:=a.defers;rw[e]at this;generalize hl:fr'.defers=l at this;cases this;exact h hl
 .right;right;intro e;subst e;cases b;exact h rfl
def Ro {o e c}(j:o.op= .call c)(i:c.callee= .builtin .unsafeSliceData){b n s}(h:(c.args.map e)[0]? =aA (.slice (aA ⟨b,n,s⟩) 0 0))(m:v.heap.size<=b):∃hl u g,(aEd e o).runT P v #[]=(.halt hl u,g)/\Fatal hl:=by
 obtain⟨callee,args,t⟩:=c;dsimp only at i h;subst i;unfold aEd;rw[j];have k:∀(cs:Array Bool)(d:zA),d[0]? =aA (.slice (aA ⟨b,n,s⟩) 0 0)->∃hl u g,(builtin .unsafeSliceData t o.type cs d).runT P v #[]=(.halt hl u,g)/\Fatal hl:=λcs d h=>by
  obtain⟨l⟩:=d;match l,h with
  |[x],h=>simp at h;subst h;have a:=zBq m;have f:v.shape? b=aB:=by{unfold World.shape?;rw[a]};refine⟨.stuck "getObj: no such block",v,#[],?_,by simp⟩;show((do pure (aEo (<-Builtin.unsafeSliceData_ t o.type #[.slice (aA ⟨b,n,s⟩) 0 0])):Sem Next)).runT P v #[]=_;rw[qF];simp only[ne_eq,not_true_eq_false,zDe,viewAt,shape,getObj,Bind.bind,Sem.bind,Sem.runT,f,Option.isSome_none,zBe,a]
  |x::y::l,h=>exact⟨_,_,_,rfl,aH ⟨_,rfl⟩⟩
 exact k #[] _ h
def KU {A:zF}{N:Nat}(D:∀k,A (1000002+k)->N<=k)(w:v.heap.size<=N)(a:fr.roundOf=aB)(h:∀o u es,stepG P aF (G fr own) v≠.ended o u es):nZ A fr:=by intro m ops j rest k o l d g c t z x r b n s B f;subst f;obtain⟨hl,u,es,e,y⟩:=Ro t z r (zBb w (D b B));obtain⟨q,p,i,E⟩:=lX (P:=P) (fr:=fr) (C:=own) e y;refine h q p i ?_;obtain⟨fn,tmps,todo,defers,mode,kind,round⟩:=fr;dsimp only at m l a;subst m;subst l;subst a;rw[<-E];show stepG.exec P aF aF ⟨fn,tmps,aN ops (j::rest)::k,defers,.run,kind,aB⟩ own aB v=_;unfold stepG.exec;simp only[d,zBi,zCv,g,zCs];unfold stepG.oper;simp only[Frame.oper?,d]
def replay {A}(B:cB P A K0){N vb:Nat}(hA:∀k,A (1000002+k)->N<=k){T}(h:Trail P N T fr own v):
  ∀{ρ i a t},cJ P A K0 ρ i fr->fZ (cJ P A K0 ρ) a own->bQ P A K0 ρ t v->t.heap.size=v.heap.size->(∀b j,ρ b j->b=j)->(∀b j,ρ b j->j≠vb)->vb<v.heap.size->Live P i a t->
   ∃m d w f g c l,T m d w/\w.heap.size<=N/\cJ P A K0 f g m/\fZ (cJ P A K0 f) c d/\bQ P A K0 f l w/\l.heap.size=w.heap.size/\(∀b j,f b j->j≠vb)/\Live P g c l:=by
 have X:∀b,¬K0 b:=λb h=>h;induction h with
 |stop L h=>intro ρ i a t C E J H hid q bT hl;exact⟨_,_,_,ρ,i,a,t,h,L,C,E,J,H,q,hl⟩
 | @step fr m own d v w es L r V _ U=>intro ρ i a t C E J H hid q bT hl;have y:=Jt C E r;have s:=hl.step y;have W:=KU hA (by omega) C.round s.1;obtain⟨o,u,Vj,e⟩|⟨_,_,_,_,_,n,K,_⟩|⟨f,g1,l,kt,g1',w1,gp,e1,F,Y,I,hm,_⟩:=vS B J C E y aF aF;{exact absurd e (s.1 _ _ _)};{cases K};{obtain⟨g,D,c,p,R,Q,O,M⟩:=Y;subst R;subst Q;rw[zAq,zAq,V]at F;have a1:m=D:=by{injection F with e _ _;exact congrArg Goroutine.frame e};have a2:d=p:=by{injection F with e _ _;exact congrArg Goroutine.callers e};have a3:w=w1:=by{injection F};subst a1;subst a2;subst a3;obtain⟨G,z⟩:=hm.same H hid;refine U O M I G z (λb j Z=> ?_) (zAd bT hm.size) (s.2 _ _ _ _ e1);obtain x|⟨_,x,_⟩:=hm.rM b j Z;{exact q b j x};{omega}}
def ZO {f args w R}(h:Calls P f args w R)(g:∀w',¬R .outgrown w'):Live P (Frame.enter P f args .normal) [] w:=by
 obtain⟨e,w',fr,d,b,_,hl⟩:=h [bI];cases e with
 |returned x=>obtain⟨n,a⟩:Steps P _ _:=b;exact⟨n,fr,w',a,by rw[hl.1];simp,hl.2.1⟩
 |panicked c=>obtain⟨n,a⟩:Steps P _ _:=b;exact⟨n,fr,w',a,by rw[hl.1];simp,hl.2.1⟩
 |outgrown=>exact absurd d (g w')
def Sk (hB:∀K:Kp,(∀b,¬K b)->cB P Al K){f args V D}{vb:Nat}(ft:Closed P Al D (Frame.enter P f args .normal) [] V){A2:zF}(gd:∀k,A2 (1000002+k)->k=vb)(U:vb<V.heap.size)
  (hV:∀N,V.heap.size<=N->∃(A:zF)(W:zW)(ρ:Rn)(R:Ending->zW->Prop),cB P A K0/\A f/\¬A 1000000/\(∀k,A (1000002+k)->N<=k)/\aZ A ρ args args/\(∀g d,bQ P A K0 ρ (W.re g d) (V.re g d))/\W.heap.size=V.heap.size/\(∀b b',ρ b b'->b=b')/\(∀b b',ρ b b'->b'≠vb)/\(∀w',¬R .outgrown w')/\∀g d,Calls P f args (W.re g d) R)
  (fr) (own) (v) (h:(fr,own,v)=(Frame.enter P f args .normal,[],V)\/Sub P S (fr,own,v) (Frame.enter P f args .normal,[],V)):nZ A2 fr:=by
 have l:∃N,∀H e,∃g,Trail P N (lk (fr,own,v) H e) (Frame.enter P f args .normal) [] (V.re g 0):=by obtain h|h:=h;{refine⟨V.heap.size,λH e=>⟨λi=>H (e+i),.stop (zAb _) ?_⟩⟩;rw[h];exact⟨rfl,rfl,rfl,λk=>by show H (e+(0+k))=_;rw[zBd]⟩};{exact(glue hB h ⟨D,ft⟩).2}
 obtain⟨N,l⟩:=l;obtain⟨g,ht⟩:=l V.tape 0;obtain⟨A,W,ρ,R,BA,hAf,hAj,G,p,hw,hz,hid,hav,hR,hC⟩:=hV (N+V.heap.size) (Nat.le_add_left _ _);have Z:=ht.mono (N':=N+V.heap.size) (by omega);obtain⟨fr1,own1,v1,ρ1,a,aAj,vB,⟨e1,e2,e3,_⟩,pf,q,ho,T,hz1,F,hl⟩:=replay BA G Z (cJ.enter BA hAf p (aH rfl)) .nil (hw g 0) hz hid hav U (ZO (hC g 0) hR);dsimp only at e1 e2;subst e1;subst e2;intro hm ops j rest k o Y z Q c w E x O b n s hb J;subst J;have hbv:=gd b hb;subst hbv;have C:a.mode= .run:=by have:=q.mode;rw[hm]at this;generalize a.mode=m at this;cases this;rfl
 have hnv:=KU G (by omega) q.round (hl.step (aH C)).1;have r:a.todo=aN ops (j::rest)::k:=by rw[<-q.todo];exact Y
 have I:=funext (oE q.tmps ops);have u:=(q.items (aN ops (j::rest)) (by rw[r];exact zAy)) o (zBj z);have t:0<c.args.size:=by have:=(zAa.1 O).1;simpa using this
 have kg:=T.ok;have X:=q.eval kg c.args[0] (u.1 _ (by rw[w];simp[Op.operands,Call.operands]));have M:fr1.eval c.args[0]= .slice (aA ⟨b,n,s⟩) 0 0:=by rw[zCg,zAj t]at O;simpa using O
 rw[M]at X;have L:(c.args.map a.eval)[0]? =aA (a.eval c.args[0]):=by rw[zCg,zAj t];rfl
 have B:=hnv C ops j rest k o r z (by rw[<-I];exact Q) c w E _ L;generalize a.eval c.args[0]=y at X B;cases X with
 |slice hp _ _=>
  cases hp with
  |some ha=>exact F _ _ ha.1 rfl
 |void hV' _=>exact B _ _ _ hV' rfl
 |junk hJ _=>exact hAj hJ
end
end Go.Ren
namespace Go.Proofs
open Go.Ren Go.Conc Go.RowKit
def kY (kd:CallKind)(tm:zA)(todo:zI):zC:={fn:=219,tmps:=tm,todo,defers:=[],mode:= .run,kind:=kd}
def GA (xs)(kd:CallKind):Frame.enter zq 219 xs kd=kY kd (xs++aD5 (37-xs.size) aEn) [.code Qz.ON]:=by unfold Frame.enter;rw[Qz.func219];rfl
def Yp (xs)(kd:CallKind):Frame.enter Tryz.prog 219 xs kd=kY kd (xs++aD5 (37-xs.size) aEn) [.code Fx]:=by unfold Frame.enter;rw[func219];rfl
section
variable {cs:zL}{S:zS}{tm:zA}{k:zI}{v v1:zW}{ops:zQ}{j:Nat}{rest:List Nat}{o:Oper}{kd:CallKind}
def nS (a:ops[j]? =aA o)(g:o.guard=aB){y:zY}{b:zE}(f:(aEd (kY kd tm (aN ops (j::rest)::k)).eval o).runT zq v #[]=(.ok (.value y) v1,b)){tm1:zA}(c:tm1=match o.dst with|some d=>tm.setIfInBounds d y|none=>tm)
  (h:Lone zq cs S (kY kd tm1 (aN ops rest::k)) [] v1):Lone zq cs S (kY kd tm (aN ops (j::rest)::k)) [] v:=by
 obtain⟨l,e,_⟩:=oS f;refine Lone.step (aH rfl) ((ES rfl rfl rfl a g aF).trans e) ?_;have i:(kY kd tm (aN ops (j::rest)::k)).finish y=kY kd tm1 (aN ops rest::k):=by subst c;unfold Frame.finish kY;simp only[a,zEb];cases o.dst<;>rfl
 rw[i];exact h
def Bh (a:ops[j]? =aA o)(f:o.guard=aB)(g:o.dst=aB){b}(d:(aEd (kY kd tm (aN ops (j::rest)::k)).eval o).runT zq v #[]=(.ok .skip v1,b))
  (h:Lone zq cs S (kY kd tm (aN ops rest::k)) [] v1):Lone zq cs S (kY kd tm (aN ops (j::rest)::k)) [] v:=by
 have e:∃c,stepG.apply zq aF (kY kd tm (aN ops (j::rest)::k)) ([]++cs) aB (aEd (kY kd tm (aN ops (j::rest)::k)).eval o) v= .go (G ((kY kd tm (aN ops (j::rest)::k)).finish aEn) ([]++cs)) v1 c:=by unfold stepG.apply;simp only[zCs];rw[d];exact⟨_,rfl⟩
 obtain⟨c,e⟩:=e;refine Lone.step (aH rfl) ((ES rfl rfl rfl a f aF).trans e) ?_;have i:(kY kd tm (aN ops (j::rest)::k)).finish aEn=kY kd tm (aN ops rest::k):=by unfold Frame.finish kY;simp only[a,zEb,g]
 rw[i];exact h
def xE {todo t:zI}(hs:∀c,stepG zq aF (G (kY kd tm todo) c) v= .go (G (kY kd tm t) c) v #[])(h:Lone zq cs S (kY kd tm t) [] v):Lone zq cs S (kY kd tm todo) [] v:=
 Lone.step (aH rfl) (hs _) h
def Kd (m:Bool)(n:Nat):Region.schedule m Qh n=if n%2=0 then [0,1]else [1,0]:=KF Qh m n
def Ly (a:zT)(d:Nat):Nat:=(Question.order 219 91).cut (a d (.order 219 91))%2
def Bi {l}(a)(d)(b:(if Ly a d=0 then [0,1]else [1,0])=l)(h:Lone zq cs S (kY kd tm (aN Qh l::k)) [] (v.re a (d+1))):Lone zq cs S (kY kd tm (.code (.region 91 Qh aF)::k)) [] (v.re a d):=by refine Lone.step (es:= #[]) (aH rfl) ?_ h;subst b;show GStep.go (G (kY kd tm (aN Qh (Region.schedule (zq.follows .mixedOrders) Qh ((Question.order 219 91).cut (a d (.order 219 91))))::k)) ([]++cs)) (v.re a (d+1)) #[]=_;rw[Kd];rfl
def CF {tm a b k u}(h:Lone zq cs S (kY kd tm (.code a:: .code b::k)) [] u):Lone zq cs S (kY kd tm (.code (.seq a b)::k)) [] u:=xE (λc=>rfl) h
def FD {tm id ops k u}(h:Lone zq cs S (kY kd tm (aN ops (List.range ops.size)::k)) [] u):Lone zq cs S (kY kd tm (.code (.region id ops aG)::k)) [] u:=xE (λc=>rfl) h
def CG {tm ops k u}(h:Lone zq cs S (kY kd tm k) [] u):Lone zq cs S (kY kd tm (aN ops []::k)) [] u:=xE (λc=>rfl) h
def Lx {tm k u}(h:Lone zq cs S (kY kd tm k) [] u):Lone zq cs S (kY kd tm (.code .skip::k)) [] u:=xE (λc=>rfl) h
def FE {tm}{t:Nat}{a b k u}(c:Bool)(d:tm.getD t aEn= .bool c)(h:Lone zq cs S (kY kd tm (.code (if c then a else b)::k)) [] u):Lone zq cs S (kY kd tm (.code (.cond (.tmp t) a b)::k)) [] u:=by refine xE (λcs=> ?_) h;show stepG.exec zq aF aF (kY kd tm (.code (.cond (.tmp t) a b)::k)) cs aB u=_;unfold stepG.exec;dsimp only[kY];rw[show Frame.eval ⟨219,tm,.code (.cond (.tmp t) a b)::k,[],.run,kd,aB⟩ (.tmp t)= .bool c from d];cases c<;>rfl
def LH (h:tm.getD 35 aEn= .pointer (aA ⟨v.heap.size,0,aB⟩))(k)(b)(a)(d):(aEd (kY kd tm k).eval Xt).runT zq ((boxed v b).re a d) #[]=(.ok .skip ((boxed v aF).re a d),#[⟨.cell ⟨v.heap.size,0,aB⟩,aF,aG⟩]):=by
 have e:aEd (kY kd tm k).eval Xt=(do Instr.storeAt 4 (tm.getD 35 aEn) (.bool aF);pure Next.skip:Sem Next):=by rfl
 rw[e,h,KG];rfl
def TB (h:tm.getD 35 aEn= .pointer (aA ⟨v.heap.size,0,aB⟩))(k)(b)(a)(d):(aEd (kY kd tm k).eval Xu).runT zq ((boxed v b).re a d) #[]=(.ok (.value (.bool b)) ((boxed v b).re a d),#[⟨.cell ⟨v.heap.size,0,aB⟩,aG,aG⟩]):=by
 have e:aEd (kY kd tm k).eval Xu=(do let x<-Instr.loadAt 4 (tm.getD 35 aEn);pure (aEo x):Sem Next):=by rfl
 rw[e,h,RP];rfl
def Bj (k)(u):(aEd (kY kd tm k).eval Zu).runT zq u #[]=(.ok (.value aEn) u,#[])/\(aEd (kY kd tm k).eval Zt).runT zq u #[]=(.ok (.value aEn) u,#[]):=by
 constructor
 .unfold aEd Zu;rfl
 .unfold aEd Zt;rfl
def Fq (k:zI):aEd (kY kd tm k).eval Zv=(do let y<-Instr.loadAt 135 (.pointer (aA ⟨0,0,aB⟩));pure (aEo y):Sem Next):=by unfold aEd Zv;rfl
def Sy (h:tm.getD 35 aEn= .int aP 0)(k:zI)(u:zW):(aEd (kY kd tm k).eval Xv).runT zq u #[]=(.ok (.value (.bool aF)) u,#[]):=by
 have e:aEd (kY kd tm k).eval Xv=(do pure (aEo (<-(do eqGuard .leq 135 (.tmp 35) (.const (.int aP 0)) (tm.getD 35 aEn) (.int aP 0);binOp .leq 135 (tm.getD 35 aEn) (.int aP 0):Sem zY))):Sem Next):=by unfold aEd Xv;rfl
 rw[e,h];rfl
def LG (a)(d)(h:Lone zq cs S (kY kd (tm.setIfInBounds 35 (.pointer (aA ⟨v.heap.size,0,aB⟩))) [.code (.region 91 Qh aF),.code jv]) [] ((boxed v aG).re a d)):
  Lone zq cs S (kY kd tm [.code Qz.ON]) [] (v.re a d):=by
 iterate 2 (refine xE (λc=>rfl) ?_)
 refine nS rfl rfl (EI _) rfl ?_;iterate 2 (refine xE (λc=>rfl) ?_)
 exact h
def Sx (l:Fl v)(c:zT)(d:Nat)(hs:Ly c d=0)(f:tm.size=37)(h:∀fr:zC,fr.fn=219->fr.mode= .returning->fr.defers=[]->fr.kind=kd->S fr [] ((boxed v aF).re c (d+1))):
  Lone zq cs S (kY kd tm [.code Qz.ON]) [] (v.re c d):=by
 refine LG c d ?_;refine Bi (v:=boxed v aG) c d (by rw[hs]) ?_;have g:(tm.setIfInBounds 35 (.pointer (aA ⟨v.heap.size,0,aB⟩))).getD 35 aEn= .pointer (aA ⟨v.heap.size,0,aB⟩):=aW (by omega);refine Bh (o:=Xt) (v1:=(boxed v aF).re c (d+1)) rfl rfl rfl (LH g _ aG _ _) ?_;refine nS (o:=Xu) (y:= .bool aF) (tm1:=(tm.setIfInBounds 35 (.pointer (aA ⟨v.heap.size,0,aB⟩))).setIfInBounds 36 (.bool aF)) rfl rfl (TB g _ aF _ _) rfl ?_;refine CG (CF (a:=Mc) (b:=Zw) ?_);refine FE (a:=dw) (b:= .skip) aF (aW (by simp[f])) (CF (a:= .region 93 Xq aG) (b:=ju) (FD (ops:=Xq) ?_));have i:((tm.setIfInBounds 35 (.pointer (aA ⟨v.heap.size,0,aB⟩))).setIfInBounds 36 (.bool aF)).size=37:=by simp[f]
 generalize(tm.setIfInBounds 35 (.pointer (aA ⟨v.heap.size,0,aB⟩))).setIfInBounds 36 (.bool aF)=t at i⊢;have m:((boxed v aF).re c (d+1)).cell? ⟨0,0,aB⟩=aA (.int aP 0):=(iN (GS (kL l) aF c (d+1))).1.trans l;refine nS (ops:=Xq) (j:=0) (rest:=[1]) (o:=Zv) (y:= .int aP 0) (tm1:=t.setIfInBounds 35 (.int aP 0)) rfl rfl (by rw[Fq];exact RQ _ _ m) rfl ?_;refine nS (ops:=Xq) (j:=1) (rest:=[]) (o:=Xv) (y:= .bool aF) (tm1:=(t.setIfInBounds 35 (.int aP 0)).setIfInBounds 36 (.bool aF)) rfl rfl (Sy (aW (by omega)) _ _) rfl ?_;refine CG (FE (a:= .ret) (b:= .skip) aF (aW (by simp[i])) ?_);exact Lone.step (fr1:={kY kd ((t.setIfInBounds 35 (.int aP 0)).setIfInBounds 36 (.bool aF)) [.code .ret,.code Zw]with mode:= .returning}) (own1:=[]) (v1:=(boxed v aF).re c (d+1)) (es:= #[]) (aH rfl) rfl (.stop (h _ rfl rfl rfl rfl))
def Ky {p q}(d:tm.size=37)(a:tm.getD 35 aEn=aEn)(h:tm.getD 36 aEn=aEn):(((tm.setIfInBounds 35 p).setIfInBounds 36 q).setIfInBounds 35 aEn).setIfInBounds 36 aEn=tm:=by
 apply zBz;intro i;have c:tm[35]? =aA aEn:=by rw[zAu]at a;rw[zAj (by omega)]at a⊢;simpa using a
 have b:tm[36]? =aA aEn:=by rw[zAu]at h;rw[zAj (by omega)]at h⊢;simpa using h
 simp only[zBt,zDa];by_cases f:36=i
 .subst f;rw[b];simp[d]
 .by_cases e:35=i
  .subst e;rw[c];simp[d]
  .simp[f,e]
def du (c:zT)(d:Nat)(hs:Ly c d≠0)(i:tm.size=37)(g:tm.getD 35 aEn=aEn)(f:tm.getD 36 aEn=aEn)(h:Lone zq cs S (kY kd tm [.code Fx]) [] ((boxed v aF).re c (d+1))):
  Lone zq cs S (kY kd tm [.code Qz.ON]) [] (v.re c d):=by
 refine LG c d ?_;refine Bi (v:=boxed v aG) c d (by rw[zAv hs]) ?_;have l:(tm.setIfInBounds 35 (.pointer (aA ⟨v.heap.size,0,aB⟩))).getD 35 aEn= .pointer (aA ⟨v.heap.size,0,aB⟩):=aW (by omega);refine nS (o:=Xu) (y:= .bool aG) (tm1:=(tm.setIfInBounds 35 (.pointer (aA ⟨v.heap.size,0,aB⟩))).setIfInBounds 36 (.bool aG)) rfl rfl (TB l _ aG _ _) rfl ?_;have e:((tm.setIfInBounds 35 (.pointer (aA ⟨v.heap.size,0,aB⟩))).setIfInBounds 36 (.bool aG)).getD 35 aEn= .pointer (aA ⟨v.heap.size,0,aB⟩):=by rw[bP (by decide)];exact l
 refine Bh (o:=Xt) (v1:=(boxed v aF).re c (d+1)) rfl rfl rfl (LH e _ aG _ _) ?_;refine CG (CF (a:=Mc) (b:=Zw) ?_);refine FE (a:=dw) (b:= .skip) aG (aW (by simp[i])) (Lx (CF (a:= .region 92 Zs aG) (b:=Fx) (FD ?_)));refine nS (ops:=Zs) (j:=0) (rest:=[1]) (o:=Zu) (y:=aEn) (tm1:=((tm.setIfInBounds 35 (.pointer (aA ⟨v.heap.size,0,aB⟩))).setIfInBounds 36 (.bool aG)).setIfInBounds 35 aEn) rfl rfl (Bj _ _).1 rfl ?_;refine nS (ops:=Zs) (j:=1) (rest:=[]) (o:=Zt) (y:=aEn) (tm1:=tm) rfl rfl (Bj _ _).2 (Ky i g f).symm ?_;exact CG h
end
def Ju {xs}(h:xs.size<=20):(xs++aD5 (37-xs.size) aEn).size=37:=by simp;omega
def Uo {xs}(h:xs.size<=20){i}(hi:20<=i):(xs++aD5 (37-xs.size) aEn).getD i aEn=aEn:=by rw[zAu,zCc (by omega),zEr];split<;>rfl
def Qz.quits:Pc zq Qz.Al Fl:=by
 refine⟨λ_ _ h l=>h.more l,λf x v D a b c d _=>⟨λ_ _=>0,0,?_⟩,λf x cs w r b c=> ?_⟩
 .obtain rfl:=Qz.Uw b c;rw[GA];refine Sx a (λ_ _=>0) 0 (by decide) (Ju d) λfr q p n m=>⟨rfl,p,n,m,⟨Qz.f219,.tuple #[],by rw[q];exact Qz.func219,λw=> ?_⟩,(jK v aF).re _ _ _ _⟩;have g:Qz.f219.results= #[]:=rfl;have i:results Qz.f219 fr.tmps=pure (.tuple #[]):=by
   unfold results;rw[g];simp
  rw[i];rfl
 .obtain rfl:=Qz.Uw b c;have e:invoke (.fn (.func 219) cs) x=callFunc 219 (x++cs):=by
   unfold invoke;rfl
  rw[e];exact jN Qz.func219 (by kernel_rfl) rfl _ _ _
end Go.Proofs
namespace Go.Ren
open Go.Conc (G)
section
variable {P:zZ}{Al:zF}{π:Rn}{v w v':zW}
def CX {K}(h:bQ P Al K π v w){b b'}(a:π b b'):b<v.heap.size:=by
 obtain⟨_,_,_,_,_,e,_⟩|⟨_,_,e,_⟩|⟨_,_,e,_⟩:=h.blk b b' a
 .exact(zAa.1 e).1
 .exact(zAa.1 e).1
 .exact(zAa.1 e).1
def CW {K}(h:bQ P Al K π v w){b b'}(a:π b b'):b'<w.heap.size:=by
 obtain⟨_,_,_,_,_,_,e,_⟩|⟨_,_,_,e,_⟩|⟨_,_,_,e,_⟩:=h.blk b b' a
 .exact(zAa.1 e).1
 .exact(zAa.1 e).1
 .exact(zAa.1 e).1
def JQ (a:bQ P Al K0 π v w)(hs:v.heap.size<=v'.heap.size)(h:∀b,b<v.heap.size->v'.heap[b]? =v.heap[b]?)(e:v'.os=v.os)(d:∀k,w.tape (w.drawn+k)=v'.tape (v'.drawn+k)):bQ P Al K0 π v' w:=
 ⟨a.ok,λb f c=>by rw[h b (CX a c)];exact a.blk b f c,λk _=>d k,λb c=>c.elim,⟨zAd a.low.1 hs,a.low.2⟩,a.os.trans e.symm,λb c=>c.elim⟩
def VV {w':zW}(a:bQ P Al K0 π v w)(hs:w.heap.size<=w'.heap.size)(h:∀b,b<w.heap.size->w'.heap[b]? =w.heap[b]?)(f:w'.os=w.os)(e:∀k,w'.tape (w'.drawn+k)=v.tape (v.drawn+k)):bQ P Al K0 π v w':=
 ⟨a.ok,λb d c=>by rw[h d (CW a c)];exact a.blk b d c,λk _=>e k,λb c=>c.elim,⟨a.low.1,zAd a.low.2 hs⟩,f.trans a.os,λb c=>c.elim⟩
def Sub.base {S fr own c d}(g:¬S fr own v){x}(h:Sub P S x (fr,own,v.re c d)):Sub P S x (fr,own,v):=by
 generalize f:(fr,own,v.re c d)=z at h;induction h with
 | @one x y h=>subst f;obtain⟨_,b,a,l,m,j,e⟩:=h;exact .one ⟨g,b,a,l,m,j,e⟩
 | @more x y z h k i=>exact .more h (i f)
end
end Go.Ren
namespace Go.Ga
open Go.Conc Go.Ren Go.Proofs Go.Tr
def vd {P Al K}(h:lE P Al K Qz.ON):∀i∈[Item.code Fx],kM P Al K i:=λi hi=>by simp only[zAm]at hi;subst hi;exact h.2.2.2.2
section
variable {R:zR}{E:List PanicEntry->zW->Prop}{xs PK:zA}{k:CallKind}{own own':zL}{v:zW}{D:zP}{Sh:zP}{gs:zG}{w:zW}{t:Trace}{q:Nat->Nat}{sl:Option (Nat×Nat)}{π:Rn}{vb:Nat}
def Ot (s:k= .normal\/k= .deferred)(hi:Apart zq Qm.prog.funcs Qm.Al (Frame.enter zq 219 xs k) own v\/AI zq Qm.prog.funcs Qm.Al 219 xs own v)(e)(d):
  Apart zq Qm.prog.funcs Qm.Al (kY k (xs++aD5 (37-xs.size) aEn) [.code Fx]) own ((boxed v aF).re e d):=by
 have g:∀b,¬Go.Ren.K0 b:=λb h=>h;have j:=jK v aF;have p:=(Qm.same (by decide) (by decide)).trans Qz.func219;have f:∀c,Qm.Al 219->aZ Qm.Al (cC c) (xs++aD5 (37-xs.size) aEn) (xs++aD5 (37-xs.size) aEn)->fZ (cJ ⟨zq.toTables,Qm.prog.funcs⟩ Qm.Al Go.Ren.K0 (cC c)) own own->bQ ⟨zq.toTables,Qm.prog.funcs⟩ Qm.Al Go.Ren.K0 (cC c) v v->Apart zq Qm.prog.funcs Qm.Al (kY k (xs++aD5 (37-xs.size) aEn) [.code Fx]) own ((boxed v aF).re e d):=λc l m o n=>by refine⟨c,⟨rfl,l,m,rfl,vd ?_,.nil,.run,rfl,s,rfl,rfl⟩,o,?_,Qm.nj⟩;{have u:cB ⟨zq.toTables,Qm.prog.funcs⟩ Qm.Al Go.Ren.K0:=by{rw[Qz.Vn];exact Qm.iU _ g};exact u.body 219 Qz.f219 _ l p rfl};{have y:=fW n g e e d d (λ_ _=>rfl);have x:=JQ (v':=(boxed v aF).re e d) y j.size j.old rfl (λ_=>rfl);exact VV x j.size j.old rfl (λ_=>rfl)}
 obtain⟨c,a⟩|⟨c,l,m,o,n⟩:=hi
 .have r:=a.frame.tmps;rw[GA]at r;exact f c a.frame.al r a.own a.world
 .exact f c l (m.append (.replicate (.tuple rfl λi v v' h _=>by simp at h) _)) o n
def Te (r:xs.size<=20)(hi:Apart zq Qm.prog.funcs Qm.Al (Frame.enter zq 219 xs k) own v\/AI zq Qm.prog.funcs Qm.Al 219 xs own v)(c:Main zq Tryz.prog.funcs (Qz.Aj vb) Sh gs w t q π (Frame.enter zq 219 xs k) own v (Frame.enter zq 219 PK k) own')
  (H:gs[0]? =aA (G (Frame.enter ⟨zq.toTables,Tryz.prog.funcs⟩ 219 PK k) own')) (n:Closed zq Qz.Al D (Frame.enter zq 219 xs k) own v)
  (J:Go.Ren.Ends zq Qz.Al (Go.Ren.AtEnd zq R E) (Frame.enter zq 219 xs k) own v):
  PF zq Tryz.prog.funcs Qz.Al (Qz.Aj vb) R E (Apart zq Qm.prog.funcs Qm.Al) (Frame.enter zq 219 xs k,own,v) Sh π gs w sl t:=by
 have j:∀b,¬Go.Ren.K0 b:=λb h=>h;have x:=jK v aF;have B:k= .normal\/k= .deferred:=by have:=c.NQ.frame.kinds;exact this
 have hl:Lone zq [bI] (λfr l u=>fr=kY k (xs++aD5 (37-xs.size) aEn) [.code Fx]/\l=[]/\u=(boxed v aF).re (λ_ _=>1) 1) (Frame.enter zq 219 xs k) [] (v.re (λ_ _=>1) 0):=by rw[GA];exact du (λ_ _=>1) 0 (by decide) (Ju r) (Uo r (by decide)) (Uo r (by decide)) (.stop ⟨rfl,rfl,rfl⟩)
 obtain⟨M,Q,u2,D2,⟨O,N,p⟩,g,z,y,a⟩:=Lone.QH Qz.iU (λ_ _ _ F=>eO F) hl ⟨n.frame,.nil,fW n.world j _ _ _ _ (λ_ _=>rfl),n.nj⟩ (J.re (λ_ _ _ C d h=>h.re C d) (λ_ _=>1) 0);subst O;subst N;have m:∀b A,cC D b A->cC D2 b A:=λb A h=>⟨h.1,z b h.2⟩;have f:=(Qz.xV _ Go.Ren.K0 j).body 219 Qz.f219 _ c.NQ.frame.al Qz.func219 rfl;have i:=c.NQ.frame.tmps;rw[GA,GA]at i;refine⟨0,gs,w,sl,t,q,Sh,π,kY k (xs++aD5 (37-xs.size) aEn) [.code Fx],own,u2,D2,Frame.enter Tryz.prog 219 PK k,own',rfl,by rw[H,Qz.back],⟨c.lv,c.calm,c.IU,⟨?_,c.NQ.own,?_⟩,c.off,λb I=> ?_⟩,⟨g.frame,n.own.imp λ_ _ h=>h.mono m,g.world,g.nj⟩,y,⟨rfl,rfl,rfl⟩,?_,?_,.refl⟩
 .rw[Yp];exact⟨rfl,c.NQ.frame.al,i,rfl,vd f,.nil,.run,rfl,B,rfl,rfl⟩
 .subst p;exact JQ c.NQ.world x.size x.old rfl λ_=>rfl
 .subst p;obtain⟨L,o⟩:=c.Vk b I;exact⟨L,(x.old b (zAa.1 o).1).trans o⟩
 .right;obtain e|a:=a
  .exfalso;have:u2=v.re (λ_ _=>1) 0:=congrArg (λs:Ic=>s.2.2) e;rw[p]at this;have o:=congrArg (λu:zW=>u.heap.size) this;have K:(v.heap.push (aJ #[.bool aF] 4)).size=v.heap.size:=o;rw[zBw]at K;omega
  .exact Sub.base (by have:=eO (P:=zq) (R:=R) (E:=E) (fr:=Frame.enter zq 219 xs k) (l:=own) (cs:=[]) (v:=v) (aH rfl);rwa [zAq]at this) a
 .subst p;exact Ot B hi _ _
end
end Go.Ga
namespace Go.Ren
open Go.Conc (G)
section
variable {P:zZ}{Al:zF}{K:Kp}{fs:Array Func}{R:zR}
def Um (P:zZ)(fs:Array Func)(Al:zF)(K:Kp)(L:Nat)(π0:Rn)(R:zR)(main:Bool)(c:zC)(cs:zL)(rd rw:zP)(g:zH)(w:zW):Prop:=
 g.status= .running/\∃x f v d h,R x v/\bG Al d x f/\bQ P Al K d (v.re w.tape w.drawn) w/\(∀b a,d b a->(K b/\rd a/\π0 b a)\/(¬K b/\rw a/\L<=a))/\stepG ⟨P.toTables,fs⟩ main g w= .go (G (c.finish f) cs) w h/\(∀e∈h,VP rd rw e)
def UY {L:Nat}{π0:Rn}(hN:∀f,¬Al (900000+f))(j:K.nR=aB)(B:cB P Al K)(B0:cB P Al K0)(fl:Shape P fs)
  (kh:∀f xs own v D,Al f->fs[f]?≠P.funcs[f]?->Closed P Al D (Frame.enter P f xs .normal) own v->Ib (Frame.enter P f xs .normal) own->Ends P Al (iO P R) (Frame.enter P f xs .normal) own v->False)
  {J:zW->Prop} {main:Bool} {c:zC} {cs:zL} {fr:zC} {own:zL} {v:zW} (h:Ends P Al (iO P R) fr own v):
  ∀{π:Rn}{fr':zC}{own':zL}{w:zW}{rd rw:zP}{D:zP},VM P Al K π fr own v fr' own' w->Closed P Al D fr own v->Ib fr own->(∀x∈fr::own,fs[x.fn]? =P.funcs[x.fn]?)->(∀b i,π b i->(K b/\rd i/\π0 b i)\/(¬K b/\rw i/\L<=i))->L<=w.heap.size->
   ∃tr,cK ⟨P.toTables,fs⟩ main J (Um P fs Al K L π0 R main c cs) tr rd rw (G fr' (own'++c::cs)) w:=by
 induction h with
 | @stop fr own v h=>intro π fr' own' w rd rw D hk Y ht A N hL;obtain⟨e,x,hx,hr⟩:=h;subst e;refine⟨.leaf,λa r _=> ?_⟩;have g:=hk.rely j (w₁:=a) ⟨λb i n=>r.cM i ((N b i n).elim (λy=>aH y.2.1) λy=>aI y.2.1),r.size,r.os⟩;obtain⟨x',Z,g1,g2,O,g4⟩:=g.leave j hx main c cs;exact⟨rfl,x,x',v,π,Z,by have:=hr v.tape v.drawn;rwa [gG]at this,g1,g.world,N,(TE fl j g hx (A fr (by simp)) main c cs).trans O,λe he=>YZ (λb i n=>(N b i n).imp (λy=>⟨y.1,y.2.1⟩) λy=>⟨y.1,y.2.1⟩) (g4 e he)⟩
 | @step fr own v l E Y U hch ih=>
  intro π fr' own' w rd rw D hk I ht A N hL;refine cK.step rfl λa r _=> ?_;have g:=hk.rely j (w₁:=a) ⟨λb i n=>r.cM i ((N b i n).elim (λy=>aH y.2.1) λy=>aI y.2.1),r.size,r.os⟩;by_cases hq:rE P K fr;rotate_left
  .obtain⟨s,d,d1,d2,x,hx,q1,q2⟩:=Ob (fs:=fs) g hq λs d=>let⟨Z,e⟩:=U s d [] aF;⟨_,_,Z,e⟩;obtain⟨gn,C⟩:=U s d [] aF;obtain⟨kt,Q⟩:=q1 aF [];rw[C]at Q;have a1:(E s d).1=fr.finish x:=by injection Q with e _ _;exact congrArg Goroutine.frame e
   have a2:(E s d).2.1=own:=by injection Q with e _ _;exact zCz (congrArg Goroutine.callers e)
   have a3:(E s d).2.2=v.re s d1:=by injection Q
   obtain⟨Vj,e2,Mp⟩:=q2 main (c::cs);refine⟨_,_,Vj,e2,⟨λb n hn=>rfl,zAb _,rfl,rfl,rfl⟩,λe he=>YZ (λb i n=>(N b i n).imp (λy=>⟨y.1,y.2.1⟩) λy=>⟨y.1,aH y.2.1⟩) (Mp e he),?_⟩;have X:∀b,¬K0 b:=λb h=>h;have m:=C;rw[zAq,zAq]at m;have M:=DL B0 hN (fr:=fr) (own:=own) (w:=v.re s d) (D:=D) ⟨I.frame,I.own,fW I.world X _ _ _ _ (λ_ _=>rfl),I.nj⟩ ht l m;obtain⟨D1,F⟩:=Y s d;have Yb:=oQ fr x;have t:∀z∈(E s d).1::(E s d).2.1,fs[z.fn]? =P.funcs[z.fn]? :=by intro z hz;rw[a1,a2]at hz;obtain rfl|hz:=zAg.1 hz;{rw[Yb.1];exact A fr (by simp)};{exact A z (zBc _ hz)}
   have qb:VM P Al K π (E s d).1 (E s d).2.1 (E s d).2.2 (fr'.finish x) own' {a with drawn:=d2}:=by rw[a1,a2,a3];exact⟨g.frame.finish (hx Al π),g.own,⟨g.world.ok,g.world.blk,λk _=>rfl,g.world.fresh,g.world.low,g.world.os,g.world.rows⟩⟩
   exact ih s d qb F (M.bf ht) t (λb i n=>(N b i n).imp id λy=>⟨y.1,aH y.2.1,y.2.2⟩) (zBb hL r.size)
  obtain⟨gn,C⟩:=U a.tape a.drawn [] aF;obtain⟨ρ,H,S,w1,Z,g1,g2,O,g4⟩:=g.step j B l (y:=E a.tape a.drawn) ⟨gn,C⟩ main (c::cs) hq (jG I.nj.2);have h2:∀b i,ρ b i->(K b/\rd i/\π0 b i)\/(¬K b/\grown rw a w1 i/\L<=i):=λb i n=>by obtain x|⟨x1,x2,x3⟩:=O.rM b i n;{exact(N b i x).imp id λy=>⟨y.1,aH y.2.1,y.2.2⟩};{right;refine⟨λhK=> ?_,aI ⟨x2,x3⟩,zBb (zBb hL r.size) x2⟩;have:=g.world.fresh b hK;simp only[World.re]at x1 this;omega}
  have X:∀b,¬K0 b:=λb h=>h;have m:=C;rw[zAq,zAq]at m;have M:=DL B0 hN (fr:=fr) (own:=own) (w:=v.re a.tape a.drawn) (D:=D) ⟨I.frame,I.own,fW I.world X _ _ _ _ (λ_ _=>rfl),I.nj⟩ ht l m;obtain⟨D1,F⟩:=Y a.tape a.drawn;have T:=M.bf ht;have t:∀x∈(E a.tape a.drawn).1::(E a.tape a.drawn).2.1,fs[x.fn]? =P.funcs[x.fn]? :=by obtain x|⟨f,xs,ha,W,Q,e2⟩:=M.fns (p:=λf=>fs[f]? =P.funcs[f]?) A;{exact x};{exfalso;have hE:=hch a.tape a.drawn;rw[Q]at hE F T;exact kh f xs _ _ D1 ha W F T hE}
  have V:stepG ⟨P.toTables,fs⟩ main (G fr' (own'++c::cs)) a= .go (G H (S++c::cs)) w1 Z:=by
   obtain⟨o,u,Vj,e⟩|⟨e,_⟩|⟨f,xs,k,callers,uk,gp,rk,_,_,_,q1,q2,W⟩:=oG (cs:=[]) (cs':=c::cs) B fl j g.world g.frame (by rw[A fr (by simp)]) g.own l aF main hq (jG I.nj.2);{rw[C]at e;cases e};{rw[e,g1]}
   .exfalso;rw[g1]at q1;have Q:H=Frame.enter P f xs k:=by
     injection q1 with q _ _;exact congrArg Goroutine.frame q
    have e2:H.fn=f:=by
     rw[Q];unfold Frame.enter;cases P.funcs[f]? with
     |none=>rfl
     |some fn=>cases fn.body<;>rfl
    have e3:=t (E a.tape a.drawn).1 (by simp);rw[<-g2.frame.fn,e2]at e3;exact W e3
  refine⟨_,w1,Z,V,⟨λb n hn=> ?_,O.size,O.tape,O.os,O.out⟩,λe he=>YZ (λb i n=>(h2 b i n).imp (λy=>⟨y.1,y.2.1⟩) λy=>⟨y.1,y.2.1⟩) (g4 e he),ih a.tape a.drawn g2 F T t h2 (zBb (zBb hL r.size) O.size)⟩;refine O.still b n λb0 hb0=> ?_;obtain⟨x,_⟩|⟨_,x⟩:=N b0 b hb0;{exact x};{exact absurd x.1 hn}
end
end Go.Ren
namespace Go.Ga
open Go.Conc Go.Ren Go.Proofs Go.RowKit Go.Conc.Lib Go.Wg Go.Tr
open Go.ConcR (wgBlock)
def Bd:(∃i,Tryz.prog.info? 297=aA i)/\(∃d,Tryz.prog.underlying 295=aA (.chan d 297))/\(∃i,Tryz.prog.info? 233=aA i)/\(∃d,Tryz.prog.underlying 232=aA (.chan d 233)):=⟨⟨_,rfl⟩,⟨_,underlying295⟩,⟨_,rfl⟩,⟨_,underlying232⟩⟩
def mkr (w):(Instr.makeChan 295 (.int aD 0)).run Tryz.prog w= .ok (.chan (aA w.heap.size)) (w.alloc (.chan 0 #[] aG 0 0 aG)):=by obtain⟨⟨i,a⟩,⟨d,h⟩,_⟩:=Bd;exact run_makeChan h a aD 0 (by omega) (by omega)
def mkd (w):(Instr.makeChan 232 (.int aD 0)).run Tryz.prog w= .ok (.chan (aA w.heap.size)) (w.alloc (.chan 0 #[] aG 0 0 aG)):=by obtain⟨_,_,⟨i,a⟩,⟨d,h⟩⟩:=Bd;exact run_makeChan h a aD 0 (by omega) (by omega)
def ng (w):(Instr.makeChan 295 (.int aD 0)).events Tryz.prog w #[]= #[]:=by obtain⟨⟨i,a⟩,⟨d,h⟩,_⟩:=Bd;exact events_makeChan h a aD 0 (by omega) (by omega) #[]
def nh (w):(Instr.makeChan 232 (.int aD 0)).events Tryz.prog w #[]= #[]:=by obtain⟨_,_,⟨i,a⟩,⟨d,h⟩⟩:=Bd;exact events_makeChan h a aD 0 (by omega) (by omega) #[]
section
variable {Sh:zP}{B B0:Nat}{Stop:zU}{w:zW}{cs:zL}
noncomputable def ZP:Code:=match f240.body with|some c=>c|none=> .skip
def Le (o:∀b,Sh b->b<B0\/b=B0+5\/b=B0+1\/b=B0+3)(l:w.heap.size=B0)(s:B0+6<=B)(pa)(N cp)(f)(first cap)
  (r:∀w₁,Go.Conc.AtRel w w₁->Stop (G ((base 240).at ⟨#[.slice pa N cp,.func (.func f) first cap,aEn,.pointer (aA ⟨B0,0,aB⟩),.slice aB 0 0,.pointer (aA ⟨B0+2,0,aB⟩),.pointer (aA ⟨B0+4,0,aB⟩),.pointer (aA ⟨B0+5,0,aB⟩),aEn,aEn,aEn,aEn,.chan (aA (B0+1)),.chan (aA (B0+1)),.chan (aA (B0+3)),.slice pa N cp,.int aD N,.int aD 0,aEn,aEn,aEn,aEn,aEn,aEn,aEn,aEn,aEn,aEn,aEn,aEn,aEn,aEn,aEn,aEn,aEn,aEn,aEn,aEn,aEn,aEn,aEn,aEn,aEn],[kZ 295 (B0+1)]⟩ [.code L0,.inLoop L0,.inBlock 0,.code K0]) cs) (ext w₁ #[aJ #[.func (.func f) first cap] 284 (0,0),.chan 0 #[] aG 0 0 aG,aJ #[.chan (aA (B0+1))] 295 (0,0),.chan 0 #[] aG 0 0 aG,aJ #[.chan (aA (B0+3))] 232 (0,0),aJ #[.int aR 0,.int aP 0] 240 (0,0)])):
  ∃n,eX Tryz.prog Sh B Stop n (G ((base 240).at ⟨#[.slice pa N cp,.func (.func f) first cap,aEn,aEn,aEn,aEn,aEn,aEn,aEn,aEn,aEn,aEn,aEn,aEn,aEn,aEn,aEn,aEn,aEn,aEn,aEn,aEn,aEn,aEn,aEn,aEn,aEn,aEn,aEn,aEn,aEn,aEn,aEn,aEn,aEn,aEn,aEn,aEn,aEn,aEn,aEn,aEn,aEn],[]⟩ [.code ZP]) cs) (ext w #[]):=by
 refine⟨100,?_⟩;simp only[ZP,f240];refine aY rfl (λ_=>zGm) ?_;refine aY rfl (λ_=>zGq) ?_;simp only[zAp,zAf,zAl,Nat.reduceAdd,zBd,List.range,List.range.loop];refine iB (.pointer (aA ⟨B0,0,aB⟩)) #[aJ #[.func (.func f) first cap] 284 (0,0)] l rfl rfl (by simp[base]) (λw a=>⟨?_,λe h=> ?_⟩) ?_
 .have q:(ext w #[]).heap.size=B0:=by{rw[lV,a];rfl};have k:=nB (w:=w) (os:= #[]) (aJ #[.func (.func f) first cap] 284 (0,0));simp only[zEa,zBx,zCk]at k;go_simp
 .simp[go_sem]at h
 walk_nrm;refine iB (.slice aB 0 0) #[aJ #[.func (.func f) first cap] 284 (0,0)] l rfl rfl (by simp[base]) (λw a=>⟨?_,λe h=> ?_⟩) ?_
 .go_simp
 .simp[go_sem]at h
 walk_nrm;refine aY rfl (λ_=>zGl) ?_;refine aY rfl (λ_=>zGm) ?_;refine aY rfl (λ_=>zGq) ?_;simp only[zAp,zAf,zAl,Nat.reduceAdd,zBd,List.range,List.range.loop];refine iB (.chan (aA (B0+1))) #[aJ #[.func (.func f) first cap] 284 (0,0),.chan 0 #[] aG 0 0 aG] l rfl rfl (by simp[base]) (λw a=>⟨?_,λe h=> ?_⟩) ?_
 .have q:(ext w #[aJ #[.func (.func f) first cap] 284 (0,0)]).heap.size=B0+1:=by{rw[lV,a];rfl};have k:=nB (w:=w) (os:= #[aJ #[.func (.func f) first cap] 284 (0,0)]) (.chan 0 #[] aG 0 0 aG);simp only[zEa,zBx,zCk]at k;have p:=mkr (ext w #[aJ #[.func (.func f) first cap] 284 (0,0)]);go_simp
 .have p:=ng (ext w #[aJ #[.func (.func f) first cap] 284 (0,0)]);simp[go_sem,p]at h
 walk_nrm;refine iB (B0:=B0) (.pointer (aA ⟨B0+2,0,aB⟩)) #[aJ #[.func (.func f) first cap] 284 (0,0),.chan 0 #[] aG 0 0 aG,aJ #[.chan aB] 295 (0,0)] l rfl rfl (by simp[base]) (λw a=>⟨?_,λe h=> ?_⟩) ?_
 .have q:(ext w #[aJ #[.func (.func f) first cap] 284 (0,0),.chan 0 #[] aG 0 0 aG]).heap.size=B0+2:=by{rw[lV,a];rfl};have k:=nB (w:=w) (os:= #[aJ #[.func (.func f) first cap] 284 (0,0),.chan 0 #[] aG 0 0 aG]) (aJ #[.chan aB] 295 (0,0));simp only[zEa,zBx,zCk]at k;go_simp
 .simp[go_sem]at h
 walk_nrm;refine KZ (B0:=B0) #[aJ #[.func (.func f) first cap] 284 (0,0),.chan 0 #[] aG 0 0 aG,aJ #[.chan (aA (B0+1))] 295 (0,0)] l rfl rfl (by simp[base]) (λw a=>⟨?_,λe h=> ?_⟩) ?_
 .have g:=ext_get (os:= #[aJ #[.func (.func f) first cap] 284 (0,0),.chan 0 #[] aG 0 0 aG,aJ #[.chan aB] 295 (0,0)]) (i:=2) a;have m:=bC (show(ext w #[aJ #[.func (.func f) first cap] 284 (0,0),.chan 0 #[] aG 0 0 aG,aJ #[.chan aB] 295 (0,0)]).heap[B0+2]? =aA (aJ #[.chan aB] 295 (0,0))from g) 0;have k1:=cR (show(ext w #[aJ #[.func (.func f) first cap] 284 (0,0),.chan 0 #[] aG 0 0 aG,aJ #[.chan aB] 295 (0,0)]).heap[B0+2]? =aA (aJ #[.chan aB] 295 (0,0))from g) 0;have k:=Bs (w:=w) (os:= #[aJ #[.func (.func f) first cap] 284 (0,0),.chan 0 #[] aG 0 0 aG,aJ #[.chan aB] 295 (0,0)]) (i:=2) a (c:= #[.chan aB]) rfl (.chan (aA (B0+1)));simp only[zBr,zDg,zCy]at k;go_simp
 .have g:=ext_get (os:= #[aJ #[.func (.func f) first cap] 284 (0,0),.chan 0 #[] aG 0 0 aG,aJ #[.chan aB] 295 (0,0)]) (i:=2) a;have m:=bC (show(ext w #[aJ #[.func (.func f) first cap] 284 (0,0),.chan 0 #[] aG 0 0 aG,aJ #[.chan aB] 295 (0,0)]).heap[B0+2]? =aA (aJ #[.chan aB] 295 (0,0))from g) 0;have k1:=cR (show(ext w #[aJ #[.func (.func f) first cap] 284 (0,0),.chan 0 #[] aG 0 0 aG,aJ #[.chan aB] 295 (0,0)]).heap[B0+2]? =aA (aJ #[.chan aB] 295 (0,0))from g) 0;simp[go_sem,m,k1]at h;subst h;exact gN (λx=>by have:=o _ x;dsimp only at this;omega) (show B0+2<B by omega)
 walk_nrm;refine aY rfl (λ_=>zGl) ?_;refine aY rfl (λ_=>zGm) ?_;refine aY rfl (λ_=>zGq) ?_;simp only[zAp,zAf,zAl,Nat.reduceAdd,zBd,List.range,List.range.loop];refine iB (B0:=B0) (.chan (aA (B0+1))) #[aJ #[.func (.func f) first cap] 284 (0,0),.chan 0 #[] aG 0 0 aG,aJ #[.chan (aA (B0+1))] 295 (0,0)] l rfl rfl (by simp[base]) (λw a=>⟨?_,λe h=> ?_⟩) ?_
 .have g:=ext_get (os:= #[aJ #[.func (.func f) first cap] 284 (0,0),.chan 0 #[] aG 0 0 aG,aJ #[.chan (aA (B0+1))] 295 (0,0)]) (i:=2) a;have m:=bC (show(ext w #[aJ #[.func (.func f) first cap] 284 (0,0),.chan 0 #[] aG 0 0 aG,aJ #[.chan (aA (B0+1))] 295 (0,0)]).heap[B0+2]? =aA (aJ #[.chan (aA (B0+1))] 295 (0,0))from g) 0;go_simp
 .have g:=ext_get (os:= #[aJ #[.func (.func f) first cap] 284 (0,0),.chan 0 #[] aG 0 0 aG,aJ #[.chan (aA (B0+1))] 295 (0,0)]) (i:=2) a;have m:=bC (show(ext w #[aJ #[.func (.func f) first cap] 284 (0,0),.chan 0 #[] aG 0 0 aG,aJ #[.chan (aA (B0+1))] 295 (0,0)]).heap[B0+2]? =aA (aJ #[.chan (aA (B0+1))] 295 (0,0))from g) 0;simp[go_sem,m]at h;subst h;exact gN (λx=>by have:=o _ x;dsimp only at this;omega) (show B0+2<B by omega)
 walk_nrm;refine aY rfl (λ_=>rI (P:=Tryz.prog) (j:=13) (t:=295) (c:=B0+1) aF rfl rfl (by simp[base]) rfl rfl rfl) ?_;walk_nrm;refine aY rfl (λ_=>zGl) ?_;refine aY rfl (λ_=>zGm) ?_;refine aY rfl (λ_=>zGq) ?_;simp only[zAp,zAf,zAl,Nat.reduceAdd,zBd,List.range,List.range.loop];refine iB (B0:=B0) (.chan (aA (B0+3))) #[aJ #[.func (.func f) first cap] 284 (0,0),.chan 0 #[] aG 0 0 aG,aJ #[.chan (aA (B0+1))] 295 (0,0),.chan 0 #[] aG 0 0 aG] l rfl rfl (by simp[base]) (λw a=>⟨?_,λe h=> ?_⟩) ?_
 .have q:(ext w #[aJ #[.func (.func f) first cap] 284 (0,0),.chan 0 #[] aG 0 0 aG,aJ #[.chan (aA (B0+1))] 295 (0,0)]).heap.size=B0+3:=by{rw[lV,a];rfl};have k:=nB (w:=w) (os:= #[aJ #[.func (.func f) first cap] 284 (0,0),.chan 0 #[] aG 0 0 aG,aJ #[.chan (aA (B0+1))] 295 (0,0)]) (.chan 0 #[] aG 0 0 aG);simp only[zEa,zBx,zCk]at k;have p:=mkd (ext w #[aJ #[.func (.func f) first cap] 284 (0,0),.chan 0 #[] aG 0 0 aG,aJ #[.chan (aA (B0+1))] 295 (0,0)]);go_simp
 .have p:=nh (ext w #[aJ #[.func (.func f) first cap] 284 (0,0),.chan 0 #[] aG 0 0 aG,aJ #[.chan (aA (B0+1))] 295 (0,0)]);simp[go_sem,p]at h
 walk_nrm;refine iB (B0:=B0) (.pointer (aA ⟨B0+4,0,aB⟩)) #[aJ #[.func (.func f) first cap] 284 (0,0),.chan 0 #[] aG 0 0 aG,aJ #[.chan (aA (B0+1))] 295 (0,0),.chan 0 #[] aG 0 0 aG,aJ #[.chan aB] 232 (0,0)] l rfl rfl (by simp[base]) (λw a=>⟨?_,λe h=> ?_⟩) ?_
 .have q:(ext w #[aJ #[.func (.func f) first cap] 284 (0,0),.chan 0 #[] aG 0 0 aG,aJ #[.chan (aA (B0+1))] 295 (0,0),.chan 0 #[] aG 0 0 aG]).heap.size=B0+4:=by{rw[lV,a];rfl};have k:=nB (w:=w) (os:= #[aJ #[.func (.func f) first cap] 284 (0,0),.chan 0 #[] aG 0 0 aG,aJ #[.chan (aA (B0+1))] 295 (0,0),.chan 0 #[] aG 0 0 aG]) (aJ #[.chan aB] 232 (0,0));simp only[zEa,zBx,zCk]at k;go_simp
 .simp[go_sem]at h
 walk_nrm;refine KZ (B0:=B0) #[aJ #[.func (.func f) first cap] 284 (0,0),.chan 0 #[] aG 0 0 aG,aJ #[.chan (aA (B0+1))] 295 (0,0),.chan 0 #[] aG 0 0 aG,aJ #[.chan (aA (B0+3))] 232 (0,0)] l rfl rfl (by simp[base]) (λw a=>⟨?_,λe h=> ?_⟩) ?_
 .have g:=ext_get (os:= #[aJ #[.func (.func f) first cap] 284 (0,0),.chan 0 #[] aG 0 0 aG,aJ #[.chan (aA (B0+1))] 295 (0,0),.chan 0 #[] aG 0 0 aG,aJ #[.chan aB] 232 (0,0)]) (i:=4) a;have m:=bC (show(ext w #[aJ #[.func (.func f) first cap] 284 (0,0),.chan 0 #[] aG 0 0 aG,aJ #[.chan (aA (B0+1))] 295 (0,0),.chan 0 #[] aG 0 0 aG,aJ #[.chan aB] 232 (0,0)]).heap[B0+4]? =aA (aJ #[.chan aB] 232 (0,0))from g) 0;have k1:=cR (show(ext w #[aJ #[.func (.func f) first cap] 284 (0,0),.chan 0 #[] aG 0 0 aG,aJ #[.chan (aA (B0+1))] 295 (0,0),.chan 0 #[] aG 0 0 aG,aJ #[.chan aB] 232 (0,0)]).heap[B0+4]? =aA (aJ #[.chan aB] 232 (0,0))from g) 0;have k:=Bs (w:=w) (os:= #[aJ #[.func (.func f) first cap] 284 (0,0),.chan 0 #[] aG 0 0 aG,aJ #[.chan (aA (B0+1))] 295 (0,0),.chan 0 #[] aG 0 0 aG,aJ #[.chan aB] 232 (0,0)]) (i:=4) a (c:= #[.chan aB]) rfl (.chan (aA (B0+3)));simp only[zBr,zDg,zCy]at k;go_simp
 .have g:=ext_get (os:= #[aJ #[.func (.func f) first cap] 284 (0,0),.chan 0 #[] aG 0 0 aG,aJ #[.chan (aA (B0+1))] 295 (0,0),.chan 0 #[] aG 0 0 aG,aJ #[.chan aB] 232 (0,0)]) (i:=4) a;have m:=bC (show(ext w #[aJ #[.func (.func f) first cap] 284 (0,0),.chan 0 #[] aG 0 0 aG,aJ #[.chan (aA (B0+1))] 295 (0,0),.chan 0 #[] aG 0 0 aG,aJ #[.chan aB] 232 (0,0)]).heap[B0+4]? =aA (aJ #[.chan aB] 232 (0,0))from g) 0;have k1:=cR (show(ext w #[aJ #[.func (.func f) first cap] 284 (0,0),.chan 0 #[] aG 0 0 aG,aJ #[.chan (aA (B0+1))] 295 (0,0),.chan 0 #[] aG 0 0 aG,aJ #[.chan aB] 232 (0,0)]).heap[B0+4]? =aA (aJ #[.chan aB] 232 (0,0))from g) 0;simp[go_sem,m,k1]at h;subst h;exact gN (λx=>by have:=o _ x;dsimp only at this;omega) (show B0+4<B by omega)
 walk_nrm;refine aY rfl (λ_=>zGl) ?_;refine aY rfl (λ_=>zGm) ?_;refine aY rfl (λ_=>zGq) ?_;simp only[zAp,zAf,zAl,Nat.reduceAdd,zBd,List.range,List.range.loop];refine iB (B0:=B0) (.pointer (aA ⟨B0+5,0,aB⟩)) #[aJ #[.func (.func f) first cap] 284 (0,0),.chan 0 #[] aG 0 0 aG,aJ #[.chan (aA (B0+1))] 295 (0,0),.chan 0 #[] aG 0 0 aG,aJ #[.chan (aA (B0+3))] 232 (0,0),aJ #[.int aR 0,.int aP 0] 240 (0,0)] l rfl rfl (by simp[base]) (λw a=>⟨?_,λe h=> ?_⟩) ?_
 .have q:(ext w #[aJ #[.func (.func f) first cap] 284 (0,0),.chan 0 #[] aG 0 0 aG,aJ #[.chan (aA (B0+1))] 295 (0,0),.chan 0 #[] aG 0 0 aG,aJ #[.chan (aA (B0+3))] 232 (0,0)]).heap.size=B0+5:=by{rw[lV,a];rfl};have k:=nB (w:=w) (os:= #[aJ #[.func (.func f) first cap] 284 (0,0),.chan 0 #[] aG 0 0 aG,aJ #[.chan (aA (B0+1))] 295 (0,0),.chan 0 #[] aG 0 0 aG,aJ #[.chan (aA (B0+3))] 232 (0,0)]) (aJ #[.int aR 0,.int aP 0] 240 (0,0));simp only[zEa,zBx,zCk]at k;go_simp
 .simp[go_sem]at h
 walk_nrm;refine aY rfl (λ_=>zGl) ?_;iterate 2 (refine aY rfl (λ_=>zGm) ?_)
 refine aY rfl (λ_=>zGq) ?_;simp only[zAp,zAf,zAl,Nat.reduceAdd,zBd,List.range,List.range.loop];refine iB (B0:=B0) (.slice pa N cp) #[aJ #[.func (.func f) first cap] 284 (0,0),.chan 0 #[] aG 0 0 aG,aJ #[.chan (aA (B0+1))] 295 (0,0),.chan 0 #[] aG 0 0 aG,aJ #[.chan (aA (B0+3))] 232 (0,0),aJ #[.int aR 0,.int aP 0] 240 (0,0)] l rfl rfl (by simp[base]) (λw a=>⟨?_,λe h=> ?_⟩) ?_
 .go_simp
 .simp[go_sem]at h
 walk_nrm;refine iB (B0:=B0) (.int aD N) #[aJ #[.func (.func f) first cap] 284 (0,0),.chan 0 #[] aG 0 0 aG,aJ #[.chan (aA (B0+1))] 295 (0,0),.chan 0 #[] aG 0 0 aG,aJ #[.chan (aA (B0+3))] 232 (0,0),aJ #[.int aR 0,.int aP 0] 240 (0,0)] l rfl rfl (by simp[base]) (λw a=>⟨?_,λe h=> ?_⟩) ?_
 .go_simp
 .simp[go_sem]at h
 walk_nrm;refine iB (B0:=B0) (.int aD 0) #[aJ #[.func (.func f) first cap] 284 (0,0),.chan 0 #[] aG 0 0 aG,aJ #[.chan (aA (B0+1))] 295 (0,0),.chan 0 #[] aG 0 0 aG,aJ #[.chan (aA (B0+3))] 232 (0,0),aJ #[.int aR 0,.int aP 0] 240 (0,0)] l rfl rfl (by simp[base]) (λw a=>⟨?_,λe h=> ?_⟩) ?_
 .go_simp
 .simp[go_sem]at h
 walk_nrm;refine aY rfl (λ_=>zGl) ?_;refine aY rfl (λ_=>zHb) ?_;refine aY rfl (λ_=>stepG_loop) ?_;refine Go.Conc.Goes.stop λw₁ ⟨d,e⟩=> ?_;subst e;exact r (w.at d) ⟨d,rfl⟩
end
section
variable {P:zZ}{Sh:zP}{B n:Nat}{Stop:zU}{w:zW}
def mY {b:zC}{a:Act}{k:zI}{cs:zL}{ops:zQ}{i:Nat}{rest:List Nat}{o:Oper}(v:zY)(d:ops[i]? =aA o)(h:Region.wanted o (yielded ops a.tmps)=aF)(f:b.kind≠.early)
  (c:∀w,(aEd a.eval o).run P w= .ok (.value v) w) (g:∀w,(aEd a.eval o).events P w #[]= #[]) (e:eX P Sh B Stop n (G (b.at (a.put o.dst v) (aN ops rest::k)) cs) w):
  eX P Sh B Stop (n+1) (G (b.at a (aN ops (i::rest)::k)) cs) w:=
 aY rfl (λw=>by rw[stepG_value d h f (c w),listed_none (g w)]) e
def Gv {c}(h:c<B):∀e∈closeEvents c,EvC Sh B e:=by
 intro e d;simp only[closeEvents,zAs,zAg,zAr,zCd]at d;obtain rfl|rfl:=d
 .have b:MemAct.ofEvent ⟨.obj c,aG,aF⟩= .access ⟨.obj c,aG,aF⟩:=rfl;refine⟨λx a _=> ?_,by simp,by simp,by rw[b];exact h⟩;rw[b]at a;simp only[MemAct.touch?,aEx]at a;subst a;simp
 .have b:MemAct.ofEvent ⟨.obj c,aF,aF⟩= .close c:=rfl;refine⟨λx a _=> ?_,by simp,by simp,by rw[b];exact h⟩;rw[b]at a;simp[MemAct.touch?]at a
def Jr {T:Gt}{c cs rs ws g}(l:T.cs=c::cs)(j:T.ds=[kZ 295 T.Cr])(h:T.F rs ws g w){k tm}(hc:w.heap[T.Cr]? =aA (.chan 0 #[] aG k k tm))(hB:T.Cr<B)
  (Z:∀b a d,T.Ok rs ws b a (λi=>i<T.N) w->Stop (G (c.finish (.slice (aA ⟨b,0,aB⟩) T.N T.N)) cs) ((w.setChan T.Cr 0 #[] aF k k tm).at d)):∃n,eX Tryz.prog Sh B Stop n g w:=by
 obtain⟨b,a,y0,y1,y2,y3,y4,y7,y8,y9,Y,X,W,V,U,S,R,Q,O,M,L,K,J,I,H,E,D,C,A,z,x,u,t,s,r,q,p,o,m,y,rfl,ok⟩:=h;rw[l,j];refine⟨40,?_⟩;simp only[kP,pS,C4,L2,f240];refine mY (.int aD 1) rfl rfl (by simp[base]) (λw=>by go_simp) (λw=>by simp[go_sem]) ?_;walk_nrm;refine mY (.bool aG) rfl rfl (by simp[base]) (λw=>by go_simp) (λw=>by simp[go_sem]) ?_;walk_nrm;refine mY (.bool aF) rfl rfl (by simp[base]) (λw=>by go_simp) (λw=>by simp[go_sem]) ?_;walk_nrm;refine aY rfl (λ_=>zGl) ?_;refine aY rfl (λ_=>zHb) ?_;refine aY rfl (λ_=>stepG_cond rfl) ?_;simp only[zBe,zDe];refine aY rfl (λ_=>stepG_cond rfl) ?_;simp only[zCs];refine aY rfl (λ_=>zGm) ?_;refine aY rfl (λ_=>zGq) ?_;simp only[zAp,zAf,zAl,Nat.reduceAdd,zBd,List.range,List.range.loop];refine mY (.slice (aA ⟨b,0,aB⟩) T.N T.N) rfl rfl (by simp[base]) (λw=>by go_simp) (λw=>by simp[go_sem]) ?_;walk_nrm;refine mY (.slice (aA ⟨b,0,aB⟩) T.N T.N) rfl rfl (by simp[base]) (λw=>by go_simp) (λw=>by simp[go_sem]) ?_;walk_nrm;refine aY rfl (λ_=>zGl) ?_;refine aY rfl (λ_=>zGy) ?_;refine aI ⟨rfl,λf ⟨d,e⟩=> ?_⟩;subst e;rw[step_shut aF rfl (show(w.at d).heap[T.Cr]? =_ from hc) (by kernel_rfl),goes_go];refine⟨Gv hB,?_⟩;rw[show(w.at d).setChan T.Cr 0 #[] aF k k tm=(w.setChan T.Cr 0 #[] aF k k tm).at d from rfl];refine aY rfl (λw=>stepG_leave (v:= .slice (aA ⟨b,0,aB⟩) T.N T.N) rfl rfl func240 ?_ ?_) ?_
 .simp[results,f240,go_sem]
 .simp[results,f240,go_sem]
 refine Go.Conc.Goes.stop λf ⟨d',e⟩=> ?_;subst e;exact Z b a d' ok
end
open Go.ConcR (KK WgAt stA smA DC0 wgBlock)
open Go.ConcN (WgLive)
abbrev SG (B0:Nat)(fv:zY):zJ:= #[aJ #[fv] 284 (0,0),.chan 0 #[] aG 0 0 aG,aJ #[.chan (aA (B0+1))] 295 (0,0),.chan 0 #[] aG 0 0 aG,aJ #[.chan (aA (B0+3))] 232 (0,0),aJ #[.int aR 0,.int aP 0] 240 (0,0)]
def Works.mono {J rs w f args A B}(h:Works J rs w f args A)(b:∀q l cp ws w,A q l cp ws w->B q l cp ws w):Works J rs w f args B:=λc cs ws d=>by obtain⟨tr,x⟩:=h c cs ws d;exact⟨tr,x.mono λr a g w ⟨y,q,l,cp,es,z,u⟩=>⟨y,q,l,cp,es,b q l cp a w z,u⟩⟩
structure Gc where
 w:zW
 Sh:zP
 N:Nat
 bp:Nat
 o:Nat
 cp:Nat
 f:zN
 first:zA
 cap:zA
 pt:Nat->zO
 Rw:Nat->zO->Nat->Nat->(zP)->zW->Prop
 rwr:∀{i q l cp h w w₁},Rw i q l cp h w->(∀b,h b->w₁.heap[b]? =w.heap[b]?)->Rw i q l cp h w₁
 m0:Nat
 c:zC
 cs:zL
 pa:zO
abbrev Gc.fv (X:Gc):zY:= .func (.func X.f) X.first X.cap
abbrev Gc.B0 (X:Gc):Nat:=X.w.heap.size
def Gc.old (X:Gc)(b:Nat):Prop:=b<X.B0/\¬X.Sh b
structure Gc.K (X:Gc)(w':zW):Prop where
 heap:∀b,X.old b->w'.heap[b]? =X.w.heap[b]?
 size:X.B0+6<=w'.heap.size
 tape:w'.tape=X.w.tape
 os:w'.os=X.w.os
 output:w'.output=X.w.output
def Gc.T (X:Gc):Ft:=⟨X.N,X.bp,X.o,X.cp,X.B0,X.B0+2,X.B0+4,X.fv,X.pt,X.K,X.old,X.B0+6,X.pa⟩
def Gc.gt (X:Gc):Gt:=⟨X.N,X.B0+2,X.B0+4,X.B0+1,X.B0+3,[kZ 295 (X.B0+1)],X.c::X.cs,X.Rw,X.rwr,X.K,X.old,X.B0+6⟩
def Gc.Xa (X:Gc)(i:Nat)(v:zY)(ws:zP)(w:zW):Prop:=∃(q:zO)(l cp:Nat)(h:zP),v= .agg #[.int aD i,.slice q l cp]/\(∀b,h b->ws b/\X.B0+6<=b)/\X.Rw i q l cp h w
def Gc.Ee (X:Gc){i v rs ws w w₁}(h:X.Xa i v ws w)(r:cA rs ws w w₁):X.Xa i v ws w₁:=by obtain⟨q,l,cp,h,e,a,c⟩:=h;exact⟨q,l,cp,h,e,a,X.rwr c λb d=>r.cM b (aI (a b d).1)⟩
noncomputable def Gc.S (X:Gc):Sp:=⟨Tryz.prog,Tryz.link.tWg,X.B0+5,X.B0+1,X.B0+3,X.N,X.m0,X.Xa,X.Ee,X.gt.M,X.gt.F,Cs (X.B0+4) (X.B0+5) (X.B0+3),X.Sh⟩
def Gc.rs (X:Gc)(b:Nat):Prop:=b=X.B0\/b=X.B0+2\/b=X.B0+4\/X.old b
def Gc.VK (X:Gc)(b:Nat):Prop:=X.Sh b\/b=X.B0+5\/b=X.B0+1\/b=X.B0+3
section
variable {X:Gc}
def Gc.steady:X.T.mB:=λw i h g f e d c=>⟨λb a=>(g b a).trans (h.heap b a),zBb h.size f,e.trans h.tape,d.trans h.os,c.trans h.output⟩
def Gc.NW:(c:X.N<2147483647)->X.S.Good:=λc=>⟨λg w _ h=>Hz X.S (b6:=X.B0+4) rfl rfl rfl g w h,λR rs a g w _ h=>Kc X.S X.gt rfl rfl rfl rfl (show X.N<9223372036854775808 by omega) (λ_ _ _ _ x=>x) rfl rfl (λw b k j i f e d=>Gc.steady w b k j i f e d) R rs a g w h,by show X.B0+1≠X.B0+3/\X.B0+5≠X.B0+1/\X.B0+5≠X.B0+3;omega⟩
def Gc.ok (m:∀b,X.Sh b->b<X.B0)(j:∀i,i<X.N->X.w.cell? ⟨X.bp,X.o+i,aB⟩=aA (.pointer (X.pt i)))(f:0<X.N->X.old X.bp)
  {w₁} (l:Go.Conc.AtRel X.w w₁):X.T.Ok X.S X.rs (λ_=>False) 0 (ext w₁ (SG X.B0 X.fv)):=by
 obtain⟨d,rfl⟩:=l;have g:(X.w.at d).heap.size=X.B0:=rfl;have c:(ext (X.w.at d) (SG X.B0 X.fv)).heap.size=X.B0+6:=by rw[lV];rfl
 have hold:∀b,X.old b->(ext (X.w.at d) (SG X.B0 X.fv)).heap[b]? =X.w.heap[b]? :=λb a=>Ts a.1;have e:∀b k,X.old b->(ext (X.w.at d) (SG X.B0 X.fv)).cell? ⟨b,k,aB⟩=X.w.cell? ⟨b,k,aB⟩:=λb k a=>by simp only[World.cell?];rw[hold b a]
 have g0:=ext_get (os:=SG X.B0 X.fv) (i:=0) g;have n:=ext_get (os:=SG X.B0 X.fv) (i:=2) g;have g4:=ext_get (os:=SG X.B0 X.fv) (i:=4) g;have g5:=ext_get (w:=X.w.at d) (os:=SG X.B0 X.fv) (i:=5) g;refine⟨λb a=>⟨λx=>x,?_⟩,λb a=> ?_,aH rfl,aI (aH rfl),aI (aI (aH rfl)),λh=>aI (aI (aI (f h))),(bC (show(ext (X.w.at d) (SG X.B0 X.fv)).heap[X.B0]? =aA (aJ #[X.fv] 284 (0,0))from g0) 0).trans rfl,
  (bC (show(ext (X.w.at d) (SG X.B0 X.fv)).heap[X.B0+2]? =aA (aJ #[.chan (aA (X.B0+1))] 295 (0,0))from n) 0).trans rfl,(bC (show(ext (X.w.at d) (SG X.B0 X.fv)).heap[X.B0+4]? =aA (aJ #[.chan (aA (X.B0+3))] 232 (0,0))from g4) 0).trans rfl,
  λi hi=>(e _ _ (f (by have:i<X.N:=hi;omega))).trans (j i hi),?_,λb a=>aI (aI (aI a)),⟨hold,by rw[c];exact zAb _,rfl,rfl,rfl⟩,by rw[c];exact zAb _⟩
 .rw[c];obtain x|x|x|x:=a
  .omega
  .omega
  .omega
  .have:=x.1;omega
 .show b≠X.B0+5;obtain(x|x|x|x)|x:=a
  .omega
  .omega
  .omega
  .have:=x.1;omega
  .exact x.elim
 .show(ext (X.w.at d) (SG X.B0 X.fv)).heap[X.B0+5]? =aA (wgBlock _ _ _);rw[g5];simp[wgBlock];rfl
def Gc.yK (h:∀b,X.Sh b->b<X.B0):∀b,X.VK b->b<X.B0\/b=X.B0+5\/b=X.B0+1\/b=X.B0+3:=λb a=>a.imp (h b) id
def Gc.Kk (a:∀b,X.Sh b->b<X.B0){b}(h:X.rs b):¬X.VK b:=by
 intro x;obtain h|h|h|h:=h
 .have:=Gc.yK a b x;omega
 .have:=Gc.yK a b x;omega
 .have:=Gc.yK a b x;omega
 .obtain x|x:=x
  .exact h.2 x
  .have:=h.1;omega
def Calm.more {Sh VK:zP}{B:Nat}{t:Trace}(h:Calm Sh B t)(m:∀b,Sh b->VK b)(l:∀b,VK b->Sh b\/B<=b):Calm VK B t:=
 ⟨⟨h.past.clean,λi a hi j=>(h.past.known i a hi j).imp id λ⟨⟨b,e,f⟩,k⟩=>⟨⟨b,e,m b f⟩,k⟩,h.past.over,h.past.hears,h.past.seen⟩,λb f i a hi g=>by
  obtain x|x:=l b f;{exact h.Wy b x i a hi g}
  .obtain⟨op,d,c⟩:=touch_of hi;have:=Bg (h.past.seen op (zBj d)) c g;omega⟩
def Gc.ti (f:∀b,X.Sh b->b<X.B0){B t}(g:Calm X.VK B t){Live}:TI t (X.S.pm (λj b=>j=0/\X.rs b) (λ_ _=>False) 0) Live:=by
 have d:=TI.Si g.past (λl h=>h) g.Wy (λl b m k=>⟨b,m,k⟩);refine⟨d.clean,λ{j b} c i a hi hb _=>d.rw ⟨c.1,Gc.Kk f c.2⟩ i a hi hb,λ{j b} c=>c.elim,λ{j b} c i a hi hb hk=> ?_,λ{b} hb=>d.Yx hb,λi a hi e=> ?_⟩
 .have e:a.loc.isMemory=aF:=by{cases hl:a.loc<;>rw[hl]at hb<;>simp_all [blk,Loc.isMemory]};rw[c.2];obtain x|⟨_,x⟩:=g.past.known i a hi e;{exact x};{exact absurd x hk}
 .obtain x|⟨_,_,x⟩|x:=d.known i a hi e
  .exact aH x
  .exact x.elim
  .exact aI (aI x)
def Gc.inv (d:∀b,X.Sh b->b<X.B0)(z:X.N<2147483647){w₁}(c:X.T.Ok X.S X.rs (λ_=>False) 0 w₁)(f:w₁.heap[X.B0+1]? =aA (.chan 0 #[] aG 0 0 aG))(e:w₁.heap[X.B0+3]? =aA (.chan 0 #[] aG 0 0 aG))
  {t} (l:Calm X.VK w₁.heap.size t) {gs q} (o:Leavers Tryz.prog t gs q) (s:gs.size=X.m0) {g} (n:gs[0]? =aA g) {tr} (v:X.S.dK (X.S.Fk X.N) tr 0 X.rs (λ_=>False) g w₁):
  X.S.tE X.N (λj=>if j=0 then(0,tr)else(0,.nat (q j))) gs w₁ t (λj b=>j=0/\X.rs b) (λ_ _=>False):=by
 have m:=(zAa.1 n).1;have r:X.B0+6<=w₁.heap.size:=c.low;have A:(λb=>(0:Nat)=0/\X.rs b)=X.rs:=funext λb=>propext ⟨λx=>x.2,λx=>⟨rfl,x⟩⟩;refine⟨by show 0<X.m0;omega,z,zAb _,by show gs.size=X.m0+(X.N-X.N);omega,⟨λ{j b} h=> ?_,λh=>h.elim,λh=>h.elim,λ{j b} h=> ?_,λ{b} h=> ?_,c.live,Gc.ti d l,l.past.seen,λj u=>o.above j ?_⟩,⟨_,_,f⟩,⟨_,_,_,e⟩,⟨g,n,?_⟩,rfl,λa y k w p=>⟨q a,by simp[show a≠0 by omega],o.old a y k p⟩,λi y hi=>absurd hi ?_⟩
 .obtain h|h:=h
  .exact(c.zM b h.2).2
  .exact h.elim
 .obtain h|h:=h
  .exact Gc.Kk d h.2
  .exact h.elim
 .obtain x|x|x|x:=Gc.yK d b h<;>omega
 .have:X.m0+(X.N-X.N)<=j:=u;omega
 .rw[l.past.hears,A];exact v
 .show¬i<X.N-X.N;omega
def Nr (p v):Frame.enter Tryz.prog 240 #[p,v] .normal=(base 240).at ⟨#[p,v,aEn,aEn,aEn,aEn,aEn,aEn,aEn,aEn,aEn,aEn,aEn,aEn,aEn,aEn,aEn,aEn,aEn,aEn,aEn,aEn,aEn,aEn,aEn,aEn,aEn,aEn,aEn,aEn,aEn,aEn,aEn,aEn,aEn,aEn,aEn,aEn,aEn,aEn,aEn,aEn,aEn],[]⟩ [.code ZP]:=by
 rw[enter_at (c:=ZP) #[p,v] func240 rfl];have e:(#[p,v]:zA)++aD5 (f240.ntmps-2) aEn= #[p,v,aEn,aEn,aEn,aEn,aEn,aEn,aEn,aEn,aEn,aEn,aEn,aEn,aEn,aEn,aEn,aEn,aEn,aEn,aEn,aEn,aEn,aEn,aEn,aEn,aEn,aEn,aEn,aEn,aEn,aEn,aEn,aEn,aEn,aEn,aEn,aEn,aEn,aEn,aEn,aEn,aEn]:=by simp[f240,zEo]
 simp only[zAp,zAf,zAl,Nat.reduceAdd,zBd];rw[e]
def TU (hN:X.N<2147483647)(s:∀b,X.Sh b->b<X.B0)(Z:∀i,i<X.N->X.w.cell? ⟨X.bp,X.o+i,aB⟩=aA (.pointer (X.pt i)))(fw:0<X.N->X.old X.bp)(Is:0<X.N->X.pa=aA ⟨X.bp,X.o,aB⟩)
  {fn} (hf:Tryz.prog.funcs[X.f]? =aA fn) (ki:¬fn.name= "runtime.NumGoroutine") (a:¬fn.body=aB)
  (hW:∀i,i<X.N->∀(J:zW->Prop)(r)(w'),(∀b,X.old b->r b)->(∃b,r b/\X.B0+6<=b)->(∀b,X.old b->w'.heap[b]? =X.w.heap[b]?)->Works J r w' X.f (X.first.push (.pointer (X.pt i))++X.cap) λq l cp ws w=>∃h,(∀b,h b->ws b/\X.B0+6<=b)/\X.Rw i q l cp h w)
  {gs sl t q} (kk:gs.size=X.m0) (hg:gs[0]? =aA (G (Frame.enter Tryz.prog 240 #[.slice X.pa X.N X.cp,X.fv] .normal) (X.c::X.cs))) (hL:Leavers Tryz.prog t gs q) (hC:Calm X.Sh X.B0 t):
  ∃(N:Nat)(u:zG)(w':zW)(U:Option (Nat×Nat))(Q:Trace)(q':Nat->Nat)(j:Nat)(v:zA),runNT Tryz.prog N (crowd gs X.w sl) t=(.next (crowd u w' U),Q)/\u[0]? =aA (G (X.c.finish (.slice (aA ⟨j,0,aB⟩) X.N X.N)) X.cs)/\Leavers Tryz.prog Q u q'/\Calm X.VK w'.heap.size Q/\
   X.K w'/\X.B0+6<=j/\j<w'.heap.size/\w'.heap[j]? =aA (aJ v 283 (0,0))/\v.size=X.N/\∀i,i<X.N->∃q l cp h,v[i]? =aA (.slice q l cp)/\(∀b,h b->X.B0+6<=b/\b≠j/\b<w'.heap.size)/\X.Rw i q l cp h w':=by
 have hC0:Calm X.VK (X.B0+6) t:=(hC.more (λb a=>aH a) (λb a=>a.imp id λx=>by omega)).mono (by omega);obtain⟨n,hn⟩:=Le (Stop:=λg w'=>∃e,Go.Conc.AtRel X.w e/\w'=ext e (SG X.B0 X.fv)/\g=Gn X.S X.T [kZ 295 (X.B0+1)] (X.c::X.cs) X.fv aEn (.slice aB 0 0) aEn aEn aEn aEn (.chan (aA (X.B0+1))) (.chan (aA (X.B0+1))) (.chan (aA (X.B0+3))) ((0:Nat):Int) aEn aEn aEn aEn aEn aEn aEn aEn aEn aEn aEn aEn aEn aEn aEn aEn aEn aEn aEn aEn aEn aEn aEn aEn aEn [.code L0,.inLoop L0,.inBlock 0,.code K0]) (Gc.yK s) rfl (zAb _) X.pa X.N X.cp X.f X.first X.cap λe M=>⟨e,M,rfl,rfl⟩;rw[Nr]at hg;have e0:ext X.w #[]=X.w:=by simp[ext]
 rw[e0]at hn;obtain⟨N1,Tn,a1,w1,A,t1,q1,r1,z1,g1,⟨e,M,Y,Tm⟩,hL1,hC1⟩:=tJ n _ _ gs sl t q hn hg hL hC0;subst Y;subst Tm;have D:=Gc.ok s Z fw M;obtain⟨d,rfl⟩:=M;have hB:(X.w.at d).heap.size=X.B0:=rfl;obtain⟨tr,af⟩:=Vi (S:=X.S) (Rw:=X.Rw) (rwr:=X.rwr) Is rfl rfl rfl rfl Gc.steady (show X.N<2147483648 by omega) rfl rfl hf ki a (λi hi r w w' hk h1 h3 h2=>(hW i hi _ r w' h1 h3 λb a=>(h2 b a).trans (hk.heap b a)).mono λq l cp ws w ⟨h,x,y⟩=>⟨q,l,cp,h,rfl,x,y⟩) X.N 0 X.rs (λ_=>False) _ X.fv aEn (.slice aB 0 0) aEn aEn aEn aEn (.chan (aA (X.B0+1))) (.chan (aA (X.B0+1))) (.chan (aA (X.B0+3))) aEn aEn aEn aEn aEn aEn aEn aEn aEn aEn aEn aEn aEn aEn aEn aEn aEn aEn aEn aEn aEn aEn aEn aEn aEn (by show 0+X.N=X.N;omega) D;have C:(ext (X.w.at d) (SG X.B0 X.fv)).heap.size=X.B0+6:=by rw[lV];rfl
 have E:=Gc.inv s hN D (ext_get (w:=X.w.at d) (os:=SG X.B0 X.fv) (i:=1) hB) (ext_get (w:=X.w.at d) (os:=SG X.B0 X.fv) (i:=3) hB) (by rw[C];exact hC1) hL1 (z1.trans kk) g1 af;obtain⟨N2,L,w2,z,t2,r2,I⟩:=E.runs (sl:=A) (Gc.NW hN);obtain⟨g,rs,ws,hg2,hF⟩:=I.main;obtain⟨k,P,F⟩:=I.cr;obtain⟨q2,hL2⟩:=I.Ta;have bT:X.B0+1<w2.heap.size:=(zAa.1 F).1;have hC2:Calm X.VK w2.heap.size t2:=⟨I.past,I.Wy⟩;obtain⟨n3,hn3⟩:=Jr (Sh:=X.VK) (B:=w2.heap.size) (T:=X.gt) (c:=X.c) (cs:=X.cs) (Stop:=λg w'=>∃j v d,X.gt.Ok rs ws j v (λi=>i<X.N) w2/\g=G (X.c.finish (.slice (aA ⟨j,0,aB⟩) X.N X.N)) X.cs/\w'=(w2.setChan (X.B0+1) 0 #[] aF k k P).at d) rfl rfl hF F bT λj v d ok=>⟨j,v,d,ok,rfl,rfl⟩;obtain⟨N3,sr,a3,w3,R,t3,q3,r3,z3,g3,⟨j,v,d3,ok,ha3,W⟩,hL3,hC3⟩:=tJ n3 _ _ L z t2 q2 hn3 hg2 hL2 hC2;subst ha3;subst W;have m:((w2.setChan (X.B0+1) 0 #[] aF k k P).at d3).heap.size=w2.heap.size:=mH _ _ _ _ _ _ _ _;have p:∀b,b≠X.B0+1->((w2.setChan (X.B0+1) 0 #[] aF k k P).at d3).heap[b]? =w2.heap[b]? :=λb a=>mI _ _ _ _ _ _ _ _ a;have xk:X.B0+6<=j:=ok.fresh;have H:X.K w2:=ok.held;refine⟨N1+(N2+N3),sr,_,R,t3,q3,j,v,?_,g3,hL3,by rw[m];exact hC3,⟨λb a=>(p b (by have:=a.1;omega)).trans (H.heap b a),by rw[m];exact H.size,H.tape,H.os,H.output⟩,xk,by rw[m];exact ok.lt,(p j (by omega)).trans ok.out,ok.size,λi hi=> ?_⟩;rotate_left
 .obtain⟨q,l,cp,h,e1,O,hw⟩:=ok.some i hi hi;exact⟨q,l,cp,h,e1,λb a=>⟨(O b a).2.2.2,(O b a).2.1,by rw[m];exact(O b a).2.2.1⟩,X.rwr hw λb a=>p b (by have:X.B0+6<=b:=(O b a).2.2.2;omega)⟩
 rw[runNT_add,r1];simp only;have V:runNT Tryz.prog N2 (crowd Tn (ext (X.w.at d) (SG X.B0 X.fv)) A) t1=(.next (crowd L w2 z),t2):=r2;rw[runNT_add,V];exact r3
end
end Go.Ga
namespace Go.Ren
open Go.Conc (G)
def sZ (D:zP)(v w:zW):Prop:=∀b,D b->∀o,v.heap[b]? =aA o->(w.heap[b]? =aA o)\/∃c t fr f,o=aJ c t fr/\w.heap[b]? =aA (aJ c t f)
def bG.both {Al Aw π D x y o}(q:¬Aw 1000000/\¬Aw 1000001/\∀k,¬Aw (1000002+k))(p:∀k,Al (1000002+k)->¬D k)(h:bG Aw (cC D) x y)(k:bG Al π x o):bG Aw (λb J=>D b/\π b J) x o:=by
 induction h generalizing o with
 |bool b=>cases k;exact .bool b
 |int i n=>cases k;exact .int i n
 |string s=>cases k;exact .string s
 |pointer h=>
  cases k with
  |pointer hk=>
   cases h with
   |none=>cases hk;exact .pointer .none
   |some h=>cases hk with
    |some hk=>exact .pointer (.some ⟨⟨h.1.2,hk.1⟩,hk.2⟩)
 |slice h n c=>
  cases k with
  |slice hk _ _=>
   cases h with
   |none=>cases hk;exact .slice .none n c
   |some h=>cases hk with
    |some hk=>exact .slice (.some ⟨⟨h.1.2,hk.1⟩,hk.2⟩) n c
  |void a _=>
   cases h with
   |some h=>exact absurd h.1.2 (p _ a)
 | @func f G N m cs d A r g L K i3 i4=>
  cases k with
  | @func _ F _ M _ ds k1 k2 E C B=>
   refine .func G k1 k2 g (λi v j a e=> ?_) λi v j a e=> ?_
   .obtain⟨z,g⟩:∃z,m[i]? =aA z:=by
     have:=(zAa.1 a).1;exact⟨m[i]'(by omega),zAj (by omega)⟩
    exact i3 i v z a g (C i v j a e)
   .obtain⟨z,g⟩:∃z,d[i]? =aA z:=by
     have:=(zAa.1 a).1;exact⟨d[i]'(by omega),zAj (by omega)⟩
    exact i4 i v z a g (B i v j a e)
 |nilFunc=>cases k;exact .nilFunc
 |iface t h l=>
  cases k with
  |iface _ hk=>exact .iface t (l hk)
 |nilIface=>cases k;exact .nilIface
 |iT=>cases k;exact .iT
 |gH=>cases k;exact .gH
 | @agg cs d A r l=>
  cases k with
  |agg k1 k2=>
   refine .agg k1 λi v j a e=> ?_;obtain⟨z,g⟩:∃z,d[i]? =aA z:=by have:=(zAa.1 a).1;exact⟨d[i]'(by omega),zAj (by omega)⟩
   exact l i v z a g (k2 i v j a e)
 | @tuple cs d A r l=>
  cases k with
  |tuple k1 k2=>
   refine .tuple k1 λi v j a e=> ?_;obtain⟨z,g⟩:∃z,d[i]? =aA z:=by have:=(zAa.1 a).1;exact⟨d[i]'(by omega),zAj (by omega)⟩
   exact l i v z a g (k2 i v j a e)
 |junk I _=>exact absurd I q.1
 |same H _=>exact absurd H q.2.1
 |void p _=>exact absurd p (q.2.2 _)
def aZ.both {Al Aw:zF}{π:Rn}{D:zP}{c c':zA}(g:¬Aw 1000000/\¬Aw 1000001/\∀k,¬Aw (1000002+k))(f:∀k,Al (1000002+k)->¬D k)(h:aZ Aw (cC D) c c)(k:aZ Al π c c'):aZ Aw (λb j=>D b/\π b j) c c':=
 ⟨k.size,λi v e d a=>(h.at' i v v d d).both g f (k.at' i v e d a)⟩
noncomputable def PM (D:zP)(v:zW)(os:Os):zW:=
 open Classical in {v with heap:=v.heap.mapIdx λi o=>if D i then(match o with|aJ c t _=>aJ c t (0,c.size)|o=>o)else o,os}
def pV {D v os b}(a:D b){c t fr}(h:v.heap[b]? =aA (aJ c t fr)):(PM D v os).heap[b]? =aA (aJ c t (0,c.size)):=by unfold PM;simp only[aEz,h,zBi,zAz a]
def tM {D v os}{b:Nat}{o}(h:v.heap[b]? =aA o)(a:∀c t fr,o≠aJ c t fr):(PM D v os).heap[b]? =aA o:=by
 unfold PM;simp only[aEz,h,zBi];split
 .cases o<;>first|rfl|exact absurd rfl (a _ _ _)
 .rfl
def xN {D v os}:(PM D v os).heap.size=v.heap.size:=by simp[PM]
structure Plain (P:zZ)(Aw:zF)(D:zP)(v:zW):Prop where
 ok:Ok P (cC D)
 low:P.globals.size<v.heap.size
 blk:∀b,D b->(∃c t fr,v.heap[b]? =aA (aJ c t fr)/\aZ Aw (cC D) c c/\(∀(i:Nat) m,c[i]?≠aA (.int aQ m))/\fr.2<=c.size)\/(b<=P.globals.size/\∃o,v.heap[b]? =aA o/\BW o)
section
variable {P:zZ}{Al Aw:zF}{D:zP}{π:Rn}{u v w:zW}
def Plain.frozen (h:Plain P Aw D u)(os:Os):bQ P Aw K0 (cC D) (PM D u os) (PM D u os):=by
 refine⟨h.ok,λb k a=> ?_,λ_ _=>rfl,λb a=>a.elim,by rw[xN];exact⟨h.low,h.low⟩,rfl,λb a=>a.elim⟩;obtain⟨e,f⟩:=a;subst e;obtain⟨c,t,fr,d,i,g,j⟩|⟨d,o,i,g⟩:=h.blk b f
 .exact aH ⟨c,c,t,_,_,pV f d,pV f d,i,λx=>x.elim,λ_=>rfl,λx=>x.1.elim⟩
 .have:=tM (D:=D) (os:=os) i g.1;exact aI (aH ⟨d,o,this,this,g⟩)
def Plain.Wo (_h:Plain P Aw D u)(os:Os)(a)(d):sZ D u ((PM D u os).re a d):=λb e o h=>by
 show(PM D u os).heap[b]? =aA o\/∃c t fr f,o=aJ c t fr/\(PM D u os).heap[b]? =aA (aJ c t f);cases o with
 |cells c t fr=>exact aI ⟨c,t,fr,_,rfl,pV e h⟩
 |_=>exact aH (tM h (by simp))
def Plain.Iw (A:¬Aw 1000000/\¬Aw 1000001/\∀k,¬Aw (1000002+k))(z:∀k,Al (1000002+k)->¬D k)(h:Plain P Aw D u)(r:∀b,D b->u.heap[b]? =v.heap[b]?)(j:bQ P Al K0 π v w){w'}(q:∀b b',π b b'->w'.heap[b']? =w.heap[b']?)(pT:P.globals.size<w'.heap.size):
  bQ P Aw ⟨D,aB,False⟩ (λb b'=>D b/\π b b') ((PM D u w'.os).re w'.tape w'.drawn) w':=by
 refine⟨⟨λa d=>j.ok.inj a.2 d.2,λa d=>j.ok.base a.2 d,λb e=>⟨(h.ok.gK b e).2,j.ok.gK b e⟩⟩,λb b' e=> ?_,λ_ _=>rfl,λb e=> ?_,⟨by show _<(PM D u w'.os).heap.size;rw[xN];exact h.low,pT⟩,rfl,λb e=> ?_⟩
 .obtain⟨l,e⟩:=e;show Pl Aw _ _ b (PM D u w'.os).heap[b]? _\/(_/\∃o,(PM D u w'.os).heap[b]? =aA o/\_)\/_;rw[q b b' e];obtain⟨c,t,fr,a,d,i,B⟩|⟨a,o,d,i⟩:=h.blk b l
  .rw[pV l a];rw[r b l]at a;obtain⟨c1,n,t1,f1,m,g,p,f,g4,g5⟩|⟨_,o,g,_,f⟩|⟨y,s,g,_,f⟩:=j.blk b b' e
   .rw[a]at g;cases g;refine aH ⟨c,n,t,_,m,rfl,p,d.both A z f,λ_=>⟨rfl,zAb _,i,?_⟩,λx=>absurd l x,λx=>x.1.elim⟩;rw[g5.1 (λx=>x)];exact B
   .rw[a]at g;cases g;exact absurd rfl (f.1 _ _ _)
   .rw[a]at g;cases g;cases f
  .rw[tM d i.1];rw[r b l]at d;obtain⟨c1,n,t1,f1,m,g,p,f,g4,g5⟩|⟨_,C,g,p,f⟩|⟨y,s,g,_,f⟩:=j.blk b b' e
   .rw[d]at g;cases g;exact absurd rfl (i.1 _ _ _)
   .rw[d]at g;cases g;exact aI (aH ⟨a,o,rfl,p,i⟩)
   .rw[d]at g;cases g;cases f with
    |view=>exact absurd rfl (i.2.1 _ _)
    |number=>exact absurd rfl (i.2.2.1 _ _)
 .show b<(PM D u w'.os).heap.size;rw[xN];obtain⟨c,t,fr,a,_⟩|⟨_,o,a,_⟩:=h.blk b e
  .exact(zAa.1 a).1
  .exact(zAa.1 a).1
 .show∃o,(PM D u w'.os).heap[b]? =aA o/\_;obtain⟨c,t,fr,a,_⟩|⟨_,o,a,d⟩:=h.blk b e
  .exact⟨_,pV e a,aH ⟨_,_,_,rfl⟩⟩
  .exact⟨_,tM a d.1,aI d⟩
end
end Go.Ren
namespace Go.Ga
open Go.Conc Go.Ren Go.Proofs Go.Tr
def fJ (rows:List (Nat×ByteArray))(q:zO)(l:Nat)(w:zW):Prop:=
 l=rows.length/\(rows≠[]->∃g o,q=aA ⟨g,o,aB⟩/\∀j p,rows[j]? =aA p->w.cell? ⟨g,o+j*2,aB⟩=aA (.pointer (aA ⟨p.1,0,aB⟩))/\w.cell? ⟨g,o+j*2+1,aB⟩=aA (.string p.2))
def fJ.keep {rows q l w w'}(h:fJ rows q l w)(i:∀a,q=aA a->w'.heap[a.block]? =w.heap[a.block]?):fJ rows q l w':=by
 refine⟨h.1,λf=> ?_⟩;obtain⟨g,o,e,c⟩:=h.2 f;refine⟨g,o,e,λj p d=> ?_⟩;obtain⟨r,n⟩:=c j p d;have m:=i _ e;have b:∀k,w'.cell? ⟨g,k,aB⟩=w.cell? ⟨g,k,aB⟩:=λk=>by simp only[World.cell?];rw[m]
 exact⟨(b _).trans r,(b _).trans n⟩
def nY (π:Rn)(rows cF:List (Nat×ByteArray)):Prop:=fZ (λp a=>π p.1 a.1/\a.2=p.2) rows cF
structure Fork (N:Nat)(pa:zO)(bp o bt:Nat)(D:zP)(pt:Nat->zO)(rows:Nat->List (Nat×ByteArray))(u:zW):Prop where
 lt:N<2147483647
 my:0<N->pa=aA ⟨bp,o,aB⟩
 ai:0<N->bp<u.heap.size/\¬VN u.heap[bp]?
 q0:∀i,i<N->u.cell? ⟨bp,o+i,aB⟩=aA (.pointer (pt i))
 plain:Plain zq Qw.Al D u
 box:∀b,D b->¬VN u.heap[b]?
 top:D bt
 part:∀i,i<N->∀a,pt i=aA a->D a.block
 PN:∀i,i<N->(rows i).length<=1000000
 cell:∀i,i<N->∀p∈rows i,D p.1/\∃cs,u.heap[p.1]? =aA (aJ cs 272 (0,0))/\cs.size=6
 work:∀i,i<N->∀W,sZ D u W->Calls zq 236 #[.pointer (aA ⟨bt,0,aB⟩),.pointer (pt i)] W λe W'=>∃q l cp,e=aM (.slice q l cp)/\l<=cp/\fJ (rows i) q l W'/\(∀a,q=aA a->W.heap.size<=a.block)/\Go.RowKit.Below W.heap.size W W'
section
variable {N:Nat}{pa:zO}{bp o bt:Nat}{D:zP}{pt:Nat->zO}{rows:Nat->List (Nat×ByteArray)}{u:zW}
def Fork.re (h:Fork N pa bp o bt D pt rows u)(a:zT)(d:Nat):Fork N pa bp o bt D pt rows (u.re a d):=
 ⟨h.lt,h.my,h.ai,h.q0,⟨h.plain.ok,h.plain.low,h.plain.blk⟩,h.box,h.top,h.part,h.PN,h.cell,λi hi W b=>h.work i hi W b⟩
def nM {P A}(h:Plain P A D u){b}(d:D b):b<u.heap.size:=by
 obtain⟨c,t,fr,a,_⟩|⟨_,o,a,_⟩:=h.blk b d
 .exact(zAa.1 a).1
 .exact(zAa.1 a).1
def VW {Al π a b a' b'}(h:bG Al π a a')(k:bG Al π b b'):aZ Al π #[a,b] #[a',b']:=by have:=(aZ.one h).append (aZ.one k);simpa using this
def GB {f}(h:¬Qz.iS f)(xs)(k:CallKind):Frame.enter Tryz.prog f xs k=Frame.enter zq f xs k:=by unfold Frame.enter;rw[Qz.same h]
def Ov:Qw.Al 236:=by show Qw.ck.al 236=aF;kernel_rfl
def Made (D:zP)(π:Rn)(rows:List (Nat×ByteArray))(q:zO)(l d:Nat)(h:zP)(w:zW):Prop:=
 ∃cF,nY (λb c=>D b/\π b c) rows cF/\fJ cF q l w/\∀a,q=aA a->h a.block
def Made.keep {π rs q l cp h w w₁}(x:Made D π rs q l cp h w)(d:∀b,h b->w₁.heap[b]? =w.heap[b]?):Made D π rs q l cp h w₁:=by obtain⟨cF,g,f,c⟩:=x;exact⟨cF,g,f.keep λa e=>d _ (c a e),c⟩
def sN {α T}{l e:List α}(h:fZ T l e):e.length=l.length/\∀(j:Nat) a b,l[j]? =aA a->e[j]? =aA b->T a b:=by
 induction h with
 |nil=>exact⟨rfl,λj a b h=>by simp at h⟩
 |cons h _ i=>
  refine⟨by simp[i.1],λj a b d c=> ?_⟩;cases j with
  |zero=>simp at d c;subst d;subst c;exact h
  |succ j=>simp at d c;exact i.2 j a b d c
def CH {α:Type}{T:α->α->Prop}:∀{l c:List α},c.length=l.length->(∀(j:Nat) a d,l[j]? =aA a->c[j]? =aA d->T a d)->fZ T l c
 |[],[],_,_=> .nil
 |[],_::_,h,_=>by simp at h
 |_::_,[],h,_=>by simp at h
 |a::l,d::c,h,k=> .cons (k 0 a d rfl rfl) (CH (by simpa using h) λj b g f e=>k (j+1) b g (by simpa using f) (by simpa using e))
def FG {α:Type}:∀(l:List α)(A:Nat->α->α->Prop),(∀(j:Nat) a,l[j]? =aA a->∃b,A j a b)->∃f:List α,f.length=l.length/\∀(j:Nat) a b,l[j]? =aA a->f[j]? =aA b->A j a b
 |[],_,_=>⟨[],rfl,λj a b h=>by simp at h⟩
 |a::l,A,h=>by
  obtain⟨b,i⟩:=h 0 a rfl;obtain⟨f,m,k⟩:=FG l (λj=>A (j+1)) λj c e=>h (j+1) c (by simpa using e);refine⟨b::f,by simp[m],λj c d e g=> ?_⟩;cases j with
  |zero=>simp at e g;subst e;subst g;exact i
  |succ j=>exact k j c d (by simpa using e) (by simpa using g)
def Kl {P Al K ρ v w}(C:bQ P Al K ρ v w)(S:∀k,¬Al (1000002+k))(T:¬Al 1000000)(hs:¬Al 1000001){rs q B l}(I:vF ρ q B)(h:fJ rs q l v):∃cF,nY ρ rs cF/\fJ cF B l w:=by
 by_cases E:rs=[]
 .subst E;exact⟨[],.nil,h.1,λx=>absurd rfl x⟩
 obtain⟨g,o,e,H⟩:=h.2 E;subst e;cases I with
 | @some _ s z=>
  obtain⟨f,c,Q⟩:=s;obtain⟨i,n,F⟩:=z;dsimp only at i n F;subst n;subst F;have t:∀j p,rs[j]? =aA p->∃c',ρ p.1 c'/\w.cell? ⟨f,c+j*2,aB⟩=aA (.pointer (aA ⟨c',0,aB⟩))/\w.cell? ⟨f,c+j*2+1,aB⟩=aA (.string p.2):=λj p m=>by
   obtain⟨k1,k2⟩:=H j p m;obtain⟨x,O,r,L,J⟩|⟨r,_⟩:=C.cell (a:=⟨g,c+j*2,aB⟩) (a':=⟨f,c+j*2,aB⟩) ⟨i,rfl,rfl⟩
   .rw[k1]at r;cases r;obtain⟨y,M,f1,f2,f3⟩|⟨f1,_⟩:=C.cell (a:=⟨g,c+j*2+1,aB⟩) (a':=⟨f,c+j*2+1,aB⟩) ⟨i,rfl,rfl⟩
    .rw[k2]at f1;cases f1;cases f3 with
     |string=>
      cases J with
      |pointer d=>
       cases d with
       | @some _ s z=>obtain⟨c',R,s2⟩:=s;obtain⟨m1,m2,m3⟩:=z;dsimp only at m1 m2 m3;subst m2;subst m3;exact⟨c',m1,L,f2⟩
    .rw[k2]at f1;cases f1
   .rw[k1]at r;cases r
  obtain⟨cF,hl,A⟩:=FG rs (λj p b=>ρ p.1 b.1/\b.2=p.2/\w.cell? ⟨f,c+j*2,aB⟩=aA (.pointer (aA ⟨b.1,0,aB⟩))/\w.cell? ⟨f,c+j*2+1,aB⟩=aA (.string b.2)) λj p m=>by obtain⟨c',k1,k2,G⟩:=t j p m;exact⟨(c',p.2),k1,rfl,k2,G⟩
  refine⟨cF,CH hl λj p b i n=>⟨(A j p b i n).1,(A j p b i n).2.1⟩,by rw[hl];exact h.1,λ_=>⟨f,c,rfl,λj b d=> ?_⟩⟩;obtain⟨p,m⟩:∃p,rs[j]? =aA p:=by have:=(zBa.1 d).1;exact⟨rs[j]'(by omega),zAi (by omega)⟩
  exact(A j p b m d).2.2
def Fork.PS {Al:zF}(hV:∀k,Al (1000002+k)->¬D k)(hF:Fork N pa bp o bt D pt rows u){v w π}(hu:∀b,D b->u.heap[b]? =v.heap[b]?)(hw:bQ zq Al Go.Ren.K0 π v w){old:zP}(hold:∀b b',π b b'->old b'){i}(hi:i<N){z}(qw:π bt z){n}(s:vF π (pt i) n)
  (J:zW->Prop) (r) (w') {L} (h1:∀b,old b->r b) (hL:∃b,r b/\L<=b) (h2:∀b,old b->w'.heap[b]? =w.heap[b]?):Works J r w' 236 #[.pointer (aA ⟨z,0,aB⟩),.pointer n] λq l cp S w=>∃h,(∀b,h b->S b/\L<=b)/\Made D π (rows i) q l cp h w:=by
 intro c cs S hd;have pT:=(hd _ (h1 _ (hold _ _ (hw.ok.gK _ (zAb _))))).2;have ry:L<=w'.heap.size:=by obtain⟨b,m,hl⟩:=hL;have:=(hd b m).2;omega
 have hW:=Plain.Iw ⟨Qw.nv.1,Qw.nf 1000001 (by omega),Qw.nv.2⟩ hV hF.plain hu hw (λb b' m=>h2 b' (hold b b' m)) pT;have C:vF (cC D) (pt i) (pt i):=by
  cases B:pt i with
  |none=>exact .none
  |some a=>exact .some ⟨⟨rfl,hF.part i hi a B⟩,rfl,rfl⟩
 have t:vF (λb b'=>D b/\π b b') (pt i) n:=by
  cases B:pt i with
  |none=>rw[B]at s;cases s;exact .none
  |some a=>
   rw[B]at s;cases s with
   |some h=>exact .some ⟨⟨hF.part i hi a B,h.1⟩,h.2⟩
 have y:aZ Qw.Al (λb b'=>D b/\π b b') #[.pointer (aA ⟨bt,0,aB⟩),.pointer (pt i)] #[.pointer (aA ⟨z,0,aB⟩),.pointer n]:=VW (.pointer (.some ⟨⟨hF.top,qw⟩,rfl,rfl⟩)) (.pointer t);have B:aZ Qw.Al (cC D) #[.pointer (aA ⟨bt,0,aB⟩),.pointer (pt i)] #[.pointer (aA ⟨bt,0,aB⟩),.pointer (pt i)]:=VW (.pointer (.some ⟨⟨rfl,hF.top⟩,rfl,rfl⟩)) (.pointer C);have M:∀b,¬Go.Ren.K0 b:=λb h=>h;have hE:=Go.Ren.ends_of_calls Qw.nv Qw.OO Ov B (hF.plain.frozen w'.os) (R:=λx V=>∃q l cp,x= .slice q l cp/\fJ (rows i) q l V/\∀a,q=aA a->u.heap.size<=a.block) (λ_ _ _ _ h=>h) λτ d=>(hF.work i hi _ (hF.plain.Wo w'.os τ d)).mono λe W' he=>by
  obtain⟨q,l,cp,e1,_,e2,e3,_⟩:=he;exact⟨_,e1,q,l,cp,rfl,e2,λa y=>by have:=e3 a y;rw[show((PM D u w'.os).re τ d).heap.size=u.heap.size from xN (D:=D) (v:=u) (os:=w'.os)]at this;exact this⟩
 have H:¬Qz.iS 236:=by decide
 have E:=qR (P:=zq) 236 #[.pointer (aA ⟨bt,0,aB⟩),.pointer (pt i)];obtain⟨tr,m⟩:=UY (P:=zq) (Al:=Qw.Al) (K:=⟨D,aB,False⟩) (L:=L) (π0:=λb b'=>D b/\π b b') (fs:=Tryz.prog.funcs) (J:=J) (main:=aG) (c:=c) (cs:=cs) (λf=>Qw.nf (900000+f) (zBb (by decide) (zDn _ _))) rfl (Qw.iU _ λh=>h) (Qw.OO _ M) Qz.shape (λf xs own v D rk Xx _ _ _=>Xx (Qz.same (Qw.XW rk)).symm) hE
  (π:=λb b'=>D b/\π b b') (fr':=Frame.enter zq 236 #[.pointer (aA ⟨z,0,aB⟩),.pointer n] .normal) (own':=[]) (w:=w') (rd:=r) (rw:=S) (D:=D)
  ⟨cJ.enter (Qw.iU _ λh=>h) Ov y (aH rfl),.nil,hW⟩ ⟨cJ.enter (Qw.OO _ M) Ov B (aH rfl),.nil,hF.plain.frozen w'.os,Qw.nv⟩ ⟨E.1,E.2.1,by simp⟩ (λx O=>by simp only[zAm]at O;subst O;rw[E.2.2];exact(Qz.same H).symm) (λb b' m=>aH ⟨m.1,h1 _ (hold _ _ m.2),m⟩) ry
 rw[Qz.back]at m;refine⟨tr,?_⟩;rw[GB H];refine cK.mono (λrd rw g w h=> ?_) m;obtain⟨X,x,x',V,ρ,es,⟨q,l,cp,O,Y,I⟩,hv,U,F,A,Mp⟩:=h;subst O;rw[Qz.back]at A;cases hv with
 | @slice _ T hq _ _=>
  obtain⟨cF,k1,k2⟩:=Kl U Qw.nv.2 Qw.nv.1 (Qw.nf 1000001 (by omega)) hq Y;have G:∀Q,T=aA Q->rw Q.block/\L<=Q.block:=λQ ah=>by
   subst ah;cases hq with
   | @some a _ y=>obtain x|x:=F _ _ y.1;{exact absurd (I a rfl) (Nat.not_le.2 (nM hF.plain x.1))};{exact x.2}
  refine⟨X,T,l,cp,es,⟨λb=>∃a,T=aA a/\a.block=b,λb ⟨a,y,m⟩=>m▸G a y,cF,?_,k2,λa y=>⟨a,y,rfl⟩⟩,A,Mp⟩;have hg:=sN k1;refine CH hg.1 λj p p' hp Z=> ?_;obtain⟨m1,m2⟩:=hg.2 j p p' hp Z;refine⟨?_,m2⟩;obtain x|x:=F _ _ m1;{exact x.2.2};{exact absurd (hF.cell i hi p (zDf hp)).1 x.1}
 |void W _=>exact absurd W (Qw.nv.2 _)
end
def oB (w:zW)(p:Nat×ByteArray):zW:=w.setCell ⟨p.1,4,aB⟩ (.string p.2)
def cT (rows:List (Nat×ByteArray))(w:zW):zW:=rows.foldl oB w
structure dW (rows:List (Nat×ByteArray))(w w':zW):Prop where
 size:w.heap.size<=w'.heap.size
 heap:∀b,b<w.heap.size->w'.heap[b]? =(cT rows w).heap[b]?
 os:w'.os=w.os
 tape:w'.tape=w.tape
 output:w'.output=w.output
section
variable {w w':zW}{rows cF:List (Nat×ByteArray)}
def qK {p b}(h:b≠p.1):(oB w p).heap[b]? =w.heap[b]? :=by exact bO _ (zDj h)
def EU {p}{b:Nat}(h:w'.heap[b]? =w.heap[b]?):(oB w' p).heap[b]? =(oB w p).heap[b]? :=by
 by_cases e:b=p.1
 .subst e;unfold oB World.setCell;rw[bS,bS,h]
 .rw[qK e,qK e,h]
def Er {p}:(oB w p).heap.size=w.heap.size:=by unfold oB World.setCell;simp
def RX {p}:cT (p::rows) w=cT rows (oB w p):=rfl
def IY:cT (rows++cF) w=cT cF (cT rows w):=by unfold cT;rw[List.foldl_append]
def fO:∀(rows:List (Nat×ByteArray)){w w':zW}{b:Nat},w'.heap[b]? =w.heap[b]?->(cT rows w').heap[b]? =(cT rows w).heap[b]?
 |[],_,_,_,h=>h
 |_::rows,_,_,_,h=>fO rows (EU h)
def gO:∀(rows:List (Nat×ByteArray)){w:zW}{b:Nat},(∀p∈rows,p.1≠b)->(cT rows w).heap[b]? =w.heap[b]?
 |[],_,_,_=>rfl
 |p::rows,w,b,h=>(gO rows (w:=oB w p) λq a=>h q (zBc _ a)).trans (qK (zDj (h p (by simp))))
def lO {g:Nat}{ty:zD}{fr:Nat×Nat}{n:Nat}:∀(rows:List (Nat×ByteArray)){w:zW},(∃cs,w.heap[g]? =aA (aJ cs ty fr)/\cs.size=n)->∃cs,(cT rows w).heap[g]? =aA (aJ cs ty fr)/\cs.size=n
 |[],_,h=>h
 |p::rows,w,⟨cs,h,a⟩=>by refine lO rows (w:=oB w p) ?_;by_cases e:g=p.1;{subst e;refine⟨cs.setIfInBounds 4 (.string p.2),?_,by simp[a]⟩;unfold oB World.setCell;rw[bS,h];rfl};{exact⟨cs,(qK e).trans h,a⟩}
def dW.nil:dW [] w w:=⟨zAb _,λ_ _=>rfl,rfl,rfl,rfl⟩
def dW.trans {w1 w2:zW}(h:dW rows w w1)(k:dW cF w1 w2):dW (rows++cF) w w2:=
 ⟨zBb h.size k.size,λb a=>by rw[k.heap b (zAd a h.size),IY];exact fO cF (h.heap b a),k.os.trans h.os,k.tape.trans h.tape,k.output.trans h.output⟩
def Iv {P Al π v w}(b:bQ P Al Go.Ren.K0 π v w)(h:nY π rows cF):bQ P Al Go.Ren.K0 π (cT rows v) (cT cF w):=by
 induction h generalizing v w with
 |nil=>exact b
 | @cons p c l d h _ i=>refine i ?_;unfold oB;rw[h.2];exact b.setCell (a:=⟨p.1,4,aB⟩) (a':=⟨c.1,4,aB⟩) ⟨h.1,rfl,rfl⟩ (λx=>x) (.string _)
def yB {P:zZ}{Al:zF}{π:Rn}{v w v' w':zW}(d:bQ P Al Go.Ren.K0 π v w)(e:∀b b',π b b'->v'.heap[b]? =v.heap[b]?)(a:∀b b',π b b'->w'.heap[b']? =w.heap[b']?)(hl:P.globals.size<v'.heap.size)(c:P.globals.size<w'.heap.size)(g:w'.os=v'.os)(f:∀k,w'.tape (w'.drawn+k)=v'.tape (v'.drawn+k)):bQ P Al Go.Ren.K0 π v' w':=
 ⟨d.ok,λb b' h=>by rw[e b b' h,a b b' h];exact d.blk b b' h,λk _=>f k,λb h=>h.elim,⟨hl,c⟩,g,λb h=>h.elim⟩
end
def TV {xs}(i)(h:xs.size<=i):(full xs).getD i aEn=aEn:=by unfold full;rw[zAu,zCc h,zEr];split<;>rfl
def Mw {xs ys}(d:xs.size<=20)(c:ys.size<=20)(h:∀i,i<20->(full xs).getD i aEn=(full ys).getD i aEn):full xs=full ys:=by
 apply zBz;intro i;have b:=jS d;have s:=jS c;obtain hi|hi:=zDc i 43
 .have k:∀zs:zA,zs.size=43->zs[i]? =aA (zs.getD i aEn):=λzs e=>by
   rw[zAu,zAj (by omega)];rfl
  rw[k _ b,k _ s];congr 1;obtain a|a:=zDc i 20;{exact h i a};{rw[TV i (by omega),TV i (by omega)]}
 .rw[zBq (by omega),zBq (by omega)]
def Ji {tm tm'}(h:told tm=told tm'):∀i,i<20->tm.getD i aEn=tm'.getD i aEn:=by
 unfold told gC gA gB at h;simp only[List.cons.injEq,PanicEntry.mk.injEq,Value.iface.injEq,Value.func.injEq,and_true,true_and]at h;have h:=congrArg aEA h;simp only[List.cons.injEq,Value.func.injEq,and_true,true_and]at h;obtain⟨z,y,b,a⟩:=h;have b:=congrArg aEA b;have a:=congrArg aEA a;simp only[List.cons.injEq,and_true]at b a;obtain⟨x,v,u,t,s,r,q,p,o⟩:=b;obtain⟨m,l,k,j,g,f,e,d,c⟩:=a;intro i hi;match i,hi with
 |0,_=>exact z
 |1,_=>exact y
 |2,_=>exact x
 |3,_=>exact v
 |4,_=>exact u
 |5,_=>exact t
 |6,_=>exact s
 |7,_=>exact r
 |8,_=>exact q
 |9,_=>exact p
 |10,_=>exact o
 |11,_=>exact m
 |12,_=>exact l
 |13,_=>exact k
 |14,_=>exact j
 |15,_=>exact g
 |16,_=>exact f
 |17,_=>exact e
 |18,_=>exact d
 |19,_=>exact c
 |n+20,hi=>exact absurd hi (by omega)
def TX (A B):(full #[A,B])[0]? =aA A:=by unfold full;rw[zCr (by simp)];rfl
def TW (A B):(full #[A,B])[1]? =aA B:=by unfold full;rw[zCr (by simp)];rfl
def Vh (A B){i}(hi:i+2<43):(full #[A,B])[i+2]? =aA aEn:=by unfold full;rw[zCc (by simp),zEr];simp;omega
def Mv {Al π A B x}(h:aZ Al π (full #[A,B]) (x++aD5 (43-x.size) aEn)):∃d b,bG Al π A d/\bG Al π B b/\x++aD5 (43-x.size) aEn=full #[d,b]:=by
 have a:=h.size;rw[jS (by simp)]at a;generalize x++aD5 (43-x.size) aEn=y at h a;have k:∀i,i<43->y[i]? =aA (y.getD i aEn):=λi hi=>by rw[zAu,zAj (by omega)];rfl
 refine⟨y.getD 0 aEn,y.getD 1 aEn,h.at' 0 A _ (TX A B) (k 0 (by decide)),h.at' 1 B _ (TW A B) (k 1 (by decide)),?_⟩;apply zBz;intro i;obtain hi|hi:=zDc i 43
 .rw[k i hi];match i,hi with
  |0,_=>rw[TX]
  |1,_=>rw[TW]
  |i+2,hi=>
   rw[Vh _ _ hi];have:=h.at' (i+2) aEn _ (Vh A B hi) (k (i+2) hi);generalize y.getD (i+2) aEn=z at this;unfold aEn at this⊢;cases this with
   | @tuple _ c k1 _=>have:c= #[]:=Array.eq_empty_of_size_eq_zero k1;rw[this]
 .rw[zBq (by omega),zBq (by rw[jS (by simp)];omega)]
abbrev iE (bt:Nat):zY:= .pointer (aA ⟨bt,0,aB⟩)
abbrev iV (pa:zO)(N cp:Nat):zY:= .slice pa N cp
def allRows (rows:Nat->List (Nat×ByteArray)):Nat->List (Nat×ByteArray)
 |0=>[]
 |n+1=>allRows rows n++rows n
def kS (c:List PanicEntry)(u:zW):Prop:=∃N pa bp o cp bt D pt rows,c=told (full #[iE bt,iV pa N cp])/\N<=cp/\Fork N pa bp o bt D pt rows (cS u)
def Ig:Prop:=∀rows q l cp W,fJ rows q l W->l<=cp->rows.length<=1000000->(∀p∈rows,∃cs,W.heap[p.1]? =aA (aJ cs 272 (0,0))/\cs.size=6)->(∀a,q=aA a->∀p∈rows,a.block≠p.1)->Calls zq 235 #[.slice q l cp] W λe b=>e=aM (.tuple #[])/\dW rows W b
def xY:Prop:=∀N pa bp o cp bt D pt rows u,Fork N pa bp o bt D pt rows u->N<=cp->∀W,(∀b,D b\/(0<N/\b=bp)->W.heap[b]? =u.heap[b]?)->Calls zq 170 #[iE bt,iV pa N cp] W λe a=>(∃x,e=aM x)/\dW (allRows rows N) W a
def gE {rows:Nat->List (Nat×ByteArray)}:∀{n:Nat}{p:Nat×ByteArray},p∈allRows rows n->∃i,i<n/\p∈rows i
 |0,p,h=>by simp[allRows]at h
 |n+1,p,h=>by obtain h|h:=zAh.1 h;{obtain⟨i,b,a⟩:=gE h;exact⟨i,by omega,a⟩};{exact⟨n,by omega,h⟩}
def BL {π:Rn}{rows cF:Nat->List (Nat×ByteArray)}:∀{n:Nat},(∀i,i<n->nY π (rows i) (cF i))->nY π (allRows rows n) (allRows cF n)
 |0,_=> .nil
 |n+1,h=>by
  have b:∀{l a k k':List (Nat×ByteArray)},nY π l a->nY π k k'->nY π (l++k) (a++k'):=λ{l a k k'} h1 d=>by
   unfold nY at*;induction h1 with
   |nil=>exact d
   |cons h _ c=>exact .cons h c
  exact b (BL λi hi=>h i (by omega)) (h n (by omega))
section
variable {N:Nat}{pa:zO}{bp o cp bt:Nat}{D D0:zP}{pt:Nat->zO}{rows:Nat->List (Nat×ByteArray)}{u v:zW}{xs:zA}
def bq:XB (λ_ _=>1) 0=1:=rfl
def jY.lt {b}(h:jY v u)(c:b<u.heap.size)(a:¬VN u.heap[b]?):b<v.heap.size:=zBm λx=>a (h.new b (zEy.1 x) c)
def Sw (g:xY)(hF:Fork N pa bp o bt D pt rows u)(q:N<=cp)(j:jY v u)(A:full xs=full #[iE bt,iV pa N cp])(f:Closed zq Qz.Al D0 (Frame.enter zq 233 xs .normal) [] v):
  Lone zq [bI] (iO zq λx V=>x= .tuple #[]/\dW (allRows rows N) (boxed v aF) (V.re v.tape V.drawn)) (Frame.enter zq 233 xs .normal) [] (v.re (λ_ _=>1) 0):=by
 have m:∀b,¬Go.Ren.K0 b:=λb h=>h;have s:(full #[iE bt,iV pa N cp]).size=43:=jS (by simp);have y:=jK v aF;have h:=g N pa bp o cp bt D pt rows u hF q ((boxed v aF).re (λ_ _=>1) 1) λb a=>by
  have bT:b<v.heap.size:=by obtain a|⟨r,rfl⟩:=a;{exact jY.lt j (nM hF.plain a) (hF.box b a)};{exact jY.lt j (hF.ai r).1 (hF.ai r).2}
  rw[j.old b bT];exact y.old b bT
 have E:(full #[iE bt,iV pa N cp]).getD 0 aEn=iE bt:=by rw[zAu,TX];rfl
 have C:(full #[iE bt,iV pa N cp]).getD 1 aEn=iV pa N cp:=by rw[zAu,TW];rfl
 have B:Calls zq 170 #[(full #[iE bt,iV pa N cp]).getD 0 aEn,(full #[iE bt,iV pa N cp]).getD 1 aEn] ((boxed v aF).re (λ_ _=>1) (0+1)) λe W=>(∃x,e=aM x)/\dW (allRows rows N) ((boxed v aF).re (λ_ _=>1) 1) W:=by rw[E,C];exact h
 obtain⟨w,fr,i,k,z,hl⟩:=UR s (λ_ _=>1) 0 (by rw[bq];decide) B [bI];obtain⟨n,t⟩:=k;have p:Frame.enter zq 233 xs .normal=eR (full #[iE bt,iV pa N cp]) [.code Qz.qX]:=by rw[yW,<-A];rfl
 have c:Closed zq Qz.Al D0 (Frame.enter zq 233 xs .normal) [] (v.re (λ_ _=>1) 0):=⟨f.frame,.nil,fW f.world m _ _ _ _ (λ_ _=>rfl),f.nj⟩;rw[p]at c⊢;have l:=t;refine oM Qz.iU (λD f=> ?_) n c l;refine iO.of (λx u F d h=>⟨h.1,h.2.size,h.2.heap,h.2.os,h.2.tape,h.2.output⟩) hl ⟨rfl,i.size,λb a=> ?_,i.os,rfl,i.output⟩ f;rw[show(w.re v.tape w.drawn).heap=w.heap from rfl,i.heap b a];exact fO _ rfl
end
open Go.Conc Go.Ren Go.Proofs Go.RowKit Go.Conc.Lib Go.Wg Go.Tr
noncomputable def qX:Code:=f233.body.getD .skip
noncomputable def sH:Nat->zQ
 |0=>match qX with| .seq (.region _ a _) _=>a|_=> #[]
 |1=>match qX with| .seq _ (.block _ (.loop (.seq (.region _ a _) _)))=>a|_=> #[]
 |2=>match qX with| .seq _ (.block _ (.loop (.seq _ (.seq _ (.seq (.block _ (.seq (.region _ a _) _)) _)))))=>a|_=> #[]
 |3=>match qX with| .seq _ (.block _ (.loop (.seq _ (.seq _ (.seq (.block _ (.seq _ (.region _ a _))) _)))))=>a|_=> #[]
 |_=>match qX with| .seq _ (.block _ (.loop (.seq _ (.seq _ (.seq _ (.region _ a _))))))=>a|_=> #[]
noncomputable def IC:Code:= .seq (.region 1 (sH 1) aG) (.seq (.cond (.tmp 12) .skip (.exit 0)) (.seq (.block 1 (.seq (.region 2 (sH 2) aG) (.region 3 (sH 3) aG))) (.region 4 (sH 4) aG)))
def Uf:qX= .seq (.region 0 (sH 0) aG) (.block 0 (.loop IC)):=rfl
abbrev tN (tm:zA)(todo:zI):zC:=(base 233).at ⟨tm,[]⟩ todo
section
variable {Sh:zP}{B n:Nat}{Stop:zU}{w:zW}{cs:zL}{tm:zA}{k:zI}{ops:zQ}{i:Nat}{rest:List Nat}{o:Oper}
def n3 (v){d:Nat}(a:ops[i]? =aA o)(c:o.guard=aB)(f:o.dst=aA d)(h:∀w,(aEd (Act.eval ⟨tm,[]⟩) o).run Tryz.prog w= .ok (.value v) w)(e:∀w,(aEd (Act.eval ⟨tm,[]⟩) o).events Tryz.prog w #[]= #[])(b:eX Tryz.prog Sh B Stop n (G (tN (tm.setIfInBounds d v) (aN ops rest::k)) cs) w):
  eX Tryz.prog Sh B Stop (n+1) (G (tN tm (aN ops (i::rest)::k)) cs) w:=by
 refine mY v a (by unfold Region.wanted;rw[c]) (by simp[base]) h e ?_;have:(Act.mk tm []).put o.dst v=⟨tm.setIfInBounds d v,[]⟩:=by rw[f];rfl
 rw[this];exact b
def SP {f:zN}{args:zA}(c:ops[i]? =aA o)(e:o.guard=aB)(h:∀w,(aEd (Act.eval ⟨tm,[]⟩) o).run Tryz.prog w= .ok (.enter f args) w)(g:∀w,(aEd (Act.eval ⟨tm,[]⟩) o).events Tryz.prog w #[]= #[])(d:eX Tryz.prog Sh B Stop n (G (Frame.enter Tryz.prog f args .normal) (tN tm (aN ops (i::rest)::k)::cs)) w):
  eX Tryz.prog Sh B Stop (n+1) (G (tN tm (aN ops (i::rest)::k)) cs) w:=
 aY rfl (λw=>by rw[stepG_enter (b:=base 233) (a:=⟨tm,[]⟩) c (by unfold Region.wanted;rw[e]) (by simp[base]) (h w),listed_none (g w)]) d
def t3 (tm:zA)(A Bv:zY):zA:=((tm.setIfInBounds 6 Bv).setIfInBounds 7 A).setIfInBounds 8 (.func (.func 236) #[A] #[])
noncomputable abbrev Hn:Code:= .block 0 (.loop IC)
def Jp {A Bv}(h:18<=tm.size):(t3 tm A Bv).getD 6 aEn=Bv/\(t3 tm A Bv).getD 8 aEn= .func (.func 236) #[A] #[]/\18<=(t3 tm A Bv).size:=by
 unfold t3;refine⟨?_,?_,by simpa using h⟩
 .rw[Go.Proofs.bP (by decide),Go.Proofs.bP (by decide),Go.Proofs.aW (by omega)]
 .rw[Go.Proofs.aW (by simp;omega)]
def mx {A Bv}(d:tm.getD 0 aEn=A)(c:tm.getD 1 aEn=Bv)(a:18<=tm.size)
  (b:∀w₁,Go.Conc.AtRel w w₁->Stop (G (Frame.enter Tryz.prog 240 #[Bv,.func (.func 236) #[A] #[]] .normal) (tN (t3 tm A Bv) [aN (sH 0) [3,4,5],.code Hn]::cs)) w₁):
  ∃n,eX Tryz.prog Sh B Stop n (G (tN tm [.code qX]) cs) w:=by
 refine⟨6,?_⟩;rw[Uf];refine aY rfl (λ_=>zGm) ?_;refine aY rfl (λ_=>zGq) ?_;refine n3 Bv rfl rfl rfl (λw=>by show Result.ok (aEo (tm.getD 1 aEn)) w=_;rw[c]) (λw=>rfl) ?_;have g:(tm.setIfInBounds 6 Bv).getD 0 aEn=A:=by rw[Go.Proofs.bP (by decide)];exact d
 refine n3 A rfl rfl rfl (λw=>by show Result.ok (aEo ((tm.setIfInBounds 6 Bv).getD 0 aEn)) w=_;rw[g]) (λw=>rfl) ?_;have f:((tm.setIfInBounds 6 Bv).setIfInBounds 7 A).getD 7 aEn=A:=Go.Proofs.aW (by simp;omega);refine n3 (.func (.func 236) #[A] #[]) rfl rfl rfl (λw=>by
  have e:(#[.tmp 7]:Array Operand).map (Act.eval ⟨(tm.setIfInBounds 6 Bv).setIfInBounds 7 A,[]⟩)= #[((tm.setIfInBounds 6 Bv).setIfInBounds 7 A).getD 7 aEn]:=by simp[Act.eval]
  show Result.ok (aEo (.func (.func 236) ((#[.tmp 7]:Array Operand).map (Act.eval ⟨(tm.setIfInBounds 6 Bv).setIfInBounds 7 A,[]⟩)) ((#[]:Array Operand).map _))) w=_;rw[e,f];simp) (λw=>rfl) ?_
 obtain⟨g6,j,_⟩:=Jp a;have h:(#[.tmp 6,.tmp 8]:Array Operand).map (Act.eval ⟨t3 tm A Bv,[]⟩)= #[Bv,.func (.func 236) #[A] #[]]:=by have:(#[.tmp 6,.tmp 8]:Array Operand).map (Act.eval ⟨t3 tm A Bv,[]⟩)= #[(t3 tm A Bv).getD 6 aEn,(t3 tm A Bv).getD 8 aEn]:=by{simp[Act.eval]};rw[this,g6,j]
 refine SP (tm:=t3 tm A Bv) (o:={dst:=aA 9,op:= .call {callee:= .value (.func 240),args:= #[.tmp 6,.tmp 8],argTypes:= #[166,284]},type:=287,pos:= "work.go:24",after:= #[{on:=0,ground:= .data},{on:=2,ground:= .data}],guard:=aB}) rfl rfl (λw=> ?_) (λw=> ?_) (λw₁ r=>b w₁ r)
 .have e:aEd (Act.eval ⟨t3 tm A Bv,[]⟩) {dst:=aA 9,op:= .call {callee:= .value (.func 240),args:= #[.tmp 6,.tmp 8],argTypes:= #[166,284]},type:=287,pos:= "work.go:24",after:= #[{on:=0,ground:= .data},{on:=2,ground:= .data}],guard:=aB}=callFunc 240 (#[]++(#[.tmp 6,.tmp 8]:Array Operand).map (Act.eval ⟨t3 tm A Bv,[]⟩)++ #[]):=rfl;rw[e,h];have:=jN (Q:=Tryz.prog) func240 (by kernel_rfl) rfl #[Bv,.func (.func 236) #[A] #[]] w #[];rw[<-Sem.runT_fst Tryz.prog _ _ #[]];simp only[zCe,zCq];rw[this]
 .have e:aEd (Act.eval ⟨t3 tm A Bv,[]⟩) {dst:=aA 9,op:= .call {callee:= .value (.func 240),args:= #[.tmp 6,.tmp 8],argTypes:= #[166,284]},type:=287,pos:= "work.go:24",after:= #[{on:=0,ground:= .data},{on:=2,ground:= .data}],guard:=aB}=callFunc 240 (#[]++(#[.tmp 6,.tmp 8]:Array Operand).map (Act.eval ⟨t3 tm A Bv,[]⟩)++ #[]):=rfl;rw[e,h];have:=jN (Q:=Tryz.prog) func240 (by kernel_rfl) rfl #[Bv,.func (.func 236) #[A] #[]] w #[];simp only[zCe,zCq];show((callFunc 240 #[Bv,.func (.func 236) #[A] #[]]).runT Tryz.prog w #[]).2=_;rw[this]
end
structure T9 (tm:zA)(bo N i:Nat):Prop where
 sz:18<=tm.size
 g9:tm.getD 9 aEn= .slice (aA ⟨bo,0,aB⟩) N N
 g10:tm.getD 10 aEn= .int aD N
 g11:tm.getD 11 aEn= .int aD i
def T9.put {tm:zA}{bo N i d:Nat}(h:T9 tm bo N i)(v:zY)(c:d≠9)(b:d≠10)(a:d≠11):T9 (tm.setIfInBounds d v) bo N i:=
 ⟨by simpa using h.sz,by rw[Go.Proofs.bP c];exact h.g9,by rw[Go.Proofs.bP b];exact h.g10,by rw[Go.Proofs.bP a];exact h.g11⟩
noncomputable abbrev K3:zI:=[.inLoop IC,.inBlock 0]
noncomputable abbrev K4:zI:=[.inBlock 1,.code (.region 4 (sH 4) aG),.inLoop IC,.inBlock 0]
section
variable {Sh:zP}{B n:Nat}{Stop:zU}{w:zW}{cs:zL}{tm:zA}{bo N i:Nat}
def Sr {k ops i rest}{o:Oper}(v){d:Nat}(f:ops[i]? =aA o)(j:o.guard=aB)(m:o.dst=aA d)(c:∀d,(aEd (Act.eval ⟨tm,[]⟩) o).run Tryz.prog (w.at d)= .ok (.value v) (w.at d))(l:∀d,∀e∈(aEd (Act.eval ⟨tm,[]⟩) o).events Tryz.prog (w.at d) #[],EvC Sh B e)(g:eX Tryz.prog Sh B Stop n (G (tN (tm.setIfInBounds d v) (aN ops rest::k)) cs) w):
  eX Tryz.prog Sh B Stop (n+1) (G (tN tm (aN ops (i::rest)::k)) cs) w:=by
 refine aI ⟨rfl,λb ⟨a,e⟩=> ?_⟩;subst e;have:(Act.mk tm []).put o.dst v=⟨tm.setIfInBounds d v,[]⟩:=by rw[m];rfl
 rw[stepG_value f (by unfold Region.wanted;rw[j]) (by simp[base]) (c a),goes_go,this];exact⟨λe h=>l a e (zHc h),eX.rely g ⟨a,rfl⟩⟩
def fp {A Bv}(c:18<=tm.size)(f:N<2147483647)(d:∀tm' w₁,Go.Conc.AtRel w w₁->T9 tm' bo N 0->Stop (G (tN tm' (.code IC::K3)) cs) w₁):
  ∃n,eX Tryz.prog Sh B Stop n (G ((tN (t3 tm A Bv) [aN (sH 0) [3,4,5],.code Hn]).finish (.slice (aA ⟨bo,0,aB⟩) N N)) cs) w:=by
 refine⟨5,?_⟩;obtain⟨_,_,a⟩:=Jp c;show eX Tryz.prog Sh B Stop 5 (G (tN ((t3 tm A Bv).setIfInBounds 9 (.slice (aA ⟨bo,0,aB⟩) N N)) [aN (sH 0) [4,5],.code Hn]) cs) w;generalize t3 tm A Bv=tm at a;have g9:(tm.setIfInBounds 9 (.slice (aA ⟨bo,0,aB⟩) N N)).getD 9 aEn= .slice (aA ⟨bo,0,aB⟩) N N:=Go.Proofs.aW (by omega);have b:18<=(tm.setIfInBounds 9 (.slice (aA ⟨bo,0,aB⟩) N N)).size:=by simpa using a
 generalize tm.setIfInBounds 9 (.slice (aA ⟨bo,0,aB⟩) N N)=tm at g9 b;have h:(#[.tmp 9]:Array Operand).map (Act.eval ⟨tm,[]⟩)= #[.slice (aA ⟨bo,0,aB⟩) N N]:=by have:(#[.tmp 9]:Array Operand).map (Act.eval ⟨tm,[]⟩)= #[tm.getD 9 aEn]:=by{simp[Act.eval]};rw[this,g9]
 have e:aEd (Act.eval ⟨tm,[]⟩) {dst:=aA 10,op:= .call {callee:= .builtin .len,args:= #[.tmp 9],argTypes:= #[287]},type:=3,pos:= "work.go:24",after:= #[{on:=3,ground:= .data}],guard:=aB}=builtin .len #[287] 3 #[aG] #[.slice (aA ⟨bo,0,aB⟩) N N]:=by show builtin .len #[287] 3 ((#[.tmp 9]:Array Operand).map λ| .const _=>aF|_=>aG) ((#[.tmp 9]:Array Operand).map (Act.eval ⟨tm,[]⟩))=_;rw[h];rfl
 refine n3 (.int aD N) (o:={dst:=aA 10,op:= .call {callee:= .builtin .len,args:= #[.tmp 9],argTypes:= #[287]},type:=3,pos:= "work.go:24",after:= #[{on:=3,ground:= .data}],guard:=aB}) rfl rfl rfl (λw=>by rw[e];go_simp) (λw=>by rw[e];simp[go_sem]) ?_;refine n3 (.int aD 0) rfl rfl rfl (λw=>rfl) (λw=>rfl) ?_;refine aY rfl (λ_=>zGl) ?_;refine aY rfl (λ_=>zHb) ?_;refine aY rfl (λ_=>stepG_loop) ?_;refineλw₁ r=>d _ w₁ r ⟨by simpa using b,?_,?_,?_⟩
 .rw[Go.Proofs.bP (by decide),Go.Proofs.bP (by decide)];exact g9
 .rw[Go.Proofs.bP (by decide),Go.Proofs.aW (by omega)]
 .exact Go.Proofs.aW (by simp;omega)
def fz (h:T9 tm bo N i)(hi:i<N)(D:N<2147483647){q l cp}(z:w.cell? ⟨bo,i,aB⟩=aA (.slice q l cp))(m:¬Sh bo)(A:bo<B)
  (x:∀tm' w₁,Go.Conc.AtRel w w₁->T9 tm' bo N i->Stop (G (Frame.enter Tryz.prog 235 #[.slice q l cp] .normal) (tN tm' (aN (sH 3) [1]::K4)::cs)) w₁):
  ∃n,eX Tryz.prog Sh B Stop n (G (tN tm (.code IC::K3)) cs) w:=by
 refine⟨18,?_⟩;have j:(i:Int)<N:=by omega
 have y:¬((i:Int)<0):=by omega
 refine aY rfl (λ_=>zGm) ?_;refine aY rfl (λ_=>zGq) ?_;refine n3 (.bool aF) (o:={dst:=aA 12,op:= .binOp .lss 3 (.tmp 11) (.tmp 10) 3,type:=0,pos:= "work.go:24",after:= #[],guard:=aB}) rfl rfl rfl (λw=>by simp only[aEd,Act.eval,h.g11,h.g10];go_simp) (λw=>by simp only[aEd,Act.eval,h.g11,h.g10];simp[go_sem]) ?_;refine aY rfl (λ_=>zGl) ?_;refine aY rfl (λ_=>zGm) ?_;have b:=h.put (d:=12) (.bool aF) (by decide) (by decide) (by decide);have g12:(tm.setIfInBounds 12 (.bool aF)).getD 12 aEn= .bool aF:=Go.Proofs.aW (by have:=h.sz;omega);generalize tm.setIfInBounds 12 (.bool aF)=tm at b g12;refine aY rfl (λ_=>stepG_cond g12) ?_;simp only[zCs];refine aY rfl (λ_=>zGs) ?_;refine aY rfl (λ_=>zGm) ?_;refine aY rfl (λ_=>zHb) ?_;refine aY rfl (λ_=>zGm) ?_;refine aY rfl (λ_=>zGq) ?_;have C:∀w₁,(Instr.indexAt 287 (.slice (aA ⟨bo,0,aB⟩) N N) (.int aD i)).events Tryz.prog w₁ #[]= #[]:=λw₁=>events_indexAt_slice 287 ⟨bo,0,aB⟩ N N aD i (by kernel_rfl) ⟨by omega,j⟩;refine n3 (.pointer (aA ⟨bo,i,aB⟩)) (o:={dst:=aA 13,op:= .indexAddr 287 (.tmp 9) (.tmp 11),type:=0,pos:= "work.go:24",after:= #[],guard:=aB}) rfl rfl rfl (λw=>by simp only[aEd,Act.eval,b.g9,b.g11];go_simp) (λw=>by simp only[aEd,Act.eval,b.g9,b.g11];simp[go_sem,C]) ?_;have t:=b.put (d:=13) (.pointer (aA ⟨bo,i,aB⟩)) (by decide) (by decide) (by decide);have g13:(tm.setIfInBounds 13 (.pointer (aA ⟨bo,i,aB⟩))).getD 13 aEn= .pointer (aA ⟨bo,i,aB⟩):=Go.Proofs.aW (by have:=b.sz;omega);generalize tm.setIfInBounds 13 (.pointer (aA ⟨bo,i,aB⟩))=tm at t g13;have g:∀d,(w.at d).cell? ⟨bo,i,aB⟩=aA (.slice q l cp):=λd=>z;refine Sr (d:=14) (.slice q l cp) (o:={dst:=aA 14,op:= .load 283 (.tmp 13),type:=283,pos:= "work.go:24",after:= #[{on:=0,ground:= .data}],guard:=aB}) rfl rfl rfl (λd=>by have u:=g d;simp only[aEd,Act.eval,g13];go_simp) (λd e k=>by have u:=g d;simp only[aEd,Act.eval,g13]at k;simp[go_sem,u]at k;subst k;exact gN m A) ?_
 have s:=t.put (d:=14) (.slice q l cp) (by decide) (by decide) (by decide);have g14:(tm.setIfInBounds 14 (.slice q l cp)).getD 14 aEn= .slice q l cp:=Go.Proofs.aW (by have:=t.sz;omega);generalize tm.setIfInBounds 14 (.slice q l cp)=tm at s g14;refine n3 (d:=5) (.slice q l cp) (o:={dst:=aA 5,op:= .assign (.tmp 14),type:=283,pos:= "work.go:24",after:= #[{on:=1,ground:= .data},{on:=0,ground:= .phase},{on:=1,ground:= .phase}],guard:=aB}) rfl rfl rfl (λw=>by show Result.ok (aEo (tm.getD 14 aEn)) w=_;rw[g14]) (λw=>rfl) ?_;have p:=s.put (d:=5) (.slice q l cp) (by decide) (by decide) (by decide);have g5:(tm.setIfInBounds 5 (.slice q l cp)).getD 5 aEn= .slice q l cp:=Go.Proofs.aW (by have:=s.sz;omega);generalize tm.setIfInBounds 5 (.slice q l cp)=tm at p g5;refine aY rfl (λ_=>zGl) ?_;refine aY rfl (λ_=>zGq) ?_;show eX Tryz.prog Sh B Stop 2 (G (tN tm (aN (sH 3) [0,1]::K4)) cs) w;refine n3 (d:=15) (.slice q l cp) (o:={dst:=aA 15,op:= .move (.tmp 5),type:=283,pos:= "work.go:25",after:= #[],guard:=aB}) rfl rfl rfl (λw=>by show Result.ok (aEo (tm.getD 5 aEn)) w=_;rw[g5]) (λw=>rfl) ?_;have v:=p.put (d:=15) (.slice q l cp) (by decide) (by decide) (by decide);have g15:(tm.setIfInBounds 15 (.slice q l cp)).getD 15 aEn= .slice q l cp:=Go.Proofs.aW (by have:=p.sz;omega);generalize tm.setIfInBounds 15 (.slice q l cp)=tm at v g15;have a:(#[.tmp 15]:Array Operand).map (Act.eval ⟨tm,[]⟩)= #[.slice q l cp]:=by have:(#[.tmp 15]:Array Operand).map (Act.eval ⟨tm,[]⟩)= #[tm.getD 15 aEn]:=by{simp[Act.eval]};rw[this,g15]
 have e:aEd (Act.eval ⟨tm,[]⟩) {dst:=aA 16,op:= .call {callee:= .value (.func 235),args:= #[.tmp 15],argTypes:= #[283]},type:=0,pos:= "work.go:25",after:= #[{on:=0,ground:= .data}],guard:=aB}=callFunc 235 #[.slice q l cp]:=by have:aEd (Act.eval ⟨tm,[]⟩) {dst:=aA 16,op:= .call {callee:= .value (.func 235),args:= #[.tmp 15],argTypes:= #[283]},type:=0,pos:= "work.go:25",after:= #[{on:=0,ground:= .data}],guard:=aB}=callFunc 235 (#[]++(#[.tmp 15]:Array Operand).map (Act.eval ⟨tm,[]⟩)++ #[]):=rfl;rw[this,a];simp
 have c:=λw=>jN (Q:=Tryz.prog) func235 (by kernel_rfl) rfl #[.slice q l cp] w #[];refine SP (f:=235) (args:= #[.slice q l cp]) (o:={dst:=aA 16,op:= .call {callee:= .value (.func 235),args:= #[.tmp 15],argTypes:= #[283]},type:=0,pos:= "work.go:25",after:= #[{on:=0,ground:= .data}],guard:=aB}) rfl rfl (λw=> ?_) (λw=> ?_) (λw₁ r=>x _ w₁ r v)
 .rw[e,<-Sem.runT_fst Tryz.prog _ _ #[],c]
 .rw[e];show((callFunc 235 #[.slice q l cp]).runT Tryz.prog w #[]).2=_;rw[c]
def bw (h:T9 tm bo N i)(hi:i<N)(f:N<2147483647){x}(c:∀tm' w₁,Go.Conc.AtRel w w₁->T9 tm' bo N (i+1)->Stop (G (tN tm' (.code IC::K3)) cs) w₁):
  ∃n,eX Tryz.prog Sh B Stop n (G ((tN tm (aN (sH 3) [1]::K4)).finish x) cs) w:=by
 refine⟨7,?_⟩;have e:(i:Int)<N:=by omega
 have wl:IntKind.i64.wrap ((i:Int)+1)=(i:Int)+1:=by rw[zGt];omega
 show eX Tryz.prog Sh B Stop 7 (G (tN (tm.setIfInBounds 16 x) (aN (sH 3) []::K4)) cs) w;have b:=h.put (d:=16) x (by decide) (by decide) (by decide);generalize tm.setIfInBounds 16 x=tm at b;refine aY rfl (λ_=>zGl) ?_;refine aY rfl (λ_=>stepG_inBlock) ?_;refine aY rfl (λ_=>zGq) ?_;refine n3 (.int aD ((i+1:Nat):Int)) (o:={dst:=aA 17,op:= .binOp .add 3 (.tmp 11) (.const (.int aD 1)) 3,type:=3,pos:= "work.go:24",after:= #[],guard:=aB}) rfl rfl rfl (λw=>by simp only[aEd,Act.eval,b.g11];go_simp;try exact wl) (λw=>by simp only[aEd,Act.eval,b.g11];simp[go_sem]) ?_;have a:=b.put (d:=17) (.int aD ((i+1:Nat):Int)) (by decide) (by decide) (by decide);have g17:(tm.setIfInBounds 17 (.int aD ((i+1:Nat):Int))).getD 17 aEn= .int aD ((i+1:Nat):Int):=Go.Proofs.aW (by have:=b.sz;omega);generalize tm.setIfInBounds 17 (.int aD ((i+1:Nat):Int))=tm at a g17;refine n3 (.int aD ((i+1:Nat):Int)) rfl rfl rfl (λw=>by show Result.ok (aEo (tm.getD 17 aEn)) w=_;rw[g17]) (λw=>rfl) ?_;refine aY rfl (λ_=>zGl) ?_;refine aY rfl (λ_=>stepG_inLoop) ?_;refineλw₁ r=>c _ w₁ r ⟨by simpa using a.sz,?_,?_,?_⟩
 .rw[Go.Proofs.bP (by decide)];exact a.g9
 .rw[Go.Proofs.bP (by decide)];exact a.g10
 .exact Go.Proofs.aW (by have:=a.sz;omega)
def mo {c w}:stepG Tryz.prog aF (G {tN tm []with mode:= .returning} (c::cs)) w= .go (G (c.finish (.tuple #[])) cs) w #[]:=by
 have a:results f233 tm=pure (.tuple #[]):=by have h:f233.results= #[]:=rfl;unfold results;rw[h];simp
 show unwind Tryz.prog aF ⟨233,tm,[],[],.returning,.normal,aB⟩ (c::cs) aB w=_;unfold unwind;dsimp only;rw[func233];dsimp only;rw[a];show aEC (seen Tryz.prog 233 #[]) (.go _ w)=_;have:seen Tryz.prog 233 #[]= #[]:=by unfold seen;simp
 rw[this];rfl
def sy (h:T9 tm bo N N){c}(a:∀w₁,Go.Conc.AtRel w w₁->Stop (G (c.finish (.tuple #[])) cs) w₁):
  ∃n,eX Tryz.prog Sh B Stop n (G (tN tm (.code IC::K3)) (c::cs)) w:=by
 refine⟨9,?_⟩;refine aY rfl (λ_=>zGm) ?_;refine aY rfl (λ_=>zGq) ?_;refine n3 (.bool aG) (o:={dst:=aA 12,op:= .binOp .lss 3 (.tmp 11) (.tmp 10) 3,type:=0,pos:= "work.go:24",after:= #[],guard:=aB}) rfl rfl rfl (λw=>by simp only[aEd,Act.eval,h.g11,h.g10];go_simp) (λw=>by simp only[aEd,Act.eval,h.g11,h.g10];simp[go_sem]) ?_;refine aY rfl (λ_=>zGl) ?_;refine aY rfl (λ_=>zGm) ?_;have g12:(tm.setIfInBounds 12 (.bool aG)).getD 12 aEn= .bool aG:=Go.Proofs.aW (by have:=h.sz;omega);generalize tm.setIfInBounds 12 (.bool aG)=tm at g12;refine aY rfl (λ_=>stepG_cond g12) ?_;simp only[zBe,zDe];refine aY rfl (λ_=>stepG_exit rfl) ?_;refine aY rfl (λ_=>stepG_end) ?_;exact aY rfl (λ_=>mo) λw₁ r=>a w₁ r
end
noncomputable def US:Code:=f235.body.getD .skip
noncomputable def XK:Nat->zQ
 |0=>match US with| .seq (.region _ a _) _=>a|_=> #[]
 |1=>match US with| .seq _ (.block _ (.loop (.seq (.region _ a _) _)))=>a|_=> #[]
 |2=>match US with| .seq _ (.block _ (.loop (.seq _ (.seq _ (.seq (.block _ (.seq (.region _ a _) _)) _)))))=>a|_=> #[]
 |3=>match US with| .seq _ (.block _ (.loop (.seq _ (.seq _ (.seq (.block _ (.seq _ (.region _ a _))) _)))))=>a|_=> #[]
 |_=>match US with| .seq _ (.block _ (.loop (.seq _ (.seq _ (.seq _ (.region _ a _))))))=>a|_=> #[]
noncomputable def PE:Code:= .seq (.region 1 (XK 1) aG) (.seq (.cond (.tmp 7) .skip (.exit 0)) (.seq (.block 1 (.seq (.region 2 (XK 2) aG) (.region 3 (XK 3) aG))) (.region 4 (XK 4) aG)))
def Ue:US= .seq (.region 0 (XK 0) aG) (.block 0 (.loop PE)):=rfl
abbrev Bq (tm:zA)(todo:zI):zC:=(base 235).at ⟨tm,[]⟩ todo
def Nq (x):Frame.enter Tryz.prog 235 #[x] .normal=Bq #[x,aEn,aEn,aEn,aEn,aEn,aEn,aEn,aEn,aEn,aEn,aEn,aEn,aEn,aEn,aEn,aEn] [.code US]:=by
 rw[enter_at (c:=US) #[x] func235 rfl];have e:(#[x]:zA)++aD5 (f235.ntmps-1) aEn= #[x,aEn,aEn,aEn,aEn,aEn,aEn,aEn,aEn,aEn,aEn,aEn,aEn,aEn,aEn,aEn,aEn]:=by simp[f235,zEo]
 simp only[zAp,zAf,zAl,Nat.reduceAdd,zBd];rw[e]
section
variable {Sh:zP}{B n:Nat}{Stop:zU}{w:zW}{cs:zL}{tm:zA}{f:zN}{k:zI}{ops:zQ}{i:Nat}{rest:List Nat}{o:Oper}
def SX (v)(w'){d:Nat}(g:ops[i]? =aA o)(p:o.guard=aB)(s:o.dst=aA d)(c:∀d,(aEd (Act.eval ⟨tm,[]⟩) o).run Tryz.prog (w.at d)= .ok (.value v) (w'.at d))(r:∀d,∀e∈(aEd (Act.eval ⟨tm,[]⟩) o).events Tryz.prog (w.at d) #[],EvC Sh B e)(m:eX Tryz.prog Sh B Stop n (G ((base f).at ⟨tm.setIfInBounds d v,[]⟩ (aN ops rest::k)) cs) w'):
  eX Tryz.prog Sh B Stop (n+1) (G ((base f).at ⟨tm,[]⟩ (aN ops (i::rest)::k)) cs) w:=by
 refine aI ⟨rfl,λb ⟨a,e⟩=> ?_⟩;subst e;have:(Act.mk tm []).put o.dst v=⟨tm.setIfInBounds d v,[]⟩:=by rw[s];rfl
 rw[stepG_value g (by unfold Region.wanted;rw[p]) (by simp[base]) (c a),goes_go,this];exact⟨λe h=>r a e (zHc h),eX.rely m ⟨a,rfl⟩⟩
def Lw (w')(g:ops[i]? =aA o)(p:o.guard=aB)(s:o.dst=aB)(c:∀d,(aEd (Act.eval ⟨tm,[]⟩) o).run Tryz.prog (w.at d)= .ok .skip (w'.at d))(r:∀d,∀e∈(aEd (Act.eval ⟨tm,[]⟩) o).events Tryz.prog (w.at d) #[],EvC Sh B e)(m:eX Tryz.prog Sh B Stop n (G ((base f).at ⟨tm,[]⟩ (aN ops rest::k)) cs) w'):
  eX Tryz.prog Sh B Stop (n+1) (G ((base f).at ⟨tm,[]⟩ (aN ops (i::rest)::k)) cs) w:=by
 refine aI ⟨rfl,λb ⟨a,e⟩=> ?_⟩;subst e;have:(Act.mk tm []).put o.dst aEn=⟨tm,[]⟩:=by rw[s];rfl
 rw[stepG_none g (by unfold Region.wanted;rw[p]) (by simp[base]) (c a),goes_go,this];exact⟨λe h=>r a e (zHc h),eX.rely m ⟨a,rfl⟩⟩
def mA (v:zY){d:Nat}(b:ops[i]? =aA o)(g:o.guard=aB)(p:o.dst=aA d)(a:∀w,(aEd (Act.eval ⟨tm,[]⟩) o).run Tryz.prog w= .ok (.value v) w)(m:∀w,(aEd (Act.eval ⟨tm,[]⟩) o).events Tryz.prog w #[]= #[])(c:eX Tryz.prog Sh B Stop n (G ((base f).at ⟨tm.setIfInBounds d v,[]⟩ (aN ops rest::k)) cs) w):
  eX Tryz.prog Sh B Stop (n+1) (G ((base f).at ⟨tm,[]⟩ (aN ops (i::rest)::k)) cs) w:=
 SX v w b g p (λd=>a _) (λd e h=>by rw[m]at h;simp at h) c
end
structure T5 (tm:zA)(q:zO)(l cp j:Nat):Prop where
 sz:tm.size=17
 g4:tm.getD 4 aEn= .slice q l cp
 g5:tm.getD 5 aEn= .int aD l
 g6:tm.getD 6 aEn= .int aD j
def T5.put {tm:zA}{q:zO}{l cp j d:Nat}(h:T5 tm q l cp j)(v:zY)(c:d≠4)(b:d≠5)(a:d≠6):T5 (tm.setIfInBounds d v) q l cp j:=
 ⟨by simpa using h.sz,by rw[Go.Proofs.bP c];exact h.g4,by rw[Go.Proofs.bP b];exact h.g5,by rw[Go.Proofs.bP a];exact h.g6⟩
noncomputable abbrev K5:zI:=[.inLoop PE,.inBlock 0]
section
variable {Sh:zP}{B n:Nat}{Stop:zU}{w:zW}{cs:zL}{tm:zA}{q:zO}{l cp j:Nat}
def fo (hl:l<=1000000)(a:∀tm' w₁,Go.Conc.AtRel w w₁->T5 tm' q l cp 0->Stop (G (Bq tm' (.code PE::K5)) cs) w₁):
  ∃n,eX Tryz.prog Sh B Stop n (G (Frame.enter Tryz.prog 235 #[.slice q l cp] .normal) cs) w:=by
 refine⟨8,?_⟩;rw[Nq,Ue];refine aY rfl (λ_=>zGm) ?_;refine aY rfl (λ_=>zGq) ?_;refine mA (.slice q l cp) rfl rfl rfl (λw=>rfl) (λw=>rfl) ?_;have e:∀tm:zA,tm.getD 4 aEn= .slice q l cp->aEd (Act.eval ⟨tm,[]⟩) {dst:=aA 5,op:= .call {callee:= .builtin .len,args:= #[.tmp 4],argTypes:= #[283]},type:=3,pos:= "work.go:30",after:= #[{on:=0,ground:= .data}],guard:=aB}=builtin .len #[283] 3 #[aG] #[.slice q l cp]:=λtm b=>by
  have h:(#[.tmp 4]:Array Operand).map (Act.eval ⟨tm,[]⟩)= #[.slice q l cp]:=by have:(#[.tmp 4]:Array Operand).map (Act.eval ⟨tm,[]⟩)= #[tm.getD 4 aEn]:=by{simp[Act.eval]};rw[this,b]
  show builtin .len #[283] 3 ((#[.tmp 4]:Array Operand).map λ| .const _=>aF|_=>aG) ((#[.tmp 4]:Array Operand).map (Act.eval ⟨tm,[]⟩))=_;rw[h];rfl
 refine mA (.int aD l) (o:={dst:=aA 5,op:= .call {callee:= .builtin .len,args:= #[.tmp 4],argTypes:= #[283]},type:=3,pos:= "work.go:30",after:= #[{on:=0,ground:= .data}],guard:=aB}) rfl rfl rfl (λw=>by rw[e _ rfl];go_simp) (λw=>by rw[e _ rfl];simp[go_sem]) ?_;refine mA (.int aD 0) rfl rfl rfl (λw=>rfl) (λw=>rfl) ?_;refine aY rfl (λ_=>zGl) ?_;refine aY rfl (λ_=>zHb) ?_;refine aY rfl (λ_=>stepG_loop) ?_;refineλw₁ r=>a _ w₁ r ⟨?_,?_,?_,?_⟩
 .rfl
 .rfl
 .rfl
 .rfl
def LR {P w a v x es e}(b:w.cell? a=aA x)(h:e∈(store a (.string v)).events P w es):e∈es\/e=⟨.cell a,aF,aG⟩:=by
 rw[events_store P w es a _ .plain rfl]at h;simp only[storedEv,b]at h;split at h
 .exact aH h
 .obtain h|h:=Array.mem_push.1 h
  .exact aH h
  .exact aI h
def Yn {P w a v x es e}(b:w.cell? a=aA x)(h:e∈(store a (.pointer v)).events P w es):e∈es\/e=⟨.cell a,aF,aG⟩:=by
 rw[events_store P w es a _ .plain rfl]at h;simp only[storedEv,b]at h;split at h
 .exact aH h
 .obtain h|h:=Array.mem_push.1 h
  .exact aH h
  .exact aI h
def El (w:zW)(c:Nat)(s:ByteArray):zW:=((((w.alloc (aJ #[.pointer aB,.string ⟨#[]⟩] 292)).setCell ⟨w.heap.size,0,aB⟩ (.pointer (aA ⟨c,0,aB⟩))).setCell ⟨w.heap.size,1,aB⟩ (.string s)).setCell ⟨c,4,aB⟩ (.string s))
def ib {g m c s E}(h:T5 tm (aA ⟨g,m,aB⟩) l cp j)(hj:j<l)(hl:l<=1000000)(p:w.cell? ⟨g,m+j*2,aB⟩=aA (.pointer (aA ⟨c,0,aB⟩)))(k1:w.cell? ⟨g,m+j*2+1,aB⟩=aA (.string s))(hc:w.heap[c]? =aA (aJ E 272 (0,0)))(hcz:E.size=6)
  (M:¬Sh g) (T:¬Sh c) (z:¬Sh w.heap.size) (hgl:g<w.heap.size) (O:w.heap.size<B)
  (hn:∀tm' w₁,Go.Conc.AtRel (El w c s) w₁->T5 tm' (aA ⟨g,m,aB⟩) l cp (j+1)->Stop (G (Bq tm' (.code PE::K5)) cs) w₁):
  ∃n,eX Tryz.prog Sh B Stop n (G (Bq tm (.code PE::K5)) cs) w:=by
 refine⟨31,?_⟩;have Q:=(zAa.1 hc).1;have P:(j:Int)<l:=by omega
 have Mo:¬((j:Int)<0):=by omega
 have wl:IntKind.i64.wrap ((j:Int)+1)=(j:Int)+1:=by rw[zGt];omega
 refine aY rfl (λ_=>zGm) ?_;refine aY rfl (λ_=>zGq) ?_;refine mA (.bool aF) (o:={dst:=aA 7,op:= .binOp .lss 3 (.tmp 6) (.tmp 5) 3,type:=0,pos:= "work.go:30",after:= #[],guard:=aB}) rfl rfl rfl (λw=>by simp only[aEd,Act.eval,h.g5,h.g6];go_simp) (λw=>by simp only[aEd,Act.eval,h.g5,h.g6];simp[go_sem]) ?_;refine aY rfl (λ_=>zGl) ?_;refine aY rfl (λ_=>zGm) ?_;have C:=h.put (d:=7) (.bool aF) (by decide) (by decide) (by decide);have g7:(tm.setIfInBounds 7 (.bool aF)).getD 7 aEn= .bool aF:=Go.Proofs.aW (by have:=h.sz;omega);generalize tm.setIfInBounds 7 (.bool aF)=tm at C g7;refine aY rfl (λ_=>stepG_cond g7) ?_;simp only[zCs];refine aY rfl (λ_=>zGs) ?_;refine aY rfl (λ_=>zGm) ?_;refine aY rfl (λ_=>zHb) ?_;refine aY rfl (λ_=>zGm) ?_;refine aY rfl (λ_=>zGq) ?_;have e2:∀w₁,(Instr.indexAt 283 (.slice (aA ⟨g,m,aB⟩) l cp) (.int aD j)).events Tryz.prog w₁ #[]= #[]:=λw₁=>events_indexAt_slice 283 ⟨g,m,aB⟩ l cp aD j (by kernel_rfl) ⟨by omega,P⟩;refine mA (d:=8) (.pointer (aA ⟨g,m+j*2,aB⟩)) (o:={dst:=aA 8,op:= .indexAddr 283 (.tmp 4) (.tmp 6),type:=0,pos:= "work.go:30",after:= #[],guard:=aB}) rfl rfl rfl (λw=>by simp only[aEd,Act.eval,C.g4,C.g6];go_simp) (λw=>by simp only[aEd,Act.eval,C.g4,C.g6];simp[go_sem,e2]) ?_;have h2:=C.put (d:=8) (.pointer (aA ⟨g,m+j*2,aB⟩)) (by decide) (by decide) (by decide);have g8:(tm.setIfInBounds 8 (.pointer (aA ⟨g,m+j*2,aB⟩))).getD 8 aEn= .pointer (aA ⟨g,m+j*2,aB⟩):=Go.Proofs.aW (by have:=C.sz;omega);generalize tm.setIfInBounds 8 (.pointer (aA ⟨g,m+j*2,aB⟩))=tm at h2 g8;refine SX (d:=9) (.agg #[.pointer (aA ⟨c,0,aB⟩),.string s]) w (o:={dst:=aA 9,op:= .load 292 (.tmp 8),type:=292,pos:= "work.go:30",after:= #[{on:=0,ground:= .data}],guard:=aB}) rfl rfl rfl (λd=>by have H:(w.at d).cell? ⟨g,m+j*2,aB⟩=aA (.pointer (aA ⟨c,0,aB⟩)):=p;have F:(w.at d).cell? ⟨g,m+j*2+1,aB⟩=aA (.string s):=k1;simp only[aEd,Act.eval,g8];go_simp) (λd e b=> ?_) ?_
 .have H:(w.at d).cell? ⟨g,m+j*2,aB⟩=aA (.pointer (aA ⟨c,0,aB⟩)):=p;have F:(w.at d).cell? ⟨g,m+j*2+1,aB⟩=aA (.string s):=k1;simp only[aEd,Act.eval,g8]at b;simp[go_sem,H,F]at b;obtain rfl|rfl:=b
  .exact gN M (show g<B by omega)
  .exact gN M (show g<B by omega)
 have h3:=h2.put (d:=9) (.agg #[.pointer (aA ⟨c,0,aB⟩),.string s]) (by decide) (by decide) (by decide);have g9:(tm.setIfInBounds 9 (.agg #[.pointer (aA ⟨c,0,aB⟩),.string s])).getD 9 aEn= .agg #[.pointer (aA ⟨c,0,aB⟩),.string s]:=Go.Proofs.aW (by have:=h2.sz;omega);generalize tm.setIfInBounds 9 (.agg #[.pointer (aA ⟨c,0,aB⟩),.string s])=tm at h3 g9;refine SX (d:=3) (.pointer (aA ⟨w.heap.size,0,aB⟩)) (w.alloc (aJ #[.pointer aB,.string ⟨#[]⟩] 292)) (o:={dst:=aA 3,op:= .alloc 292,type:=0,pos:= "work.go:30",after:= #[],guard:=aB}) rfl rfl rfl (λd=>by simp only[aEd];go_simp;exact⟨rfl,rfl⟩) (λd e b=>by simp[go_sem]at b) ?_;have Z:=h3.put (d:=3) (.pointer (aA ⟨w.heap.size,0,aB⟩)) (by decide) (by decide) (by decide);have t:(tm.setIfInBounds 3 (.pointer (aA ⟨w.heap.size,0,aB⟩))).getD 3 aEn= .pointer (aA ⟨w.heap.size,0,aB⟩):=Go.Proofs.aW (by have:=h3.sz;omega);have D:(tm.setIfInBounds 3 (.pointer (aA ⟨w.heap.size,0,aB⟩))).getD 9 aEn= .agg #[.pointer (aA ⟨c,0,aB⟩),.string s]:=by rw[Go.Proofs.bP (by decide)];exact g9
 generalize tm.setIfInBounds 3 (.pointer (aA ⟨w.heap.size,0,aB⟩))=tm at Z t D;have A:=pZ w (aJ #[.pointer aB,.string ⟨#[]⟩] 292);have S:=(alloc_old w (aJ #[.pointer aB,.string ⟨#[]⟩] 292) Q).trans hc;have J:w.heap.size≠c:=by omega
 unfold El at hn;generalize w.alloc (aJ #[.pointer aB,.string ⟨#[]⟩] 292)=w1 at*;generalize w.heap.size=x at*;refine Lw ((w1.setCell ⟨x,0,aB⟩ (.pointer (aA ⟨c,0,aB⟩))).setCell ⟨x,1,aB⟩ (.string s)) (o:={dst:=aB,op:= .store 292 (.tmp 3) (.tmp 9),type:=0,pos:= "work.go:30",after:= #[{on:=2,ground:= .data},{on:=1,ground:= .data},{on:=0,ground:= .phase},{on:=1,ground:= .phase},{on:=2,ground:= .phase}],guard:=aB}) rfl rfl rfl (λd=>by
  have a:(w1.at d).heap[x]? =aA (aJ #[.pointer aB,.string ⟨#[]⟩] 292 (0,0)):=A;have p:=bC a 0;have k1:=cR a 0;have K:=cY a 0 (.pointer (aA ⟨c,0,aB⟩));have k2:=bC K 1;have k3:=cR K 1;simp only[aEd,Act.eval,t,D];go_simp;rfl) (λd e b=>by
  have a:(w1.at d).heap[x]? =aA (aJ #[.pointer aB,.string ⟨#[]⟩] 292 (0,0)):=A;have p:=bC a 0;have k1:=cR a 0;have k2:=bC a 1;have k3:=cR a 1;simp only[aEd,Act.eval,t,D]at b;simp[go_sem,p,k1,k2,k3]at b;obtain b|rfl:=LR (bC (cY a 0 _) 1) b
  .obtain b|rfl:=Yn (bC a 0) b
   .simp at b
   .exact gN z O
  .exact gN z O) ?_
 have v:((w1.setCell ⟨x,0,aB⟩ (.pointer (aA ⟨c,0,aB⟩))).setCell ⟨x,1,aB⟩ (.string s)).heap[x]? =aA (aJ #[.pointer (aA ⟨c,0,aB⟩),.string s] 292 (0,0)):=cY (cY A 0 _) 1 _;have L:((w1.setCell ⟨x,0,aB⟩ (.pointer (aA ⟨c,0,aB⟩))).setCell ⟨x,1,aB⟩ (.string s)).heap[c]? =aA (aJ E 272 (0,0)):=(cE _ _ (zDj J)).trans ((cE _ _ (zDj J)).trans S);generalize(w1.setCell ⟨x,0,aB⟩ (.pointer (aA ⟨c,0,aB⟩))).setCell ⟨x,1,aB⟩ (.string s)=w2 at*;refine aY rfl (λ_=>zGl) ?_;refine aY rfl (λ_=>zGq) ?_;show eX Tryz.prog Sh B Stop 14 (G (Bq tm (aN (XK 3) [0,1,2,3,4,5,6]::_)) cs) w2;refine mA (d:=10) (.pointer (aA ⟨x,0,aB⟩)) (o:={dst:=aA 10,op:= .fieldAddr 292 (.tmp 3) 0,type:=0,pos:= "work.go:31",after:= #[],guard:=aB}) rfl rfl rfl (λw=>by simp only[aEd,Act.eval,t];go_simp) (λw=>by simp only[aEd,Act.eval,t];simp[go_sem]) ?_;have Y:=Z.put (d:=10) (.pointer (aA ⟨x,0,aB⟩)) (by decide) (by decide) (by decide);have g10:(tm.setIfInBounds 10 (.pointer (aA ⟨x,0,aB⟩))).getD 10 aEn= .pointer (aA ⟨x,0,aB⟩):=Go.Proofs.aW (by have:=Z.sz;omega);replace t:=(Go.Proofs.bP (tm:=tm) (x:= .pointer (aA ⟨x,0,aB⟩)) (show 10≠3 by decide)).trans t;generalize tm.setIfInBounds 10 (.pointer (aA ⟨x,0,aB⟩))=tm at Y g10 t;refine SX (d:=11) (.pointer (aA ⟨c,0,aB⟩)) w2 (o:={dst:=aA 11,op:= .load 264 (.tmp 10),type:=264,pos:= "work.go:31",after:= #[{on:=0,ground:= .data}],guard:=aB}) rfl rfl rfl (λd=>by
  have p:=bC (w:=w2.at d) v 0;simp only[aEd,Act.eval,g10];go_simp) (λd e b=>by
  have p:=bC (w:=w2.at d) v 0;simp only[aEd,Act.eval,g10]at b;simp[go_sem,p]at b;subst b;exact gN z O) ?_
 have X:=Y.put (d:=11) (.pointer (aA ⟨c,0,aB⟩)) (by decide) (by decide) (by decide);have g11:(tm.setIfInBounds 11 (.pointer (aA ⟨c,0,aB⟩))).getD 11 aEn= .pointer (aA ⟨c,0,aB⟩):=Go.Proofs.aW (by have:=Y.sz;omega);replace t:=(Go.Proofs.bP (tm:=tm) (x:= .pointer (aA ⟨c,0,aB⟩)) (show 11≠3 by decide)).trans t;generalize tm.setIfInBounds 11 (.pointer (aA ⟨c,0,aB⟩))=tm at X g11 t;refine mA (d:=12) (.pointer (aA ⟨x,1,aB⟩)) (o:={dst:=aA 12,op:= .fieldAddr 292 (.tmp 3) 1,type:=0,pos:= "work.go:31",after:= #[],guard:=aB}) rfl rfl rfl (λw=>by simp only[aEd,Act.eval,t];go_simp) (λw=>by simp only[aEd,Act.eval,t];simp[go_sem]) ?_;have W:=X.put (d:=12) (.pointer (aA ⟨x,1,aB⟩)) (by decide) (by decide) (by decide);have g12:(tm.setIfInBounds 12 (.pointer (aA ⟨x,1,aB⟩))).getD 12 aEn= .pointer (aA ⟨x,1,aB⟩):=Go.Proofs.aW (by have:=X.sz;omega);replace g11:=(Go.Proofs.bP (tm:=tm) (x:= .pointer (aA ⟨x,1,aB⟩)) (show 12≠11 by decide)).trans g11;generalize tm.setIfInBounds 12 (.pointer (aA ⟨x,1,aB⟩))=tm at W g12 g11;refine SX (d:=13) (.string s) w2 (o:={dst:=aA 13,op:= .load 9 (.tmp 12),type:=9,pos:= "work.go:31",after:= #[{on:=2,ground:= .data}],guard:=aB}) rfl rfl rfl (λd=>by
  have p:=bC (w:=w2.at d) v 1;simp only[aEd,Act.eval,g12];go_simp) (λd e b=>by
  have p:=bC (w:=w2.at d) v 1;simp only[aEd,Act.eval,g12]at b;simp[go_sem,p]at b;subst b;exact gN z O) ?_
 have V:=W.put (d:=13) (.string s) (by decide) (by decide) (by decide);have g13:(tm.setIfInBounds 13 (.string s)).getD 13 aEn= .string s:=Go.Proofs.aW (by have:=W.sz;omega);replace g11:=(Go.Proofs.bP (tm:=tm) (x:= .string s) (show 13≠11 by decide)).trans g11;generalize tm.setIfInBounds 13 (.string s)=tm at V g13 g11;refine mA (d:=14) (.pointer (aA ⟨c,0,aB⟩)) (o:={dst:=aA 14,op:= .nilCheck (.tmp 11),type:=0,pos:= "work.go:31",after:= #[{on:=1,ground:= .data},{on:=0,ground:= .phase},{on:=1,ground:= .phase},{on:=2,ground:= .phase},{on:=3,ground:= .phase}],guard:=aB}) rfl rfl rfl (λw=>by simp only[aEd,Act.eval,g11];go_simp) (λw=>by simp only[aEd,Act.eval,g11];simp[go_sem]) ?_;have U:=V.put (d:=14) (.pointer (aA ⟨c,0,aB⟩)) (by decide) (by decide) (by decide);have g14:(tm.setIfInBounds 14 (.pointer (aA ⟨c,0,aB⟩))).getD 14 aEn= .pointer (aA ⟨c,0,aB⟩):=Go.Proofs.aW (by have:=V.sz;omega);replace g13:=(Go.Proofs.bP (tm:=tm) (x:= .pointer (aA ⟨c,0,aB⟩)) (show 14≠13 by decide)).trans g13;generalize tm.setIfInBounds 14 (.pointer (aA ⟨c,0,aB⟩))=tm at U g14 g13;refine mA (d:=15) (.pointer (aA ⟨c,4,aB⟩)) (o:={dst:=aA 15,op:= .fieldAddr 272 (.tmp 14) 4,type:=0,pos:= "work.go:31",after:= #[{on:=4,ground:= .data},{on:=0,ground:= .phase},{on:=1,ground:= .phase},{on:=2,ground:= .phase},{on:=3,ground:= .phase}],guard:=aB}) rfl rfl rfl (λw=>by simp only[aEd,Act.eval,g14];go_simp) (λw=>by simp only[aEd,Act.eval,g14];simp[go_sem]) ?_;have N:=U.put (d:=15) (.pointer (aA ⟨c,4,aB⟩)) (by decide) (by decide) (by decide);have g15:(tm.setIfInBounds 15 (.pointer (aA ⟨c,4,aB⟩))).getD 15 aEn= .pointer (aA ⟨c,4,aB⟩):=Go.Proofs.aW (by have:=U.sz;omega);replace g13:=(Go.Proofs.bP (tm:=tm) (x:= .pointer (aA ⟨c,4,aB⟩)) (show 15≠13 by decide)).trans g13;generalize tm.setIfInBounds 15 (.pointer (aA ⟨c,4,aB⟩))=tm at N g15 g13;have R:∃y,E[4]? =aA y:=⟨_,zAj (by omega)⟩;obtain⟨y4,I⟩:=R;refine Lw (w2.setCell ⟨c,4,aB⟩ (.string s)) (o:={dst:=aB,op:= .store 9 (.tmp 15) (.tmp 13),type:=0,pos:= "work.go:31",after:= #[{on:=5,ground:= .data},{on:=3,ground:= .data},{on:=0,ground:= .phase},{on:=1,ground:= .phase},{on:=2,ground:= .phase},{on:=3,ground:= .phase}],guard:=aB}) rfl rfl rfl (λd=>by
  have a:(w2.at d).heap[c]? =aA (aJ E 272 (0,0)):=L;have p:=(bC a 4).trans I;have k1:=cR a 4;simp only[aEd,Act.eval,g15,g13];go_simp;rfl) (λd e b=>by
  have a:(w2.at d).heap[c]? =aA (aJ E 272 (0,0)):=L;have p:=(bC a 4).trans I;have k1:=cR a 4;simp only[aEd,Act.eval,g15,g13]at b;simp[go_sem,p,k1]at b;obtain b|rfl:=LR p b;{simp at b}
  .exact gN T (show c<B by omega)) ?_
 refine aY rfl (λ_=>zGl) ?_;refine aY rfl (λ_=>stepG_inBlock) ?_;refine aY rfl (λ_=>zGq) ?_;show eX Tryz.prog Sh B Stop 4 (G (Bq tm (aN (XK 4) [0,1]::K5)) cs) (w2.setCell ⟨c,4,aB⟩ (.string s));refine mA (d:=16) (.int aD ((j+1:Nat):Int)) (o:={dst:=aA 16,op:= .binOp .add 3 (.tmp 6) (.const (.int aD 1)) 3,type:=3,pos:= "work.go:30",after:= #[],guard:=aB}) rfl rfl rfl (λw=>by simp only[aEd,Act.eval,N.g6];go_simp;try exact wl) (λw=>by simp only[aEd,Act.eval,N.g6];simp[go_sem]) ?_;have u:=N.put (d:=16) (.int aD ((j+1:Nat):Int)) (by decide) (by decide) (by decide);have g16:(tm.setIfInBounds 16 (.int aD ((j+1:Nat):Int))).getD 16 aEn= .int aD ((j+1:Nat):Int):=Go.Proofs.aW (by have:=N.sz;omega);generalize tm.setIfInBounds 16 (.int aD ((j+1:Nat):Int))=tm at u g16;refine mA (d:=6) (.int aD ((j+1:Nat):Int)) (o:={dst:=aA 6,op:= .move (.tmp 16),type:=3,pos:= "work.go:30",after:= #[{on:=0,ground:= .data}],guard:=aB}) rfl rfl rfl (λw=>by show Result.ok (aEo (tm.getD 16 aEn)) w=_;rw[g16]) (λw=>rfl) ?_;refine aY rfl (λ_=>zGl) ?_;refine aY rfl (λ_=>stepG_inLoop) ?_;refineλw₁ r=>hn _ w₁ r ⟨by simpa using u.sz,?_,?_,?_⟩
 .rw[Go.Proofs.bP (by decide)];exact u.g4
 .rw[Go.Proofs.bP (by decide)];exact u.g5
 .exact Go.Proofs.aW (by have:=u.sz;omega)
def ml {c w}:stepG Tryz.prog aF (G {Bq tm []with mode:= .returning} (c::cs)) w= .go (G (c.finish (.tuple #[])) cs) w #[]:=by
 have a:results f235 tm=pure (.tuple #[]):=by have h:f235.results= #[]:=rfl;unfold results;rw[h];simp
 show unwind Tryz.prog aF ⟨235,tm,[],[],.returning,.normal,aB⟩ (c::cs) aB w=_;unfold unwind;dsimp only;rw[func235];dsimp only;rw[a];show aEC (seen Tryz.prog 235 #[]) (.go _ w)=_;have:seen Tryz.prog 235 #[]= #[]:=by unfold seen;simp
 rw[this];rfl
def sx (h:T5 tm q l cp l){c}(a:∀w₁,Go.Conc.AtRel w w₁->Stop (G (c.finish (.tuple #[])) cs) w₁):
  ∃n,eX Tryz.prog Sh B Stop n (G (Bq tm (.code PE::K5)) (c::cs)) w:=by
 refine⟨9,?_⟩;refine aY rfl (λ_=>zGm) ?_;refine aY rfl (λ_=>zGq) ?_;refine mA (.bool aG) (o:={dst:=aA 7,op:= .binOp .lss 3 (.tmp 6) (.tmp 5) 3,type:=0,pos:= "work.go:30",after:= #[],guard:=aB}) rfl rfl rfl (λw=>by simp only[aEd,Act.eval,h.g5,h.g6];go_simp) (λw=>by simp only[aEd,Act.eval,h.g5,h.g6];simp[go_sem]) ?_;refine aY rfl (λ_=>zGl) ?_;refine aY rfl (λ_=>zGm) ?_;have g:(tm.setIfInBounds 7 (.bool aG)).getD 7 aEn= .bool aG:=Go.Proofs.aW (by have:=h.sz;omega);generalize tm.setIfInBounds 7 (.bool aG)=tm at g;refine aY rfl (λ_=>stepG_cond g) ?_;simp only[zBe,zDe];refine aY rfl (λ_=>stepG_exit rfl) ?_;refine aY rfl (λ_=>stepG_end) ?_;exact aY rfl (λ_=>ml) λw₁ r=>a w₁ r
end
structure tA (Sh:zP)(gs:zG)(w:zW)(t:Trace)(q:Nat->Nat)(g:zH):Prop where
 td:gs[0]? =aA g
 lv:Leavers Tryz.prog t gs q
 calm:Calm Sh w.heap.size t
 IU:∀b,Sh b->b<w.heap.size
def Comes (Sh:zP)(gs:zG)(w:zW)(sl:Option (Nat×Nat))(t:Trace)(S:zU):Prop:=
 ∃N a b s d f e,runNT Tryz.prog N (crowd gs w sl) t=(.next (crowd a b s),d)/\a.size=gs.size/\tA Sh a b d f e/\S e b
section
variable {Sh:zP}{gs:zG}{w:zW}{sl:Option (Nat×Nat)}{t:Trace}{q:Nat->Nat}{g:zH}{S S':zU}
def Comes.bind (h:Comes Sh gs w sl t S)(k:∀gs' w' a b f d,tA Sh gs' w' b f d->S d w'->Comes Sh gs' w' a b S'):Comes Sh gs w sl t S':=by obtain⟨N,gs',w',a,b,f,d,r,z,st,s⟩:=h;obtain⟨n,i,w2,e,t2,j,m,r2,z2,st2,s2⟩:=k gs' w' a b f d st s;exact⟨N+n,i,w2,e,t2,j,m,by rw[runNT_add,r];exact r2,z2.trans z,st2,s2⟩
def iD {B}(h:tA Sh gs w t q g)(p:w.heap.size<=B)(a:∃n,eX Tryz.prog Sh B (λu w'=>S u w'/\w'.heap.size=B) n g w):Comes Sh gs w sl t S:=by obtain⟨n,a⟩:=a;obtain⟨N,e,v,w',s,f,i,r,z,g0,⟨j,k⟩,m,o⟩:=tJ n g w gs sl t q a h.td h.lv (h.calm.mono p);exact⟨N,e,w',s,f,i,v,r,z,⟨g0,m,by rw[k];exact o,λb d=>by have:=h.IU b d;omega⟩,j⟩
end
def XF (w)(c)(s):dW [(c,s)] w (El w c s)/\(El w c s).heap.size=w.heap.size+1:=by
 have h:(El w c s).heap.size=w.heap.size+1:=by unfold El;rw[dY,dY,dY,eP]
 refine⟨⟨by omega,λb a=> ?_,rfl,rfl,rfl⟩,h⟩;show(oB _ (c,s)).heap[b]? =(oB w (c,s)).heap[b]?;refine EU ?_;rw[cE _ _ (show b≠w.heap.size by omega),cE _ _ (show b≠w.heap.size by omega),alloc_old _ _ a]
def dW.at' {rows w w' w₁}(h:dW rows w w')(r:Go.Conc.AtRel w' w₁):dW rows w w₁:=by obtain⟨d,rfl⟩:=r;exact⟨h.size,h.heap,h.os,h.tape,h.output⟩
section
variable {Sh:zP}{rows:List (Nat×ByteArray)}{qa:zO}{l cp:Nat}{w0:zW}{c:zC}{cs:zL}
structure Wr (Sh:zP)(rows:List (Nat×ByteArray))(qa:zO)(l:Nat)(w:zW):Prop where
 at':fJ rows qa l w
 PN:rows.length<=1000000
 cell:∀p∈rows,¬Sh p.1/\∃cs,w.heap[p.1]? =aA (aJ cs 272 (0,0))/\cs.size=6
 off:rows≠[]->∀a,qa=aA a->¬Sh a.block/\a.block<w.heap.size/\∀p∈rows,a.block≠p.1
def CV (n:Wr Sh rows qa l w0):∀(k j:Nat),j+k=rows.length->∀(y:zA)(gs:zG)(w:zW)(sl:Option (Nat×Nat))(t:Trace)(q:Nat->Nat),T5 y qa l cp j->dW (rows.take j) w0 w->tA Sh gs w t q (G (Bq y (.code PE::K5)) (c::cs))->
  Comes Sh gs w sl t λH x=>H=G (c.finish (.tuple #[])) cs/\dW rows w0 x
 |0,j,hk,y,gs,w,sl,t,q,P,a,m=>by have e:j=l:=by{rw[n.at'.1];omega};subst e;have e2:rows.take j=rows:=zCx (by omega);rw[e2]at a;exact iD m (zAb _) (sx P λv r=>⟨⟨rfl,a.at' r⟩,by obtain⟨d,rfl⟩:=r;rfl⟩)
 |k+1,j,hk,y,gs,w,sl,t,q,P,a,m=>by have u:j<rows.length:=by{omega};have T:rows≠[]:=λe=>by{rw[e]at u;simp at u};obtain⟨g,W,e,Y⟩:=n.at'.2 T;obtain⟨E,o,A⟩:=n.off T _ e;have O:T5 y (aA ⟨g,W,aB⟩) l cp j:=by{rw[<-e];exact P};dsimp only at E o A;obtain⟨X,k1⟩:=Y j rows[j] (zAi u);have z:rows[j]∈rows:=zDo u;obtain⟨Q,f⟩:=n.cell _ z;have K:w.heap[g]? =w0.heap[g]? :=(a.heap g o).trans (gO _ λp Z=>zDj (A p (zEm Z)));have C:∀i,w.cell? ⟨g,i,aB⟩=w0.cell? ⟨g,i,aB⟩:=λi=>by{simp only[World.cell?];rw[K]};have L:rows[j].1<w0.heap.size:=by{obtain⟨cs,F,_⟩:=f;exact(zAa.1 F).1};obtain⟨cc,D,M⟩:=lO (rows.take j) f;rw[<-a.heap _ L]at D;have F:=XF w rows[j].1 rows[j].2;refine Comes.bind (S:=λH x=>∃b,H=G (Bq b (.code PE::K5)) (c::cs)/\T5 b qa l cp (j+1)/\dW (rows.take (j+1)) w0 x) (iD m (B:=w.heap.size+1) (by omega) (ib O (by rw[n.at'.1];exact u) (by rw[n.at'.1];exact n.PN) ((C _).trans X) ((C _).trans k1) D M E Q (λh=>zDy _ (m.IU _ h)) (zAd o a.size) (by omega) λb v r s=>⟨⟨b,rfl,by rw[e];exact s,?_⟩,by obtain⟨d,rfl⟩:=r;exact F.2⟩)) ?_;{rw[List.take_succ,zAi u];exact(a.trans F.1).at' r};{rintro R x I U V H Qd ⟨b,rfl,s,J⟩;exact CV n k (j+1) (by omega) b R x I U V s J Qd}
def Cy {gs sl t q}(i:Wr Sh rows qa l w0)(f:tA Sh gs w0 t q (G (Frame.enter Tryz.prog 235 #[.slice qa l cp] .normal) (c::cs))):
  Comes Sh gs w0 sl t λe b=>e=G (c.finish (.tuple #[])) cs/\dW rows w0 b:=by
 refine Comes.bind (S:=λe b=>∃a,e=G (Bq a (.code PE::K5)) (c::cs)/\T5 a qa l cp 0/\dW (rows.take 0) w0 b) (iD f (zAb _) (fo (by rw[i.at'.1];exact i.PN) λa m r p=>⟨⟨a,rfl,p,(dW.nil).at' r⟩,by obtain⟨d,rfl⟩:=r;rfl⟩)) ?_;rintro k b s n o e Qd ⟨a,rfl,j,h⟩;exact CV i rows.length 0 (by omega) a k b s n o j h Qd
end
section
variable {Sh:zP}{Kh:Nat->List (Nat×ByteArray)}{bo N:Nat}{w0:zW}{c:zC}{cs:zL}{sv:Nat->zO×Nat×Nat}
structure Ls (Sh:zP)(Kh:Nat->List (Nat×ByteArray))(bo N:Nat)(sv:Nat->zO×Nat×Nat)(w:zW):Prop where
 lt:N<2147483647
 out:∀i,i<N->w.cell? ⟨bo,i,aB⟩=aA (.slice (sv i).1 (sv i).2.1 (sv i).2.2)
 one:∀i,i<N->Wr Sh (Kh i) (sv i).1 (sv i).2.1 w
 bol:¬Sh bo/\bo<w.heap.size
 apart:∀i,i<N->∀p∈Kh i,bo≠p.1/\∀j,j<N->∀a,(sv j).1=aA a->Kh j≠[]->a.block≠p.1
def FF (n:Ls Sh Kh bo N sv w0):∀(k i:Nat),i+k=N->∀(F:zA)(gs:zG)(w:zW)(sl:Option (Nat×Nat))(t:Trace)(q:Nat->Nat),T9 F bo N i->dW (allRows Kh i) w0 w->tA Sh gs w t q (G (tN F (.code IC::K3)) (c::cs))->
  Comes Sh gs w sl t λE y=>E=G (c.finish (.tuple #[])) cs/\dW (allRows Kh N) w0 y
 |0,i,hk,F,gs,w,sl,t,q,O,m,u=>by have e:i=N:=by{omega};subst e;exact iD u (zAb _) (sy O λs r=>⟨⟨rfl,m.at' r⟩,by obtain⟨d,rfl⟩:=r;rfl⟩)
 |k+1,i,hk,F,gs,w,sl,t,q,O,m,u=>by
  have hi:i<N:=by omega
  have f:=n.one i hi;have X:w.heap[bo]? =w0.heap[bo]? :=(m.heap bo n.bol.2).trans (gO _ λp o=>by obtain⟨j,V,o⟩:=gE o;exact zDj (n.apart j (by omega) p o).1)
  have W:w.cell? ⟨bo,i,aB⟩=aA (.slice (sv i).1 (sv i).2.1 (sv i).2.2):=by rw[<-n.out i hi];simp only[World.cell?];rw[X]
  refine Comes.bind (S:=λE y=>∃b,E=G (Frame.enter Tryz.prog 235 #[.slice (sv i).1 (sv i).2.1 (sv i).2.2] .normal) (tN b (aN (sH 3) [1]::K4)::c::cs)/\T9 b bo N i/\dW (allRows Kh i) w0 y) (iD u (zAb _) (fz O hi n.lt W n.bol.1 (zAd n.bol.2 m.size) λb s r v=>⟨⟨b,rfl,v,m.at' r⟩,by obtain⟨d,rfl⟩:=r;rfl⟩)) ?_;rintro Tn w1 T t1 q1 g1 st1 ⟨tm1,rfl,M,h⟩;have K:Wr Sh (Kh i) (sv i).1 (sv i).2.1 w1:=by
   refine⟨?_,f.PN,λp o=> ?_,λD a H=> ?_⟩
   .by_cases D:Kh i=[]
    .have:=f.at'.1;exact⟨this,λx=>absurd D x⟩
    .refine f.at'.keep λa H=> ?_;have C:=f.off D a H;refine(h.heap _ C.2.1).trans (gO _ λp o=> ?_);obtain⟨j,V,o⟩:=gE o;exact zDj ((n.apart j (by omega) p o).2 i hi a H D)
   .obtain⟨Z,cs,Q,Y⟩:=f.cell p o;refine⟨Z,?_⟩;rw[h.heap _ (zAa.1 Q).1];exact lO _ ⟨cs,Q,Y⟩
   .have C:=f.off D a H;exact⟨C.1,zAd C.2.1 h.size,C.2.2⟩
  refine Comes.bind (Cy K st1) ?_;rintro gh w2 R t2 q2 g2 st2 ⟨rfl,B⟩;have A:=h.trans B;refine Comes.bind (S:=λE y=>∃b,E=G (tN b (.code IC::K3)) (c::cs)/\T9 b bo N (i+1)/\dW (allRows Kh (i+1)) w0 y) (iD st2 (zAb _) (bw M hi n.lt λb s r v=>⟨⟨b,rfl,v,A.at' r⟩,by obtain⟨d,rfl⟩:=r;rfl⟩)) ?_;rintro P w3 J t3 U g3 I ⟨Qu,rfl,L,z⟩;exact FF n k (i+1) (by omega) Qu P w3 J t3 U L z I
end
end Go.Ga
