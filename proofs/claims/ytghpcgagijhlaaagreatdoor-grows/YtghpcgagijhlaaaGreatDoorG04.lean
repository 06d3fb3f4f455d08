import Derived.Conc.CompanyDraw
import Derived.Conc.TokenWalk
import Derived.Laws.MakeOwn
import Derived.Conc.AppendWalk
import Derived.Test.YtghpcgagijhlaaaGreatDoorG03
set_option linter.all false
set_option maxRecDepth 100000
set_option maxHeartbeats 16000000
open Option renaming some->aA,none->aB
open Bool renaming true->aF,false->aG
open Or renaming inl->aH,inr->aI
open Go.Ending renaming returned->aM
open Go.Item renaming inRegion->aN
open Go.Obj renaming cells->aJ
open Go.IntKind renaming i64->aD,u32->aP,u64->aR
open And renaming intro->Gy
open Array renaming replicate->Bt
open Classical renaming choose->DJ
open Go renaming execOp->vr,undef->ij
open Go.Deferred renaming ofValue->Gi
open Go.GStep renaming after->Ms
open Go.IntKind renaming wrap_u64->OK,wrap_i32->OJ
open Go.MemOp renaming ofEvents->Ed
open Option.some renaming injEq->Cz,inj->Mt
open Go.Proofs.Tryz
open List renaming length->zAH,toArray->zAL
open Array renaming setIfInBounds->zAI,toList->zAM
open Go.World renaming setCell->zAJ,alloc->zAK
open Go.Proofs.Tryz renaming prog->zAN
section
variable {P:Prop}
def I3(h:P:=by go_simp):=h
def I7(h:P:=by simp only[KK];exact bm):=h
def J0(h:P:=by simp[Act.eval]):=h
def J8(h:P:=by have:=(h.wC b a).2;exact bm):=h
def J9(h:P:=by simp[go_sem]at k):=h
def P7(h:P:=by rw[kS];exact bm):=h
def P9(h:P:=by rw[dW];exact let⟨tr,x⟩:=l;⟨tr,x.rely r⟩):=h
def Q0(h:P:=by simpa [KK]using this):=h
def R3(h:P:=by simp[Act.eval,stA]):=h
def R5(h:P:=by simp[Act.eval,smA]):=h
def Z5(h:P:=by simp[vr,resolve,Gi,invoke,callFunc,func185,f185,go_sem]):=h
def Z6(h:P:=by simp[vr,resolve,Gi,invoke,callFunc,func181,f181,go_sem]):=h
def j8(h:P:=by simp[base]):=h
def l7(h:P:=by u_skip r hF;u_skip r hF;u_op r hF;u_c Ag r hF;u_cnd aF r hF;u_c Eu r hF;refine Goes.stop (λe h=> ?_);replace hF:=r hF h;clear h;refine⟨rfl,_,stepG_unwind_entry (v:= .tuple #[]) (evs:= #[mk .enable]) rfl H.f_enable (x_enable_n L) (x_enable_b L) (x_enable_x L) (x_enable_f L) (by simp[Extern.Race.none_]) (by simp[mk]) (by simp[mk]),mT+1,?_⟩;u_leave0 H.f_add r hF;exact n _ hF):=h
def mv(h:P:=by go_simp<;>(try w_num)<;>rfl):=h
def p9(h:P:=by k_ne):=h
def s4(h:P:=by simp[go_sem, *]):=h
def vi(h:P:=by simp[baseD]):=h
def z6(h:P:=by simp[mx]at L⊢;exact bm):=h
end
noncomputable section
namespace Go.Ren
open Go.Conc
section
variable {P:zZ}{mn:Bool}{J:zW->Prop}{S:(zP)->(zP)->zU}{rs ws:zP}{g g':zH}{w:zW}
def bZ (a:g.status= .running)(h:∀w₁,stepG P mn g w₁= .go g' w₁ #[])(b:∃tr,dR P mn J S tr rs ws g' w):∃tr,dR P mn J S tr rs ws g w:=(dR.step a λw₁ r j=>⟨g',w₁,(#[]),(λw₁ _ _=>h w₁) w₁ r j,Does.refl ws w₁,λe c=>by rw[dW];exact ji,by rw[dW];exact let⟨tr,x⟩:=b;⟨tr,x.rely r⟩⟩)
def EK (h:∀w₁,cD rs ws w w₁->J w₁->S rs ws g w₁):∃tr,dR P mn J S tr rs ws g w:=⟨.leaf,h⟩
def Qo {b:zC}{a k cs id ops}(d:P.follows .mixedOrders=aF) (h:∀t,∃tr,dR P mn J S tr rs ws (G (b.at a (aN ops (Region.linearise.go .any ops ops.size t (Bt ops.size aG) [])::k)) cs) w):∃tr,dR P mn J S tr rs ws (G (b.at a (.code (.region id ops aF)::k)) cs) w:=by refine dR.step rfl λc r j=>⟨_,_,_,stepG_region_draw,⟨λ_ _ _=>rfl,je _,rfl,rfl,rfl⟩,j0,?_⟩;have e:grown ws c {c with drawn:=c.drawn+1}=ws:=by{funext b;exact propext ⟨λx=>x.elim (λz=>z) ji,aH⟩};rw[e];simp only[d,Cx];let⟨tr,x⟩:=h (c.tape c.drawn (.order b.fn id));exact⟨tr,x.rely ⟨λb f=>r.cY b f,r.size,r.tape,r.os,r.output⟩⟩
def Qn {b:zC}{a k cs ops fuel listed} (d:fuel=0\/Region.ready .any ops listed=[]->∃tr,dR P mn J S tr rs ws (G (b.at a (aN ops []::k)) cs) w) (c:∀i f t,fuel=f+1->i∈Region.ready .any ops listed->∃tr,dR P mn J S tr rs ws (G (b.at a (aN ops (i::Region.linearise.go .any ops f t (zAI listed i aF) [])::k)) cs) w) (t): ∃tr,dR P mn J S tr rs ws (G (b.at a (aN ops (Region.linearise.go .any ops fuel t listed [])::k)) cs) w:=by cases fuel with|zero=>exact d (aH rfl)|succ fuel=>simp only[Region.linearise.go];show∃tr,dR P mn J S tr rs ws (G (b.at a (aN ops (match(Region.ready .any ops listed)[t%(Region.ready .any ops listed).length]? with|some i=>Region.linearise.go .any ops fuel (t/zAH (Region.ready .any ops listed)) (zAI listed i aF) [i]|none=>[].reverse)::k)) cs) w;cases hi:(Region.ready .any ops listed)[t%(Region.ready .any ops listed).length]? with|none=>have h:Region.ready .any ops listed=[]:=by{cases e:Region.ready .any ops listed with|nil=>rfl|cons x xs=>grind[Nat.mod_lt]};exact ji|some i=>dsimp only;rw[linearise_go_acc,List.reverse_singleton,List.singleton_append];exact c i fuel _ rfl ji
def iK {b:zC}{a:Act}{k:zI}{cs:zL}{ops:zQ}{i:Nat}{rest:List Nat}{o:Oper}(v:zY)(f:ops[i]? =aA o)(c:Region.wanted o (yielded ops a.tmps)=aF)(hk:b.kind≠.early) (d:∀w₁,cD rs ws w w₁->J w₁->(vr a.eval o).run P w₁= .ok (.value v) w₁) (m:∀w₁,cD rs ws w w₁->J w₁->∀e∈(vr a.eval o).events P w₁ #[],Is rs ws e) (l:∃tr,dR P mn J S tr rs ws (G (b.at (a.put o.dst v) (aN ops rest::k)) cs) w):∃tr,dR P mn J S tr rs ws (G (b.at a (aN ops (i::rest)::k)) cs) w:=dR.step rfl λw₁ r j=>⟨_,w₁,_,stepG_value f c hk (d w₁ r j),Does.refl ws w₁,λe h=>by rw[dW];exact m w₁ r j e (Fi h),P9⟩
def MU {b:zC}{a:Act}{k:zI}{cs:zL}{ops:zQ}{i:Nat}{rest:List Nat}{o:Oper}{f:zN}{args:zA}(j:ops[i]? =aA o)(c:Region.wanted o (yielded ops a.tmps)=aF)(hk:b.kind≠.early) (d:∀w₁,(vr a.eval o).run P w₁= .ok (.enter f args) w₁) (m:∀w₁,(vr a.eval o).events P w₁ #[]= #[]) (l:∃tr,dR P mn J S tr rs ws (G (Frame.enter P f args .normal) (b.at a (aN ops (i::rest)::k)::cs)) w):∃tr,dR P mn J S tr rs ws (G (b.at a (aN ops (i::rest)::k)) cs) w:=dR.step rfl λw₁ r _=>⟨_,w₁,_,stepG_enter j c hk (d w₁),Does.refl ws w₁,λe h=>by have:=Fi h;exact ji,P9⟩
def dD {b}(h:rs b\/ws b){w₁}(r:cD rs ws w w₁)(i):w₁.cell? ⟨b,i,aB⟩=w.cell? ⟨b,i,aB⟩:=by simp only[World.cell?];rw[r.cY b h]
def RE {b:zC}{a:Act}{k:zI}{cs:zL}{ops:zQ}{i:Nat}{rest:List Nat}{o:Oper}(v:zW->zY)(W:zW->zW)(f:ops[i]? =aA o)(d:Region.wanted o (yielded ops a.tmps)=aF)(hk:b.kind≠.early) (h:∀w₁,cD rs ws w w₁->J w₁->(vr a.eval o).run P w₁= .ok (.value (v w₁)) (W w₁)/\Does ws w₁ (W w₁)/\(∀e∈(vr a.eval o).events P w₁ #[],Is rs (grown ws w₁ (W w₁)) e)/\ ∃tr,dR P mn J S tr rs (grown ws w₁ (W w₁)) (G (b.at (a.put o.dst (v w₁)) (aN ops rest::k)) cs) (W w₁)):∃tr,dR P mn J S tr rs ws (G (b.at a (aN ops (i::rest)::k)) cs) w:=dR.step rfl λw₁ r j=>let⟨h1,n,m,l⟩:=h w₁ r j;⟨_,W w₁,_,stepG_value f d hk h1,n,λe c=>m e (Fi c),l⟩
def MT {b:zC}{a:Act}{k:zI}{cs:zL}{ops:zQ}{i:Nat}{rest:List Nat}{o:Oper}(W:zW->zW)(f:ops[i]? =aA o)(d:Region.wanted o (yielded ops a.tmps)=aF)(hk:b.kind≠.early) (h:∀w₁,cD rs ws w w₁->J w₁->(vr a.eval o).run P w₁= .ok .skip (W w₁)/\Does ws w₁ (W w₁)/\(∀e∈(vr a.eval o).events P w₁ #[],Is rs (grown ws w₁ (W w₁)) e)/\ ∃tr,dR P mn J S tr rs (grown ws w₁ (W w₁)) (G (b.at (a.put o.dst ij) (aN ops rest::k)) cs) (W w₁)):∃tr,dR P mn J S tr rs ws (G (b.at a (aN ops (i::rest)::k)) cs) w:=dR.step rfl λw₁ r j=>let⟨h1,n,m,l⟩:=h w₁ r j;⟨_,W w₁,_,stepG_none f d hk h1,n,λe c=>m e (Fi c),l⟩
def MK (ws:zP)(w:zW){a:Addr}(v:zY)(h:ws a.block):Does ws w (zAJ w a v):= ⟨by grind[RowKit.Below.heap_setCell],j1,j1,n9,n9⟩
def sV (ws:zP)(w:zW)(o:Obj):Does ws w (zAK w o):= ⟨λb h _=>by show(w.heap.push o)[b]? =_;grind,by simp_all,rfl,rfl,rfl⟩
def dM {w:zW}{b c t fr}(h:w.heap[b]? =aA (aJ c t fr))(i)(v):(w.setCell ⟨b,i,aB⟩ v).heap[b]? =aA (aJ (c.setIfInBounds i v) t fr):=by simp only[zAJ];exact ji
def bG {w:zW}{b c t fr}(h:w.heap[b]? =aA (aJ c t fr))(i):w.cell? ⟨b,i,aB⟩=c[i]? :=by simp[World.cell?,h]
def eI {w:zW}{b c t}(h:w.heap[b]? =aA (aJ c t (0,0)))(i):w.frozen? ⟨b,i,aB⟩=aG:=by simp[World.frozen?,h]
def kS (w:zW)(o):(zAK w o).heap.size=w.heap.size+1:=j1
theorem alloc_old (w:zW)(o){b}(h:b<w.heap.size):(zAK w o).heap[b]? =w.heap[b]? :=by show(w.heap.push o)[b]? =_;exact ji
def sB (w:zW)(o):(zAK w o).heap[w.heap.size]? =aA o:=by show(w.heap.push o)[w.heap.size]? =_;exact ji
theorem cB (w:zW){a}(v){b}(h:b≠a.block):(zAJ w a v).heap[b]? =w.heap[b]? :=Go.RowKit.Below.heap_setCell w a v b h
theorem lP (w:zW)(a)(v):(zAJ w a v).heap.size=w.heap.size:=j1
def lE (ws)(w)(a)(v):grown ws w (zAJ w a v)=ws:=by funext b;apply propext;unfold grown;rw[lP];exact ji
def LZ (ws)(w)(a a')(v v'):grown ws w (zAJ (zAJ w a v) a' v')=ws:=by funext b;apply propext;unfold grown;grind[lP]
end
end Go.Ren
namespace Go.Ga
open Go.Conc Go.Ren Go.Proofs Go.RowKit Go.Conc.Lib
def rQ:zQ:=match f244.body with|some (.seq _ (.region _ ops _))=>ops|_=> #[]
structure aED (rs:zP)(w:zW)(b1 b2 b3 b4:Nat)(Cr:Nat)(at':Int)(fv wx:zY):Prop where
 r1:rs b1
 r2:rs b2
 r3:rs b3
 r4:rs b4
 c1:w.cell? b1=aA (.chan (aA Cr))
 c2:w.cell? b2=aA (.int aD at')
 c3:w.cell? b3=aA fv
 c4:w.cell? b4=aA wx
abbrev Af (c0:zY) (b1 b2 b3 b4:Nat) (ds:List Deferred) (k:zI) (cs:zL) (a5 d c b a9 a:zY) (rest:List Nat):zH:=G (Frame.at (baseD 244) (Act.mk #[c0,Value.pointer b1,Value.pointer b2,Value.pointer b3,Value.pointer b4,a5,d,c,b,a9,a] ds) (Item.inRegion rQ rest::k)) cs
section
variable {J:zW->Prop}{St:(zP)->(zP)->zU}{rs ws:zP}{w:zW}{ds:List Deferred}{k:zI}{cs:zL}{rest:List Nat}{c0 x5 x6 x7 x8 x9 x10:zY}{b1 b2 b3 b4 Cr:Nat}{at':Int}{fv p0:zY}
def w4 {f fn first cap}(b:Tryz.prog.funcs[f]? =aA fn)(h:¬fn.name= "runtime.NumGoroutine")(c:¬fn.body=aB) (e:∃tr,dR zAN aG J St tr rs ws (G (Frame.enter zAN f (first.push x8++cap) .normal) ((Af c0 b1 b2 b3 b4 ds k cs x5 x6 (.func (.func f) first cap) x8 x9 x10 (4::rest)).frame::cs)) w): ∃tr,dR zAN aG J St tr rs ws (Af c0 b1 b2 b3 b4 ds k cs x5 x6 (.func (.func f) first cap) x8 x9 x10 (4::rest)) w:=by have d:rQ[4]? =aA {dst:=aA 9,op:= .call ⟨.value (.tmp 7),#[.tmp 8],#[264]⟩,type:=283,pos:= "gather.go:27",after:= #[⟨2,.data⟩,⟨3,.data⟩],guard:=aB}:=rfl;refine MU d rfl vi (λa=> ?_) (λa=> ?_) e;{simp[callFunc,b,h,c,go_sem]};.simp[callFunc,b,h,c,go_sem]
def w5 {q l c}(b:∃tr,dR zAN aG J St tr rs ws (Af c0 b1 b2 b3 b4 ds k cs x5 (.int aD at') x7 x8 (.slice q l c) (.agg #[.int aD at',.slice q l c]) rest) w):∃tr,dR zAN aG J St tr rs ws (Af c0 b1 b2 b3 b4 ds k cs x5 (.int aD at') x7 x8 (.slice q l c) x10 (5::rest)) w:=by have h:rQ[5]? =aA {dst:=aA 10,op:= .build 297 #[(0,.tmp 6),(1,.tmp 9)],type:=297,pos:= "gather.go:27",after:= #[⟨1,.data⟩,⟨4,.data⟩],guard:=aB}:=rfl;refine iK _ h rfl vi (λa r _=> ?_) (λa r _ e d=> ?_) b;{have e:(Instr.build 297 #[(0,.int aD at'),(1,.slice q l c)]).run zAN a= .ok (.agg #[.int aD at',.slice q l c]) a:=run_build a 297 _ _ c9;simp[go_sem,e]};.have f:(Instr.build 297 #[(0,.int aD at'),(1,.slice q l c)]).events zAN a #[]= #[]:=c9;simp[go_sem,f]at d
def w6 {x}:stepG Tryz.prog aG (Af c0 b1 b2 b3 b4 ds k cs (.chan (aA Cr)) x6 x7 x8 x9 x (6::rest)) w= .comm (Af c0 b1 b2 b3 b4 ds k cs (.chan (aA Cr)) x6 x7 x8 x9 x (6::rest)) #[scase Cr x (.tuple #[])] aF .send w #[]:=by have h:rQ[6]? =aA {dst:=aB,op:= .send (.tmp 5) (.tmp 10),type:=0,pos:= "gather.go:27",after:= #[⟨0,.data⟩,⟨5,.data⟩,⟨4,.chain⟩],guard:=aB}:=rfl;have e:=stepG_comm (P:=Tryz.prog) (main:=aG) (b:=baseD 244) (a:=⟨#[c0,Value.pointer b1,Value.pointer b2,Value.pointer b3,Value.pointer b4,.chan (aA Cr),x6,x7,x8,x9,x],ds⟩) (k:=k) (cs:=cs) (rest:=rest) (w:=w) (cases:= #[scase Cr x (.tuple #[])]) (blocking:=aF) (shape:= .send) (w':=w) h rfl vi (by simp[scase,go_sem]);exact j5
end
end Go.Ga
namespace Go.Ren
open Go.Conc
section
variable {P:zZ}{mn:Bool}{J:zW->Prop}{S:(zP)->(zP)->zU}
theorem dR.keep:∀{tr:Tree}{rs ws:zP}{g:zH}{w:zW},(∀b,rs b->¬ws b/\b<w.heap.size)->dR P mn J S tr rs ws g w->dR P mn J (λl i o d=>l=rs/\(∀b,rs b->¬i b/\b<d.heap.size)/\(∀b,rs b->d.heap[b]? =w.heap[b]?)/\S l i o d) tr rs ws g w
 | .leaf,rs,ws,g,w,e,h=>λa r j=>⟨rfl,λb c=>⟨(e b c).1,Ao (e b c).2 r.size⟩,λb c=>r.cY b (aH c),h a r j⟩| .node ch,rs,ws,g,w,e,h=>⟨h.1,λa r j=>by let⟨o,d,t,s,n,q,p⟩:=h.2 a r j;refine⟨o,d,t,s,n,q,?_⟩;have m:∀b,rs b->¬grown ws a d b/\b<d.heap.size:=λb c=>by{have hlt:=Ao (e b c).2 r.size;exact⟨λx=>x.elim (e b c).1 bm,Ao hlt n.size⟩};have u:∀b,rs b->d.heap[b]? =w.heap[b]? :=λb c=>(n.keep b (Ao (e b c).2 r.size) (e b c).1).trans (r.cY b (aH c));exact(p.keep m).mono (by grind)⟩
end
end Go.Ren
namespace Go.Ga
open Go.Conc Go.Ren Go.Proofs Go.RowKit Go.Conc.Lib
def Works (J:zW->Prop)(rs:zP)(w:zW)(f:zN)(args:zA)(Rk:zO->Nat->Nat->(zP)->zW->Prop):Prop:= ∀(c:zC)(cs:zL)(d:zP),(∀b,rs b->¬d b/\b<w.heap.size)->∃tr,dR zAN aG J (λr a g w=>g.status= .running/\∃q l cp h,Rk q l cp a w/\stepG zAN aG g w= .go (G (c.finish (.slice q l cp)) cs) w h/\∀e∈h,Is r a e) tr rs d (G (Frame.enter zAN f args .normal) (c::cs)) w
theorem zGl (e d c b a l):(Region.ready .any rQ #[e,d,c,b,a,l,aG]).isEmpty=aG:=by cases e<;>cases d<;>cases c<;>cases b<;>cases a<;>cases l<;>kernel_rfl
def aMq {g d c b l a i}(h:i∈Region.ready .any rQ #[g,d,c,b,l,a,aG]): (i=0/\g=aG)\/(i=1/\d=aG)\/(i=2/\c=aG)\/(i=3/\b=aG)\/(i=4/\l=aG/\c=aF/\b=aF)\/(i=5/\a=aG/\d=aF/\l=aF)\/(i=6/\g=aF/\a=aF/\l=aF):=by have m:∀j∈Region.ready .any rQ #[g,d,c,b,l,a,aG],((j==0&& !g)||(j==1&& !d)||(j==2&& !c)||(j==3&& !b)||(j==4&& !l&&c&&b)||(j==5&& !a&&d&&l)||(j==6&&g&&a&&l))=aF:=by{have e:(Region.ready .any rQ #[g,d,c,b,l,a,aG]).all (λj=>(j==0&& !g)||(j==1&& !d)||(j==2&& !c)||(j==3&& !b)||(j==4&& !l&&c&&b)||(j==5&& !a&&d&&l)||(j==6&&g&&a&&l))=aF:=by{cases g<;>cases d<;>cases c<;>cases b<;>cases l<;>cases a<;>kernel_rfl};exact ji};have:=m i h;simp only[JJ,De,Hc,Bool.not_eq_true',or_assoc,and_assoc]at this;exact this
def mx (e d c b a l:Bool):Nat:=(!e).toNat+(!d).toNat+(!c).toNat+(!b).toNat+(!a).toNat+(!l).toNat
section
variable {J:zW->Prop}{St:(zP)->(zP)->zU}{rs:zP}{ds:List Deferred}{k:zI}{cs:zL}{c0:zY}{b1 b2 b3 b4 Cr:Nat}{at':Int}{p0:zY}
 {f:zN} {fn:Func} {first cap:zA} {Rk:zO->Nat->Nat->(zP)->zW->Prop}
def XL (hf:Tryz.prog.funcs[f]? =aA fn)(tv:¬fn.name= "runtime.NumGoroutine")(M:¬fn.body=aB){w₀:zW} (hW:∀w,(∀b,rs b->w.heap[b]? =w₀.heap[b]?)->Works J rs w f (first.push p0++cap) Rk) (hRk:∀{q l cp ws w w₁},Rk q l cp ws w->cD rs ws w w₁->Rk q l cp ws w₁) (hS:∀ws q l cp u A s g w,J w->Rk q l cp ws w->St rs ws (Af c0 b1 b2 b3 b4 ds k cs (.chan (aA Cr)) u A s g (.agg #[.int aD at',.slice q l cp]) [6]) w): ∀(fuel)(z o n m y v)(B u A s g x)(ws)(w)(t),mx z o n m y v<fuel->(∀b,rs b->¬ws b/\b<w.heap.size)->(∀b,rs b->w.heap[b]? =w₀.heap[b]?)->aED rs w b1 b2 b3 b4 Cr at' (.func (.func f) first cap) p0->(z=aF->B= .chan (aA Cr))->(o=aF->u= .int aD at')->(n=aF->A= .func (.func f) first cap)->(m=aF->s=p0)->(y=aF->(∃q l cp,g= .slice q l cp/\Rk q l cp ws w)/\n=aF/\m=aF)->(v=aF->x= .agg #[.int aD at',g]/\o=aF/\y=aF)-> ∃tr,dR zAN aG J St tr rs ws (Af c0 b1 b2 b3 b4 ds k cs B u A s g x (Region.linearise.go .any rQ fuel t #[z,o,n,m,y,v,aG] [])) w:=by intro fuel;induction fuel with|zero=>omega|succ fuel K=>intro z o n m y v B u A s g x ws w t L I H a O N e2 Z Y e5;refine Qn (λh=> ?_) (λi d D hfu hi=> ?_) t;{grind[zGl]};.obtain rfl:d=fuel:=bm;obtain⟨rfl,r⟩|⟨rfl,r⟩|⟨rfl,r⟩|⟨rfl,r⟩|⟨rfl,r,r2,r3⟩|⟨rfl,r,r1,r4⟩|⟨rfl,r0,r5,r4⟩:=aMq hi;{subst r;have G:rQ[0]? =aA {dst:=aA 5,op:= .load 295 (.tmp 1),type:=295,pos:= "gather.go:27",after:= #[],guard:=aB}:=rfl;refine iK _ G rfl vi (λw₁ r _=> ?_) (λw₁ r _ e p=> ?_) (K aF o n m y v _ u A s g x ws w D z6 I H a (λ_=>rfl) N e2 Z Y e5);{have c:=(dD (aH a.r1) r 0).trans a.c1;exact I3};.have c:=(dD (aH a.r1) r 0).trans a.c1;simp[go_sem,c]at p;subst p;exact aH ⟨_,_,_,rfl,aI ⟨rfl,a.r1⟩⟩};{subst r;have G:rQ[1]? =aA {dst:=aA 6,op:= .load 3 (.tmp 2),type:=3,pos:= "gather.go:27",after:= #[],guard:=aB}:=rfl;refine iK _ G rfl vi (λw₁ r _=> ?_) (λw₁ r _ e p=> ?_) (K z aF n m y v B _ A s g x ws w D z6 I H a O (λ_=>rfl) e2 Z Y ji);{have c:=(dD (aH a.r2) r 0).trans a.c2;exact I3};.have c:=(dD (aH a.r2) r 0).trans a.c2;simp[go_sem,c]at p;subst p;exact aH ⟨_,_,_,rfl,aI ⟨rfl,a.r2⟩⟩};{subst r;have G:rQ[2]? =aA {dst:=aA 7,op:= .load 284 (.tmp 3),type:=284,pos:= "gather.go:27",after:= #[],guard:=aB}:=rfl;refine iK _ G rfl vi (λw₁ r _=> ?_) (λw₁ r _ e p=> ?_) (K z o aF m y v B u _ s g x ws w D z6 I H a O N (λ_=>rfl) Z ji e5);{have c:=(dD (aH a.r3) r 0).trans a.c3;exact I3};.have c:=(dD (aH a.r3) r 0).trans a.c3;simp[go_sem,c]at p;subst p;exact aH ⟨_,_,_,rfl,aI ⟨rfl,a.r3⟩⟩};{subst r;have G:rQ[3]? =aA {dst:=aA 8,op:= .load 264 (.tmp 4),type:=264,pos:= "gather.go:27",after:= #[],guard:=aB}:=rfl;refine iK _ G rfl vi (λw₁ r _=> ?_) (λw₁ r _ e p=> ?_) (K z o n aF y v B u A _ g x ws w D z6 I H a O N e2 (λ_=>rfl) ji e5);{have c:=(dD (aH a.r4) r 0).trans a.c4;exact I3};.have c:=(dD (aH a.r4) r 0).trans a.c4;simp[go_sem,c]at p;subst p;exact aH ⟨_,_,_,rfl,aI ⟨rfl,a.r4⟩⟩};{subst r;obtain rfl:=e2 r2;obtain rfl:=Z r3;refine w4 hf tv M ?_;let⟨tr,hbz⟩:=hW w H (Af c0 b1 b2 b3 b4 ds k cs B u (.func (.func f) first cap) s g x (4::Region.linearise.go .any rQ d D #[z,o,n,m,aF,v,aG] [])).frame cs ws I;refine(hbz.keep I).bind λT E g' w' V=> ?_;by_cases hJ:∃w₁,cD T E w' w₁/\J w₁;{obtain⟨Q,R,U⟩:=hJ;obtain⟨rfl,_,_,W,_⟩:=V Q R U;refine dR.step W λw₁ r j=> ?_;let⟨_,hd1,X,_,q,l,cp,es,hq,F,hes⟩:=V w₁ r j;refine⟨_,w₁,es,F,Does.refl E w₁,by grind[dW],?_⟩;rw[dW];exact K z o n m aF v B u _ _ (.slice q l cp) x E w₁ D z6 hd1 (λb M=>(X b M).trans (H b M)) (by have C:∀b i,T b->w₁.cell? (b,i)=w.cell? ⟨b,i,aB⟩:=λb i M=>by{simp only[World.cell?];rw[X b M]};exact⟨a.r1,a.r2,a.r3,a.r4,(C _ _ a.r1).trans a.c1,(C _ _ a.r2).trans a.c2,(C _ _ a.r3).trans a.c3,(C _ _ a.r4).trans a.c4⟩) O N (λ_=>rfl) (λ_=>rfl) (λ_=>⟨⟨q,l,cp,rfl,hq⟩,r2,r3⟩) (λh=>by simp_all)};.exact⟨.leaf,λw₁ r j=>absurd ⟨w₁,r,j⟩ hJ⟩};{subst r;obtain rfl:=N r1;obtain⟨⟨q,l,cp,rfl,hq⟩,_⟩:=Y r4;exact w5 (K z o n m y aF B _ A s _ _ ws w D z6 I H a O N e2 Z Y ji)};.subst r0;subst r5;obtain⟨rfl,r1,_⟩:=e5 rfl;obtain⟨⟨q,l,cp,rfl,hq⟩,r2,r3⟩:=Y r4;subst r1;subst r2;subst r3;subst r4;obtain rfl:=O rfl;have eg:Region.linearise.go .any rQ d D (zAI (#[aF,aF,aF,aF,aF,aF,aG]:Array Bool) 6 aF) []=[]:=by{cases d with|zero=>rfl|succ d=>simp only[Region.linearise.go];have e:((List.range rQ.size).filter λi=> !(#[aF,aF,aF,aF,aF,aF,aF]:Array Bool).getD i aF&&((rQ[i]?).map (·.after.all λe=> !Region.binds .any e||(#[aF,aF,aF,aF,aF,aF,aF]:Array Bool).getD e.on aG)).getD aG)=[]:=c9;exact j5};rw[eg];exact EK λw₁ r j=>hS ws q l cp _ _ _ _ w₁ j (hRk hq r)
end
end Go.Ga
namespace Go.Wg
open Go.Conc Go.RowKit Go.Conc.Lib Go.ConcR.Gen Go.ConcN Go.ConcN.Gen
open Go.ConcR (KK wgBlock WgAt stA smA rd wr mk Payload DC0)
variable {L:WgLink}
def zCv {P}:∀(n d)(g),QuitsD P n d g->QuitsD P (n+1) d g:=by intro n;induction n with|zero=>intro d g h;exact aH h|succ n i=>intro d g h;obtain h|⟨a,f,es,b,c,e⟩:=h;{exact aH h};{exact aI ji}
def XT {P n m d g}(h:n<=m)(a:QuitsD P n d g):QuitsD P m d g:=by induction h with|refl=>exact a|step _ i=>exact zCv _ _ _ i
section
variable {P:zZ}{R:zW->zW->Prop}{F:zW->Prop}{Wg:Nat}{c:zC}{cs:zL}{qt:Nat}
def aAi [Payload] (H:WgLib P L)(hk:Lk L.tWg Wg R F)(k:c.mode= .returning)(t:QuitsD P qt 0 (G c cs))(w:zW)(hF:F w/\WgLive L.tWg Wg w):
  On P aG R (iR P aG (.releaseMerge (stA Wg)) (On P aG R (iR P aG .disable (On P aG R (aAM P L.tWg Wg R)))))
   (G ((baseD L.done).at ⟨#[.pointer Wg,ij,ij,ij],[]⟩ [.code (body_done L)]) (c::cs)) w:=by
 have r:= @hk.rely;lib_facts;simp only[body_done,doneFn,Gu];refine⟨300,?_⟩;u_reg r hF;u_op r hF;u_in r hF;refine goes_call rfl rfl p9 rfl H.f_add (nm_add L) rfl ⟨by u_nil,?_⟩;walk_nrmf addFn;u_c Ac r hF;u_cnd aF r hF;u_c Ac r hF;u_c Ac r hF;u_reg r hF;u_op r hF;u_op r hF;u_c Ag r hF;u_cnd aF r hF;u_reg r hF;u_op r hF;u_conv H.underlying_tWgP H.room_tWg (WgLive.cell0 hF.2).choose_spec r hF;refine Goes.stop (λa h=> ?_);replace hF:=r hF h;refine⟨rfl,_,stepG_markAt .releaseMerge j0 rfl rfl p9 rfl H.f_relMerge (x_relMerge_n L) (x_relMerge_b L) (x_relMerge_x L) (x_relMerge_f L) R3,200,?_⟩;walk_nrm;u_c Ag r hF;u_c Ac r hF;u_reg r hF;refine Goes.stop (λa h=> ?_);replace hF:=r hF h;refine⟨rfl,_,stepG_mark0 .disable j0 rfl rfl p9 rfl H.f_disable (x_disable_n L) (x_disable_b L) (x_disable_x L) (x_disable_f L),200,?_⟩;walk_nrm;u_c Ag r hF;u_reg r hF;u_defer r hF;u_c Ag r hF;u_c Ac r hF;u_reg r hF;u_op r hF;u_c Ag r hF;u_c Ac r hF;u_c Ac r hF;u_reg r hF;u_bub r hF;u_c Ag r hF;u_cnd aG r hF;u_c Db r hF;u_c Ac r hF;u_reg r hF;iterate 6 (u_op r hF)
 u_call H.f_uAdd (nm_uAdd L) uAddFn r hF;u_c Ac r hF;u_reg r hF;u_op r hF;u_c Ag r hF;u_c Ac r hF;u_reg r hF;iterate 4 (u_op r hF)
 refine Goes.stop (λa h=> ?_);replace hF:=r hF h;refine⟨rfl,λv wt m A b=> ?_⟩;have B:IntKind.u64.wrap (KK+18446744069414584320)=0:=by decide
 have u:IntKind.u64.wrap (KK+1+18446744069414584320)=1:=by decide
 by_cases e:v=0/\wt=1
 .obtain⟨rfl,rfl⟩:=e;replace b:WgAt L.tWg Wg a (KK+1) 0:=by{simpa using b};have z:((0:Nat):Int)*KK+((1:Nat):Int)=1:=j0;rw[z];refine⟨_,(stepG_add_atomic rfl rfl p9 rfl H.f_addU64 (x_addU64_n L) (x_addU64_b L) (x_addU64_x L) aR (x_addU64_f L) rfl rfl b.cellSt (b.thaw 0)).trans (by rw[u];rfl),λ_=>⟨200,?_⟩,λhl=>absurd ⟨rfl,rfl⟩ hl⟩;replace hF:F (zAJ a (stA Wg) (.int aR 1))/\WgLive L.tWg Wg (zAJ a (stA Wg) (.int aR 1)):=⟨hk.eD hF.1,⟨_,_,b.setSt 1⟩⟩;walk_nrm;u_op r hF;u_c Ag r hF;u_c Eu r hF;u_leave1 H.f_uAdd r hF;u_op r hF;u_c Ag r hF;u_c Ac r hF;u_c Ac r hF;u_reg r hF;iterate 4 (u_op r hF)
  u_skip r hF;u_skip r hF;u_op r hF;u_c Ag r hF;u_cnd aG r hF;u_c Db r hF;u_c Ac r hF;u_reg r hF;iterate 4 (u_op r hF)
  u_c Ag r hF;u_c Ac r hF;u_reg r hF;iterate 4 (u_op r hF)
  u_c Ag r hF;u_c Ac r hF;u_c Ac r hF;u_reg r hF;iterate 5 (u_op r hF)
  iterate 4 (u_skip r hF)
  u_op r hF;u_c Ag r hF;u_cnd aG r hF;u_c Db r hF;u_c Ac r hF;u_c Ac r hF;u_reg r hF;u_op r hF;u_op r hF;u_c Ag r hF;u_cnd aG r hF;u_c Db r hF;u_c Ac r hF;u_c Ac r hF;u_reg r hF;iterate 7 (u_op r hF)
  iterate 4 (u_skip r hF)
  u_op r hF;u_c Ag r hF;u_cnd aG r hF;u_c Db r hF;u_c Ac r hF;u_c Ac r hF;u_reg r hF;iterate 6 (u_op r hF)
  u_c Ag r hF;u_cnd aG r hF;u_c Db r hF;u_c Ac r hF;u_c Ac r hF;u_reg r hF;iterate 3 (u_op r hF)
  u_call H.f_uLoad (nm_uLoad L) uLoadFn r hF;u_c Ac r hF;u_reg r hF;u_op r hF;u_c Ag r hF;u_c Ac r hF;u_reg r hF;iterate 3 (u_op r hF)
  refine Goes.stop (λq j=> ?_);replace hF:=r hF j;refine⟨rfl,λb=>⟨_,stepG_load_atomic rfl rfl p9 rfl H.f_loadU64 (x_loadU64_n L) (x_loadU64_b L) (x_loadU64_x L) aR (x_loadU64_f L) rfl b.cellSt,200,?_⟩⟩;walk_nrm;u_op r hF;u_c Ag r hF;u_c Eu r hF;u_leave1 H.f_uLoad r hF;u_op r hF;u_op r hF;u_c Ag r hF;u_cnd aG r hF;u_c Db r hF;u_c Ac r hF;u_reg r hF;iterate 3 (u_op r hF)
  u_call H.f_uStore (nm_uStore L) uStoreFn r hF;u_reg r hF;iterate 4 (u_op r hF)
  refine Goes.stop (λd i=> ?_);replace hF:=r hF i;refine⟨rfl,λb=>⟨_,stepG_store_atomic rfl rfl p9 rfl H.f_storeU64 (x_storeU64_n L) (x_storeU64_b L) (x_storeU64_x L) (x_storeU64_f L) rfl rfl b.cellSt (b.thaw 0),200,?_⟩⟩;replace hF:F (zAJ d (stA Wg) (.int aR 0))/\WgLive L.tWg Wg (zAJ d (stA Wg) (.int aR 0)):=⟨hk.eD hF.1,⟨_,_,b.setSt 0⟩⟩;walk_nrm;u_c Ag r hF;u_c stepG_end r hF;u_leave0 H.f_uStore r hF;u_c Ag r hF;u_c Ac r hF;u_c Ac r hF;u_reg r hF;u_op r hF;u_c Ag r hF;u_cnd aG r hF;u_c Db r hF;u_c Fw r hF;u_c stepG_loop r hF;u_c Ac r hF;u_c Ac r hF;u_reg r hF;u_op r hF;u_op r hF;u_c Ag r hF;u_cnd aF r hF;u_c Db r hF;u_c Ac r hF;u_c Fw r hF;u_reg r hF;iterate 3 (u_op r hF)
  refine Goes.stop (λp g=> ?_);replace hF:=r hF g;refine⟨rfl,mayWake_entry rfl rfl H.f_semrelease (x_semrelease_b L),λb=>⟨_,(stepG_semrelease rfl rfl p9 rfl H.f_semrelease (x_semrelease_n L) (x_semrelease_b L) (x_semrelease_x L) (x_semrelease_f L) R5 b.cellSm (b.thaw 1)).trans I2,qt+189,?_⟩⟩;walk_nrm;q_c Ag;q_c stepG_inBlock;q_reg;iterate 3 ((refine Gf _ rfl rfl p9 (λ_=>mv) (λ_=>s4) ?_;walk_nrm))
  q_c Ag;q_c stepG_inLoop;q_c Ac;q_c Ac;q_reg;iterate 2 ((refine Gf _ rfl rfl p9 (λ_=>mv) (λ_=>s4) ?_;walk_nrm))
  q_c Ag;q_cond aG;q_exit;q_c stepG_end;q_enable;q_leave0 H.f_add;q_c Ag;q_c stepG_end;exact XT bm (QuitsD.leaveD rfl rfl H.f_done rfl k t)
 .obtain⟨x,l⟩:∃x:Int,x=(v:Int):=⟨_,rfl⟩;obtain⟨y,s⟩:∃y:Int,y=(wt:Int):=⟨_,rfl⟩;have o:IntKind.u64.wrap (((v:Nat)+1)*KK+wt+18446744069414584320)=(v:Int)*KK+wt:=by{rw[OK];exact I7};obtain⟨S,f⟩:∃S:Int,S=(v:Int)*KK+wt:=⟨_,rfl⟩;rw[<-f]at o⊢;have M:S/4294967296=x:=by{rw[f,l];exact I7};have a2:0<=S/\S<9223372036854775808:=by{rw[f];exact I7};have K:bits .and aR S 2147483648=0:=by{rw[f];have:=st_flag v wt bm bm;exact Q0};have J:bits .and aR S 2147483647=y:=by{rw[f,s];have:=st_waiters v wt bm bm;exact Q0};have c1:IntKind.i32.wrap x=x:=by{rw[OJ];exact bm};refine⟨_,(stepG_add_atomic rfl rfl p9 rfl H.f_addU64 (x_addU64_n L) (x_addU64_b L) (x_addU64_x L) aR (x_addU64_f L) rfl rfl b.cellSt (b.thaw 0)).trans (by rw[o];rfl),λhl=>absurd hl e,λ_=>⟨qt+189,?_⟩⟩;have I:decide (x<0)=aG:=Dr bm;have n:x=0/\y=0\/0<x/\(y=0\/y=1):=bm;clear b hF f o B u l s e A m;obtain⟨rfl,rfl⟩|⟨l,n⟩:=n;rotate_left;have E:decide (0<x)=aF:=Dz l;have D:(x==0)=aG:=by simp;omega
  have C:decide (x=0)=aG:=Dr bm;obtain rfl|rfl:=n;all_goals
   walk_nrm
   (refine Gf _ rfl rfl p9 (λ_=>mv) (λ_=>s4) ?_;walk_nrm)
   q_c Ag
   q_c Eu
   q_leave1 H.f_uAdd
   (refine Gf _ rfl rfl p9 (λ_=>mv) (λ_=>s4) ?_;walk_nrm)
   q_c Ag
   q_c Ac
   q_c Ac
   q_reg
   iterate 4 ((refine Gf _ rfl rfl p9 (λ_=>mv) (λ_=>s4) ?_;walk_nrm))
   q_skip
   q_skip
   (refine Gf _ rfl rfl p9 (λ_=>mv) (λ_=>s4) ?_;walk_nrm)
   q_c Ag
   q_cond aG
   q_c Db
   q_c Ac
   q_reg
   iterate 4 ((refine Gf _ rfl rfl p9 (λ_=>mv) (λ_=>s4) ?_;walk_nrm))
   q_c Ag
   q_c Ac
   q_reg
   iterate 4 ((refine Gf _ rfl rfl p9 (λ_=>mv) (λ_=>s4) ?_;walk_nrm))
   q_c Ag
   q_c Ac
   q_c Ac
   q_reg
   iterate 5 ((refine Gf _ rfl rfl p9 (λ_=>mv) (λ_=>s4) ?_;walk_nrm))
   iterate 4 (q_skip)
   (refine Gf _ rfl rfl p9 (λ_=>mv) (λ_=>s4) ?_;walk_nrm)
   q_c Ag
   q_cond aG
   q_c Db
   q_c Ac
   q_c Ac
   q_reg
   iterate 2 ((refine Gf _ rfl rfl p9 (λ_=>mv) (λ_=>s4) ?_;walk_nrm))
   q_c Ag
   q_cond aG
   q_c Db
   q_c Ac
   q_c Ac
   q_reg
   iterate 12 (first|q_skip|(refine Gf _ rfl rfl p9 (λ_=>mv) (λ_=>s4) ?_;walk_nrm))
   q_c Ag
   q_cond aG
   q_c Db
   q_c Ac
   q_c Ac
   q_reg
   iterate 6 (first|q_skip|(refine Gf _ rfl rfl p9 (λ_=>mv) (λ_=>s4) ?_;walk_nrm))
   q_c Ag
   q_cond aF
   q_c Eu
   q_enable
   q_leave0 H.f_add
   q_c Ag
   q_c stepG_end
   exact XT bm (QuitsD.leaveD rfl rfl H.f_done rfl k t)
end
end Go.Wg
namespace Go.Ga
open Go.Conc Go.Ren Go.Proofs Go.RowKit Go.Conc.Lib Go.Wg
open Go.ConcR (KK WgAt stA smA DC0 Payload)
open Go.ConcN (WgLive)
open Go.ConcR.Gen (body_done)
def root (P:zZ):zC:={(default:zC)with fn:=P.funcs.size,defers:=[],mode:= .panicking [goexitEntry]}
section
variable {P:zZ}
def zCu (w):stepG P aG (G (root P) []) w= .go {G (root P) []with status:= .finished} w #[]:=by simp[stepG,G,root,unwind,goexitEntry,Frame.catches];rfl
def aM1 {b:zC}{a todo fn}(hk:b.kind= .deferred)(d:a.defers=[])(c:P.funcs[b.fn]? =aA fn)(h:fn.results= #[])(w): stepG P aG (G {b.at a todo with mode:= .returning} [root P]) w= .go (G (root P) []) w #[]:=by simp[stepG,G,unwind,Frame.at,d,c,doReturn,hk,root,goexitEntry,results_none h,events_results_none h,seen,Ms]
def KL {b:zC}{a:Act}{todo:zI}{fn:Func}(hk:b.kind= .deferred)(d:a.defers=[])(c:P.funcs[b.fn]? =aA fn)(h:fn.results= #[]):QuitsD P 2 0 (G {b.at a todo with mode:= .returning} [root P]):=aI ⟨rfl,_,#[],j0,aM1 hk d c h,aI ⟨rfl,_,#[],j0,zCu,⟨rfl,rfl⟩⟩⟩
def OZ {f fn c a}(b:P.funcs[f]? =aA fn)(h:¬fn.name= "runtime.NumGoroutine")(d:fn.body=aA c)(w): stepG P aG (born P ⟨.fn (.func f) a,#[]⟩) w= .go (G ((baseD f).at {tmps:=a++Bt (fn.ntmps-a.size) ij,defers:=[]} [.code c]) [root P]) w #[]:=by have e:=enter_atD a b d;rw[<-e];simp[stepG,born,unwind,callDeferred,invoke,callFunc,b,h,d,Ms,seen_none,G,root]
def uT {R:zW->zW->Prop}{Stop:zU}{m:Nat}{g a:zH}{w:zW}(b:g.status= .running)(h:∀w₁,stepG P aG g w₁= .go a w₁ #[])(c:∀w₁,R w w₁->Go.Conc.Goes P aG R DC0 Stop m a w₁):Go.Conc.Goes P aG R DC0 Stop (m+1) g w:=aI ⟨b,λw₁ r=>by rw[h w₁,goes_go];exact⟨⟨rfl,rfl⟩,c w₁ r⟩⟩
end
section
variable(S:Sp){T:zA}
instance :Payload:=⟨3⟩
def zEq (j:S.P=zAN)(h:S.ty=Tryz.link.tWg)(w)(k:S.J w):
  S.On S.D6 (G ((baseD 244).at ⟨T,[dcall 183 #[.pointer (S.Wg,0)]]⟩ (aN rQ []::[])) [root zAN]) w:=by
 let⟨P,ty,Wg,Cr,Cd,n,m0,Ok,Fa,M,Fin,rK,tS⟩:=S;dsimp only at j h;subst j;subst h;obtain⟨m,l⟩:=aAi Tryz.Iv ⟨λ_ r=>⟨trivial,r⟩,λ_=>trivial,λ_=>trivial⟩ rfl (KL (b:=baseD 244) (a:=⟨T,[]⟩) rfl rfl func244 rfl) w ⟨trivial,k⟩;refine⟨m+1+1+1,?_⟩;refine uT rfl (λ_=>Ag) λf i=> ?_;refine uT rfl (λ_=>stepG_end) λe g=> ?_;refine uT rfl (λw=>stepG_unwind_enter rfl func183 rfl rfl) λd c=> ?_;exact Go.Conc.Goes.rely ji l c
end
end Go.Ga
namespace Go.Wg
open Go.Conc Go.RowKit Go.Conc.Lib Go.ConcR.Gen Go.ConcN Go.ConcN.Gen
open Go.ConcR (KK wgBlock WgAt stA smA rd wr mk Payload DC0)
variable {L:WgLink}
section
variable {P:zZ}{mn:Bool}{R:zW->zW->Prop}{F:zW->Prop}{Wg:Nat}{Bp:zC}{Cf:Act}{rB:zQ}{ZK:Nat}{pZ:List Nat}{ZG:zI}{cs:zL}{Fin:zU}{mT:Nat}
def waitStart [Payload] (H:WgLib P L)(hk:Lk L.tWg Wg R F)(w)(hF:F w/\WgLive L.tWg Wg w): On P mn R (iR P mn .disable (On P mn R (AnchWN L F Wg (Bp.at Cf (aN rB (ZK::pZ)::ZG)) cs))) (G ((base L.wait).at ⟨#[.pointer Wg]++Bt 83 ij,[]⟩ [.code (body_wait L)]) (Bp.at Cf (aN rB (ZK::pZ)::ZG)::cs)) w:=by lib_facts;simp only[body_wait,waitFn,Gu];refine⟨200,?_⟩;walk_nrm;u_c Ac hk.rely hF;u_cnd aF hk.rely hF;u_reg hk.rely hF;refine Goes.stop (λc h=> ?_);replace hF:=hk.rely hF h;clear h;refine⟨rfl,_,stepG_mark0 .disable j0 rfl rfl p9 rfl H.f_disable (x_disable_n L) (x_disable_b L) (x_disable_x L) (x_disable_f L),200,?_⟩;walk_nrm;u_c Ag hk.rely hF;u_c Fw hk.rely hF;u_c stepG_loop hk.rely hF;exact Goes.stop (λb a=>⟨_,rfl,j0,j0,hk.rely hF a⟩)
def aAI (P:zZ)(mn:Bool)(R:zW->zW->Prop)(Wg:Nat)(Fin:zU):zU:=On P mn R (iR P mn .enable (On P mn R (iR P mn (.acquire (stA Wg)) (On P mn R Fin))))
def waitRound [Payload] (H:WgLib P L)(hk:Lk L.tWg Wg R F)(z:∀w,F w/\WgLive L.tWg Wg w->Goes P mn R DC0 Fin mT (G (Bp.at (Cf.put ((rB[ZK]?).bind (·.dst)) (.tuple #[])) (aN rB pZ::ZG)) cs) w)
  (g) (w) (h:AnchWN L F Wg (Bp.at Cf (aN rB (ZK::pZ)::ZG)) cs g w):
  On P mn R (aAL P mn L.tWg Wg (aAI P mn R Wg Fin) λv=>On P mn R (lp P mn L.tWg Wg v
   (On P mn R (iR P mn (.write (smA Wg)) (On P mn R (lj P mn L.tWg Wg (On P mn R (Zk P mn L.tWg Wg (aAI P mn R Wg Fin)))))))
   (On P mn R (AnchWN L F Wg (Bp.at Cf (aN rB (ZK::pZ)::ZG)) cs)))) g w:=by
 have r:= @hk.rely;lib_facts;obtain⟨T,rfl,t,t0,hF⟩:=h;obtain⟨v0,v1,v2,v3,v4,v5,v6,v7,v8,v9,v10,v11,v12,v13,v14,v15,v16,v17,v18,v19,v20,v21,v22,v23,v24,v25,v26,v27,v28,v29,v30,v31,v32,v33,v34,v35,v36,v37,v38,v39,v40,v41,Z,Y,v44,v45,v46,X,W,v49,v50,v51,V,v53,v54,v55,U,Q,v58,v59,v60,O,N,M,v64,K,v66,v67,J,I,v70,E,v72,D,C,v75,v76,v77,v78,v79,v80,B,v82,A,rfl⟩:=array84 T t;simp only[JS,Ho,Cz]at t0;subst t0;refine⟨200,?_⟩;simp only[L7,body_wait,waitFn,Gu];u_c Fw r hF;u_c Ac r hF;u_reg r hF;iterate 3 (u_op r hF)
 u_call H.f_uLoad (nm_uLoad L) uLoadFn r hF;u_c Ac r hF;u_reg r hF;u_op r hF;u_c Ag r hF;u_c Ac r hF;u_reg r hF;iterate 3 (u_op r hF)
 refine Goes.stop (λp s=> ?_);replace hF:=r hF s;refine⟨rfl,λv hv a=> ?_⟩;obtain rfl|py:=Lw v
 .replace a:WgAt L.tWg Wg p 0 0:=by{simpa using a};refine⟨_,stepG_load_atomic rfl rfl p9 rfl H.f_loadU64 (x_loadU64_n L) (x_loadU64_b L) (x_loadU64_x L) aR (x_loadU64_f L) rfl a.cellSt,λ_=>⟨200,?_⟩,λh=>absurd rfl h⟩;walk_nrm;u_op r hF;u_c Ag r hF;u_c Eu r hF;u_leave1 H.f_uLoad r hF;u_op r hF;u_c Ag r hF;u_c Ac r hF;u_reg r hF;iterate 4 (u_op r hF)
  u_c Ag r hF;u_c Ac r hF;u_reg r hF;iterate 4 (u_op r hF)
  u_c Ag r hF;u_c Ac r hF;u_c Ac r hF;u_reg r hF;u_op r hF;u_op r hF;u_c Ag r hF;u_cnd aF r hF;u_c Ac r hF;u_cnd aF r hF;u_c Ac r hF;u_reg r hF;refine Goes.stop (λo c=> ?_);replace hF:=r hF c;clear c;refine⟨rfl,_,stepG_mark0 .enable j0 rfl rfl p9 rfl H.f_enable (x_enable_n L) (x_enable_b L) (x_enable_x L) (x_enable_f L),200,?_⟩;walk_nrm;u_c Ag r hF;u_reg r hF;u_op r hF;u_conv H.underlying_tWgP H.room_tWg (WgLive.cell0 hF.2).choose_spec r hF;refine Goes.stop (λm b=> ?_);replace hF:=r hF b;clear b;refine⟨rfl,_,stepG_markAt .acquire j0 rfl rfl p9 rfl H.f_acquire (x_acquire_n L) (x_acquire_b L) (x_acquire_x L) (x_acquire_f L) R3,⟨mT+60,?_⟩⟩;walk_nrm;u_c Ag r hF;u_c Ac r hF;u_c Ac r hF;u_reg r hF;iterate 8 (u_op r hF)
  u_skip r hF;u_skip r hF;u_op r hF;u_c Ag r hF;u_cnd aG r hF;u_c Db r hF;u_c Eu r hF;u_leave0 H.f_wait r hF;exact(z _ hF).mono bm
 .obtain⟨S,l⟩:∃S:Int,(v:Int)*KK=S:=⟨_,rfl⟩;have a1:S/4294967296=(v:Int):=by{rw[<-l];exact I7};have b1:bits .and aR S 2147483648=0:=by{rw[<-l];have:=st_flag v 0 bm bm;exact Q0};have b2:bits .and aR S 2147483647=0:=by{rw[<-l];have:=st_waiters v 0 bm bm;exact Q0};have c1:IntKind.i32.wrap (v:Int)=v:=by{rw[OJ];exact bm};have w1:IntKind.u64.wrap (S+1)=S+1:=by{rw[OK,<-l];exact I7};have q3:decide ((v:Int)<0)=aG:=Dr bm;have q4:decide (0<(v:Int))=aF:=Dz bm;have q5:((v:Int)==0)=aG:=j3;have q6:decide ((v:Int)=0)=aG:=Dr bm;rw[l]at a;refine⟨_,stepG_load_atomic (v:=S) rfl rfl p9 rfl H.f_loadU64 (x_loadU64_n L) (x_loadU64_b L) (x_loadU64_x L) aR (x_loadU64_f L) rfl a.cellSt,λh0=>absurd h0 bm,λ_=>⟨200,?_⟩⟩;clear a;walk_nrm;u_op r hF;u_c Ag r hF;u_c Eu r hF;u_leave1 H.f_uLoad r hF;u_op r hF;u_c Ag r hF;u_c Ac r hF;u_reg r hF;iterate 4 (u_op r hF)
  u_c Ag r hF;u_c Ac r hF;u_reg r hF;iterate 4 (u_op r hF)
  u_c Ag r hF;u_c Ac r hF;u_c Ac r hF;u_reg r hF;u_op r hF;u_op r hF;u_c Ag r hF;u_cnd aG r hF;u_c Db r hF;u_c Ac r hF;u_reg r hF;iterate 6 (u_op r hF)
  u_call H.f_uCas (nm_uCas L) uCasFn r hF;u_c Ac r hF;u_reg r hF;u_op r hF;u_c Ag r hF;u_c Ac r hF;u_reg r hF;iterate 5 (u_op r hF)
  refine Goes.stop (λi k=> ?_);replace hF:=r hF k;clear k;refine⟨rfl,λv' hv' a=>⟨λe=> ?_,λe=> ?_⟩⟩;{subst e;rw[l]at a⊢;refine⟨_,(stepG_cas_hit (v:=S) (n:=S+1) rfl rfl p9 rfl H.f_casU64 (x_casU64_n L) (x_casU64_b L) (x_casU64_x L) aR (x_casU64_f L) rfl rfl rfl a.cellSt (a.thaw 0)).trans I2,200,?_⟩;replace hF:F (zAJ i (stA Wg) (.int aR (S+1)))/\WgLive L.tWg Wg (zAJ i (stA Wg) (.int aR (S+1))):=⟨hk.eD hF.1,⟨_,_,a.setSt _⟩⟩;clear a;walk_nrm;u_op r hF;u_c Ag r hF;u_c Eu r hF;u_leave1 H.f_uCas r hF;u_c Ag r hF;u_cnd aF r hF;u_c Ac r hF;u_c Ac r hF;u_reg r hF;(iterate 4 (u_op r hF));u_c Ag r hF;u_cnd aF r hF;u_reg r hF;(iterate 3 (u_op r hF));u_conv H.underlying_tPU32 H.room_tU32 (WgLive.cell1 hF.2).choose_spec r hF;refine Goes.stop (λf d=> ?_);replace hF:=r hF d;clear d;refine⟨rfl,_,stepG_markAt .write j0 rfl rfl p9 rfl H.f_raceWrite (x_raceWrite_n L) (x_raceWrite_b L) (x_raceWrite_x L) (x_raceWrite_f L) (ad:=(Wg,1)) J0,200,?_⟩;walk_nrm;u_c Ag r hF;u_c Ac r hF;u_reg r hF;u_op r hF;u_c Ag r hF;u_c Ac r hF;u_c Ac r hF;u_reg r hF;(iterate 4 (u_op r hF));u_skip r hF;u_op r hF;u_c Ag r hF;u_cnd aG r hF;u_c Db r hF;u_c Ac r hF;u_reg r hF;(iterate 4 (u_op r hF));refine Goes.stop (λf d=> ?_);replace hF:=r hF d;clear d;refine⟨rfl,rfl,λ⟨st,a⟩=>stepG_semacquire_wait rfl rfl rfl H.f_semacquire (x_semacquire_n L) (x_semacquire_b L) (x_semacquire_x L) (x_semacquire_f L) R5 a.cellSm,λu=> ?_⟩;refine⟨_,(stepG_semacquire (n:=1) rfl rfl p9 rfl H.f_semacquire (x_semacquire_n L) (x_semacquire_b L) (x_semacquire_x L) (x_semacquire_f L) R5 u.cellSm p9 (u.thaw 1)).trans I2,200,?_⟩;replace hF:F (zAJ f (smA Wg) (.int aP 0))/\WgLive L.tWg Wg (zAJ f (smA Wg) (.int aP 0)):=⟨hk.vn hF.1,⟨_,_,u.setSm 0⟩⟩;clear u;walk_nrm;u_c Ag r hF;u_c Ac r hF;u_reg r hF;(iterate 3 (u_op r hF));u_call H.f_uLoad (nm_uLoad L) uLoadFn r hF;u_c Ac r hF;u_reg r hF;u_op r hF;u_c Ag r hF;u_c Ac r hF;u_reg r hF;(iterate 3 (u_op r hF));refine Goes.stop (λy j=> ?_);replace hF:=r hF j;clear j;refine⟨rfl,λa=>⟨_,stepG_load_atomic (v:=0) rfl rfl p9 rfl H.f_loadU64 (x_loadU64_n L) (x_loadU64_b L) (x_loadU64_x L) aR (x_loadU64_f L) rfl a.cellSt,200,?_⟩⟩;clear a;walk_nrm;u_op r hF;u_c Ag r hF;u_c Eu r hF;u_leave1 H.f_uLoad r hF;u_op r hF;u_op r hF;u_c Ag r hF;u_c Ac r hF;u_cnd aF r hF;u_c Ac r hF;u_reg r hF;refine Goes.stop (λo c=> ?_);replace hF:=r hF c;clear c;refine⟨rfl,_,stepG_mark0 .enable j0 rfl rfl p9 rfl H.f_enable (x_enable_n L) (x_enable_b L) (x_enable_x L) (x_enable_f L),200,?_⟩;walk_nrm;u_c Ag r hF;u_reg r hF;u_op r hF;u_conv H.underlying_tWgP H.room_tWg (WgLive.cell0 hF.2).choose_spec r hF;refine Goes.stop (λm b=> ?_);replace hF:=r hF b;clear b;refine⟨rfl,_,stepG_markAt .acquire j0 rfl rfl p9 rfl H.f_acquire (x_acquire_n L) (x_acquire_b L) (x_acquire_x L) (x_acquire_f L) R3,⟨mT+60,?_⟩⟩;walk_nrm;u_c Ag r hF;u_c Ac r hF;u_c Ac r hF;u_reg r hF;u_op r hF;u_c Ag r hF;u_cnd aG r hF;u_c Db r hF;u_c Eu r hF;u_leave0 H.f_wait r hF;exact(z _ hF).mono bm};{refine⟨_,stepG_cas_miss (v:=(v':Int)*KK) (old:=S) (n:=S+1) rfl rfl p9 rfl H.f_casU64 (x_casU64_n L) (x_casU64_b L) (x_casU64_x L) aR (x_casU64_f L) rfl rfl rfl a.cellSt (a.thaw 0) (by rw[<-l];exact I7),200,?_⟩;clear a;walk_nrm;u_op r hF;u_c Ag r hF;u_c Eu r hF;u_leave1 H.f_uCas r hF;u_c Ag r hF;u_cnd aG r hF;u_c Db r hF;u_c stepG_inBlock r hF;u_c stepG_inLoop r hF;exact Goes.stop (λx q=>⟨_,rfl,j0,j0,r hF q⟩)}
end
end Go.Wg
namespace Go.Ga
open Go.Conc Go.Ren Go.Proofs Go.RowKit Go.Conc.Lib Go.Wg
open Go.ConcR (KK WgAt stA smA DC0 Payload)
open Go.ConcN (WgLive)
open Go.ConcR.Gen (body_wait)
def mQ (t:zD)(c:Nat):Deferred:=⟨.builtin .close #[t] 0 #[aG],#[.chan (aA c)]⟩
section
variable {P:zZ}
def step_shut {b:zC}{a todo cs ds t c cap s r buf tm w}(m)(l:a.defers=mQ t c::ds)(i:w.heap[c]? =aA (.chan cap buf aG s r tm))(k:(P.funcs[b.fn]?).any (·.norace)=aG): stepG P m (G {b.at a todo with mode:= .returning} cs) w= .go (G {b.at ⟨a.tmps,ds⟩ todo with mode:= .returning} cs) (w.setChan c cap buf aF s r tm) (closeEvents c):=by have g:(Builtin.close_ #[t] 0 #[.chan (aA c)]).run P w= .ok (.tuple #[]) (w.setChan c cap buf aF s r tm):=run_close_open _ _ i;have d:(Builtin.close_ #[t] 0 #[.chan (aA c)]).events P w #[]=closeEvents c:=by{rw[events_close_open _ _ i];rfl};have h:(invoke (.builtin .close #[t] 0 #[aG]) #[.chan (aA c)]).runT P w #[]=(.ok (.value (.tuple #[])) (w.setChan c cap buf aF s r tm),closeEvents c):=by{rw[Sem.runT_eq];have o:(invoke (.builtin .close #[t] 0 #[aG]) #[.chan (aA c)]).run P w= .ok (.value (.tuple #[])) (w.setChan c cap buf aF s r tm):=by{simp[invoke,builtin,g,go_sem]};have n:(invoke (.builtin .close #[t] 0 #[aG]) #[.chan (aA c)]).events P w #[]=closeEvents c:=by{simp[invoke,builtin,g,d,go_sem]};rw[o,n]};have j:seen P b.fn (closeEvents c)=closeEvents c:=seen_eq k (by intro e d f;simp only[closeEvents,DI,Bb,Bq,Bm]at d;exact ji);simp only[stepG,G,unwind,Frame.at,l,mQ,callDeferred,Md,Dj,Dh,h,j,Ms];exact ji
def tH {b:zC}{a ops i rest k cs o j t c w}(m)(l:ops[i]? =aA o)(n:Region.wanted o (yielded ops a.tmps)=aF)(hk:b.kind≠.early)(d:o.op= .defer ⟨.builtin .close,#[.tmp j],#[t]⟩)(h:o.type=0)(f:a.eval (.tmp j)= .chan (aA c)): stepG P m (G (b.at a (aN ops (i::rest)::k)) cs) w= .go (G (b.at (Act.put ⟨a.tmps,mQ t c::a.defers⟩ o.dst ij) (aN ops rest::k)) cs) w #[]:=by simp only[Act.eval,Ez]at f;have p:(vr a.eval o).run P w= .ok (.defer (mQ t c)) w:=by{unfold vr;simp only[d];simp[resolve,f,mQ,h,go_sem]};have q:(vr a.eval o).events P w #[]= #[]:=by{unfold vr;simp only[d];simp[resolve,f,h,go_sem]};have e:(b.at ⟨a.tmps,mQ t c::a.defers⟩ (aN ops (i::rest)::k)).finish ij=b.at (Act.put ⟨a.tmps,mQ t c::a.defers⟩ o.dst ij) (aN ops rest::k):=by{rw[Frame.finish_at,l];rfl};have g:(b.kind==CallKind.early)=aG:=by{grind};rw[stepG_oper l n,<-e];simp[stepG.apply,p,q,G,Frame.at,g,Ms,seen_none]
end
def ov:zQ:=match f245.body with|some (.seq _ (.region _ ops _))=>ops|_=> #[]
abbrev frC (b6 Wg Cd:Nat):zC:=(baseD 245).at ⟨#[.pointer b6,.pointer Wg,.chan (aA Cd),ij],[mQ 232 Cd]⟩ (aN ov [0]::[])
def Le (b6 Wg Cd:Nat):zU:=Go.ConcN.Gen.AnchWN Tryz.link (λ_=>True) Wg (frC b6 Wg Cd) [root zAN]
section
variable(S:Sp){b6:Nat}
def zBr (h:S.P=zAN)(w):S.Goes S.CCl 3 (G ((baseD 245).at ⟨#[.pointer b6,.pointer (S.Wg,0),.chan (aA S.Cd),.tuple #[]],[mQ 232 S.Cd]⟩ (aN ov []::[])) [root zAN]) w:=by let⟨P,ty,Wg,Cr,Cd,n,m0,Ok,Fa,M,Fin,rK,tS⟩:=S;dsimp only at h;subst h;refine uT rfl (λ_=>Ag) λc f=> ?_;refine uT rfl (λ_=>stepG_end) λb e=> ?_;refine Goes.stop λa d=>⟨rfl,rfl,λcap s r t g=>⟨_,step_shut aG rfl g c9,2,KL rfl rfl func245 rfl⟩⟩
def Rh (c:S.P=zAN)(h:S.ty=Tryz.link.tWg)(d:S.rK=Le b6 S.Wg S.Cd)(g)(w)(a:S.rK g w):g.status= .running/\S.On S.CLd g w:=by have b:=zBr S (b6:=b6) c;rw[d]at a;let⟨P,ty,Wg,Cr,Cd,n,m0,Ok,Fa,M,Fin,rK,tS⟩:=S;dsimp only at c h d a;subst c;subst h;subst d;refine⟨?_,?_⟩;{obtain⟨T,rfl,_⟩:=a;rfl};.exact waitRound Tryz.Iv ⟨ji,λ_=>trivial,λ_=>trivial⟩ (λw _=>b w) g w a
def zAj (k:S.P=zAN)(h:S.ty=Tryz.link.tWg)(l:S.rK=Le b6 S.Wg S.Cd){rs w}(c:rs b6)(d:w.cell? b6=aA (.chan (aA S.Cd)))(g:S.J w):
  ∃tr,dR zAN aG S.J (λ_ _=>S.sx) tr rs (λ_=>False) (born zAN ⟨.fn (.func 245) #[.pointer b6,.pointer (S.Wg,0)],#[]⟩) w:=by
 let⟨P,ty,Wg,Cr,Cd,n,m0,Ok,Fa,M,Fin,rK,tS⟩:=S;dsimp only at k h l d g⊢;subst k;subst h;subst l;refine bZ rfl (OZ func245 (by simp[f245]) rfl) ?_;have q:(#[.pointer b6,.pointer Wg]:zA)++Bt (f245.ntmps-2) ij= #[.pointer b6,.pointer Wg,ij,ij]:=by simp_all
 simp only[Dq,Bf,CH,Nat.reduceAdd,Ce];rw[q];refine bZ rfl (λ_=>Ac) ?_;refine bZ rfl (λ_=>Dg) ?_;simp only[Dq,Bf,CH,Nat.reduceAdd,Ce,List.range,List.range.loop];refine iK (.chan (aA Cd)) rfl rfl vi (λa r _=> ?_) (λa r _ e i=> ?_) ?_
 .have b:=(dD (aH c) r 0).trans d;exact I3
 .have b:=(dD (aH c) r 0).trans d;simp[go_sem,b]at i;subst i;exact aH ji
 walk_nrm;refine bZ rfl (λ_=>tH aG rfl rfl vi rfl rfl rfl) ?_;refine bZ rfl (λ_=>Ag) ?_;refine bZ rfl (λ_=>Dg) ?_;walk_nrm;have o:ov[0]? =aA {dst:=aA 3,op:= .call ⟨.value (.func 185),#[.tmp 1],#[240]⟩,type:=0,pos:= "gather.go:32",after:= #[],guard:=aB}:=rfl;refine MU (f:=185) (args:= #[.pointer Wg]) o rfl vi (λa=> ?_) (λa=> ?_) ?_
 .exact Z5
 .exact Z5
 rw[enter_at #[.pointer Wg] func185 rfl];obtain⟨m,p⟩:=waitStart Tryz.Iv ⟨λ_ r=>⟨trivial,r⟩,λ_=>trivial,λ_=>trivial⟩ w ⟨trivial,g⟩;obtain⟨tr,c⟩:=CI (λ_ _ _ j=>j) p;exact⟨tr,c.mono λ_ _ _ _ x=>x.2.2⟩
end
def L2:Code:=match f240.body with|some (.seq _ (.seq _ (.seq _ (.seq _ (.seq _ (.seq _ (.seq _ (.seq _ (.block _ (.loop b))))))))))=>b|_=> .skip
def rR:zQ:=match L2 with| .block _ (.seq _ (.seq (.region _ ops _) _))=>ops|_=> #[]
def C4:Code:=match L2 with| .block _ (.seq _ (.seq _ c))=>c|_=> .skip
abbrev mI:zI:=[.code C4,.inBlock 3,.inLoop L2,.inBlock 2]
section
variable {J:zW->Prop}{St:(zP)->(zP)->zU}{rs ws:zP}{w:zW}{ds:List Deferred}{cs:zL}{b5 b6 bo N Cr Cd:Nat}{y0 y1 y2 y3 y4 y5 y6 y7 y8 y9 mr Ct Cs Sc Zt Zs Zr Zp VA Rp aq ao ak aj mq mo mm ml mj y29 y30 ta mi mh mg mf me mc mb ma lz lu lr:zY}
theorem XA (w):stepG zAN aF (G ((base 240).at ⟨#[y0,y1,y2,y3,y4,.pointer b5,.pointer b6,y7,y8,y9,.slice bo N N,Ct,Cs,Sc,Zt,Zs,Zr,Zp,VA,Rp,aq,ao,ak,aj,mq,mo,mm,ml,mj,.chan (aA Cr),.chan (aA Cd),ta,mi,mh,mg,mf,me,mc,mb,ma,lz,lu,lr],ds⟩ (aN rR [0,1,2,3]::mI)) cs) w= .comm (G ((base 240).at ⟨#[y0,y1,y2,y3,y4,.pointer b5,.pointer b6,y7,y8,y9,.slice bo N N,Ct,Cs,Sc,Zt,Zs,Zr,Zp,VA,Rp,aq,ao,ak,aj,mq,mo,mm,ml,mj,.chan (aA Cr),.chan (aA Cd),ta,mi,mh,mg,mf,me,mc,mb,ma,lz,lu,lr],ds⟩ (aN rR [0,1,2,3]::mI)) cs) #[rcase Cr (.agg #[.int aD 0,.slice aB 0 0]),rcase Cd (.agg #[])] aF .select w #[]:=by have h:rR[0]? =aA {dst:=aA 31,op:= .select #[{chan:= .tmp 29,send:=aB,elem:=297},{chan:= .tmp 30,send:=aB,elem:=233}] aF,type:=0,pos:= "gather.go:38",after:= #[],guard:=aB}:=rfl;have e:=stepG_comm (P:=Tryz.prog) (main:=aF) (b:=base 240) (a:=⟨#[y0,y1,y2,y3,y4,.pointer b5,.pointer b6,y7,y8,y9,.slice bo N N,Ct,Cs,Sc,Zt,Zs,Zr,Zp,VA,Rp,aq,ao,ak,aj,mq,mo,mm,ml,mj,.chan (aA Cr),.chan (aA Cd),ta,mi,mh,mg,mf,me,mc,mb,ma,lz,lu,lr],ds⟩) (k:=mI) (cs:=cs) (rest:=[1,2,3]) (w:=w) (cases:= #[rcase Cr (.agg #[.int aD 0,.slice aB 0 0]),rcase Cd (.agg #[])]) (blocking:=aF) (shape:= .select) (w':=w) h rfl j8 (by simp[vr,rcase,go_sem]);rw[e];have d:(vr (Act.eval ⟨#[y0,y1,y2,y3,y4,.pointer b5,.pointer b6,y7,y8,y9,.slice bo N N,Ct,Cs,Sc,Zt,Zs,Zr,Zp,VA,Rp,aq,ao,ak,aj,mq,mo,mm,ml,mj,.chan (aA Cr),.chan (aA Cd),ta,mi,mh,mg,mf,me,mc,mb,ma,lz,lu,lr],ds⟩) ⟨aA 31,.select #[{chan:= .tmp 29,send:=aB,elem:=297},{chan:= .tmp 30,send:=aB,elem:=233}] aF,0,"gather.go:38",#[],aB⟩).events Tryz.prog w #[]= #[]:=by{simp[vr,go_sem]};rw[listed_none d]
structure xJ (w:zW)(rs ws:zP)(bo:Nat)(s:zP)(W:zW):Prop where
 sub:∀b,ws b->s b
 wC:∀b,rs b->¬s b/\b<W.heap.size
 rd:∀b,rs b->W.heap[b]? =w.heap[b]?
 wr:∀b,ws b->b≠bo->b<w.heap.size->W.heap[b]? =w.heap[b]?
 size:w.heap.size<=W.heap.size
 tape:W.tape=w.tape
 os:W.os=w.os
 output:W.output=w.output
def xJ.aAj {s:zP}{W w₁ W':zW}(h:xJ w rs ws bo s W)(r:cD rs s W w₁)(hz:w₁.heap.size<=W'.heap.size)(hk:∀b,b<w₁.heap.size->(rs b\/ws b/\b≠bo/\b<w.heap.size)->W'.heap[b]? =w₁.heap[b]?)(f:W'.tape=w₁.tape)(d:W'.os=w₁.os)(e:W'.output=w₁.output):xJ w rs ws bo (grown s w₁ W') W':=by have z:=r.size;refine⟨λb a=>aH (h.sub b a),λb a=>⟨λx=>x.elim (h.wC b a).1 λy=> ?_,?_⟩,λb a=> ?_,λb a c hl=> ?_,G9,f.trans (r.tape.trans h.tape),d.trans (r.os.trans h.os),e.trans (r.output.trans h.output)⟩;{exact J8};{exact J8};{rw[hk b J8 (aH a),r.cY b (aH a)];exact h.rd b a};.rw[hk b G9 (aI ⟨a,c,hl⟩),r.cY b (aI (h.sub b a))];exact h.wr b a c hl
def xJ.set {s:zP}{W w₁:zW}(h:xJ w rs ws bo s W)(r:cD rs s W w₁){a:Addr}(v:zY)(d:s a.block)(f:a.block=bo\/w.heap.size<=a.block):xJ w rs ws bo s (zAJ w₁ a v):=by have:=h.aAj r (W':=zAJ w₁ a v) j1 (λb _ c=>cB _ _ λe=> ?_) j1 n9 n9;{rwa [lE]at this};.subst e;obtain c|⟨_,h1,g⟩:=c;{exact(h.wC _ c).1 d};.exact bm
def aNy (rs ws:zP)(w:zW):cD rs ws w w:=⟨λ_ _=>rfl,je _,rfl,rfl,rfl⟩
theorem xJ.cell {s:zP}{W w₁:zW}{b:Nat}{v:zY}(h:xJ w rs ws bo s W)(r:cD rs s W w₁)(a:rs b)(c:w.cell? b=aA v):w₁.cell? b=aA v:=by simp only[World.cell?]at c⊢;rw[r.cY b (aH a),h.rd b a];exact c
abbrev oM:Obj:=aJ #[.int aD 0,.slice aB 0 0] 297
def Wp {i:Nat}{q:zO}{l cp:Nat}{v:zA}(hi:i<N)(M:v.size=N)(I:rs b5)(H:rs b6)(c5:w.cell? b5=aA (.chan (aA Cr)))(c6:w.cell? b6=aA (.chan (aA Cd)))
  (k:ws bo) (d:w.heap[bo]? =aA (aJ v 283 (0,0))) (Q:∀b,rs b->¬ws b/\b<w.heap.size) (C:bo<w.heap.size) (T:N<9223372036854775808)
  (O:∀(p:zP)(w':zW)(y0 y1 y2 y3 y4 y5 y6 y7 y8 y9 mr Ct Cs Sc Zt Zs Zr Zp VA Rp aq ao ak aj mq mo mm ml mj y29 y30 ta mi mh mg mf me mc mb ma lz lu lr:zY),(∀b,ws b->p b)->(∀b,rs b->¬p b/\b<w'.heap.size)->(∀b,rs b->w'.heap[b]? =w.heap[b]?)->(∀b,ws b->b≠bo->b<w.heap.size->w'.heap[b]? =w.heap[b]?)->w'.heap[bo]? =aA (aJ (zAI v i (.slice q l cp)) 283 (0,0))->w.heap.size<=w'.heap.size->w'.tape=w.tape->w'.os=w.os->w'.output=w.output->
   ∃tr,dR zAN aF J St tr rs p (G ((base 240).at ⟨#[y0,y1,y2,y3,y4,.pointer b5,.pointer b6,y7,y8,y9,.slice bo N N,Ct,Cs,Sc,Zt,Zs,Zr,Zp,VA,Rp,aq,ao,ak,aj,mq,mo,mm,ml,mj,.chan (aA Cr),.chan (aA Cd),ta,mi,mh,mg,mf,me,mc,mb,ma,lz,lu,lr],ds⟩ (aN rR [0,1,2,3]::mI)) cs) w'):
  ∃tr,dR zAN aF J St tr rs ws (G ((base 240).at ⟨#[y0,y1,y2,y3,y4,.pointer b5,.pointer b6,y7,y8,y9,.slice bo N N,Ct,Cs,Sc,Zt,Zs,Zr,Zp,VA,Rp,aq,ao,ak,aj,mq,mo,mm,ml,mj,.chan (aA Cr),.chan (aA Cd),.tuple #[.int aD 0,.bool aF,.agg #[.int aD i,.slice q l cp],.agg #[]],mi,mh,mg,mf,me,mc,mb,ma,lz,lu,lr],ds⟩ (aN rR [1,2,3]::mI)) cs) w:=by
 simp only[mI,rR,C4,L2,f240];have K:xJ w rs ws bo ws w:=⟨λ_ h=>h,Q,λ_ _=>rfl,λ_ _ _ _=>rfl,je _,rfl,rfl,rfl⟩;have f:=k;have z:∀c,cD rs ws w c->True/\True/\True/\True:=λ_ _=>⟨⟨⟩,⟨⟩,⟨⟩,⟨⟩⟩;have P:¬((i:Int)<0):=by omega
 have B:(i:Int)<N:=by omega
 have U:∀c,(Instr.indexAt 287 (.slice bo N N) (.int aD i)).events zAN c #[]= #[]:=λc=>events_indexAt_slice 287 bo N N aD i c9 ⟨bm,B⟩;repeat first
  |refine bZ rfl (λ_=>Ag) ?_
  |refine bZ rfl (λ_=>Fw) ?_
  |refine bZ rfl (λ_=>stepG_inBlock) ?_
  |refine bZ rfl (λ_=>stepG_inLoop) ?_
  |refine bZ rfl (λ_=>Ac) ?_
  |(refine bZ rfl (λ_=>stepG_cond (t:=aF) rfl) ?_;simp only[Cx])
  |(refine bZ rfl (λ_=>Dg) ?_;simp only[Dq,Bf,CH,Nat.reduceAdd,Ce,List.range,List.range.loop])
  |(refine' iK _ rfl rfl j8 (λc r _=> ?_) (λc r _ e n=> ?_) ?_
    rotate_left
    iterate 2
     .obtain⟨s,k1,D,R⟩:=z c r;first
      |(simp[go_sem, *]at n;done)
      |(simp[go_sem, *]at n;subst n;first|exact aH ⟨_,_,_,rfl,aH f⟩|exact aH ⟨_,_,_,rfl,aI ⟨rfl,I⟩⟩|exact aH ⟨_,_,_,rfl,aI ⟨rfl,H⟩⟩)
      |(go_simp;first|done|rfl)
    walk_nrm)
  |(refine RE (λc=> .pointer c) (λc=>zAK c oM) rfl rfl j8 λc r j=>⟨I3,sV ws c _,λe n=>by simp[go_sem]at n,?_⟩
    walk_nrm
    replace K:xJ w rs ws bo (grown ws c (zAK c oM)) (zAK c oM):=K.aAj r P7 (λb F _=>alloc_old c _ F) rfl rfl rfl
    replace f:grown ws c (zAK c oM) c.heap.size:=aI ⟨je _,P7⟩
    have A:(zAK c oM).heap[c.heap.size]? =aA oM:=sB c _
    replace d:=(alloc_old c oM (Ao C r.size)).trans ((r.cY bo (aI k)).trans d)
    have y:=r.size
    clear j r z
    generalize grown ws c (zAK c oM)=o at*
    generalize zAK c oM=w2 at*
    generalize c.heap.size=m at*
    clear c)
  |(refine MT (λc=>zAJ (zAJ c m (.int aD i)) (m,1) (.slice q l cp)) rfl rfl j8 λc r j=>⟨?_,⟨λb F E=>(cB _ _ λe=>E (by rw[show b=m from e];exact f)).trans (cB _ _ λe=>E (by rw[show b=m from e];exact f)),by rw[lP,lP];exact je _,n9,n9,n9⟩,λe n=> ?_,?_⟩
    iterate 2
     .have g:=(r.cY m (aI f)).trans A;have s:=bG g 0;have k1:=eI g 0;have L:=bG g 1;have D:=eI g 1;have x:=dM g 0 (.int aD i);have k2:=bG x 1;have S:=eI x 1;first
      |(rw[LZ];simp[go_sem,s,k1,L,D]at n;obtain rfl|rfl:=n<;>exact aH ⟨_,_,_,rfl,aH f⟩)
      |(go_simp;done)
    walk_nrm
    rw[LZ]
    have g:=dM (dM ((r.cY m (aI f)).trans A) 0 (.int aD i)) 1 (.slice q l cp)
    simp only[Ey,Fs,Gx]at g
    replace d:=(cB (zAJ c m (.int aD i)) (a:=(m,1)) (.slice q l cp) (b:=bo) (by show bo≠m;exact bm)).trans ((cB c (a:=m) (.int aD i) (by show bo≠m;exact bm)).trans ((r.cY bo (aI (K.sub bo k))).trans d))
    replace K:=(K.set r (a:=m) (.int aD i) f (aI y)).set (aNy _ _ _) (a:=(m,1)) (.slice q l cp) f (aI y)
    clear r j A
    generalize(zAJ c m (.int aD i)).setCell (m,1) (.slice q l cp)=w3 at*
    clear c
    have z:=λc (r:cD rs o w3 c)=>Gy ((dD (aI f) r 0).trans (bG g 0)) (Gy ((dD (aI f) r 1).trans (bG g 1)) (Gy trivial trivial)))
  |(refine MT (λc=>zAJ c (bo,i) (.slice q l cp)) rfl rfl j8 λc r j=>⟨?_,MK o c _ (K.sub bo k),λe n=> ?_,?_⟩
    iterate 2
     .have u:=(r.cY bo (aI (K.sub bo k))).trans d;have s:=bG u i;have k1:=eI u i;rw[Ef bm]at s;first
      |(rw[lE];simp[go_sem,s,k1]at n;subst n;exact aH ⟨_,_,_,rfl,aH (K.sub bo k)⟩)
      |(go_simp;done)
    walk_nrm
    rw[lE]
    replace d:=dM ((r.cY bo (aI (K.sub bo k))).trans d) i (.slice q l cp)
    replace K:=K.set r (a:=(bo,i)) (.slice q l cp) (K.sub bo k) (aH rfl)
    clear r j z
    generalize zAJ c (bo,i) (.slice q l cp)=w4 at*
    clear c
    have z:=λc (r:cD rs o w4 c)=>Gy trivial (Gy trivial (Gy (K.cell r I c5) (K.cell r H c6))))
 exact O o w4 _ _ _ _ _ ij ij _ _ _ ij _ _ _ _ _ _ _ _ _ _ _ _ _ _ _ _ _ _ ij ij _ _ _ _ _ _ _ _ _ _ _ _ K.sub K.wC K.rd K.wr d K.size K.tape K.os K.output
end
structure Gt where
 N:Nat
 b5:Nat
 b6:Nat
 Cr:Nat
 Cd:Nat
 ds:List Deferred
 cs:zL
 Rw:Nat->zO->Nat->Nat->(zP)->zW->Prop
 rwr:∀{i q l cp h w w₁},Rw i q l cp h w->(∀b,h b->w₁.heap[b]? =w.heap[b]?)->Rw i q l cp h w₁
 K:zW->Prop
 old:zP
 lo:Nat
structure Gt.Ok (T:Gt)(rs ws:zP)(bo:Nat)(Sq:zA)(R:zP)(w:zW):Prop where
 r5:rs T.b5
 r6:rs T.b6
 c5:w.cell? (T.b5,0)=aA (.chan (aA T.Cr))
 c6:w.cell? (T.b6,0)=aA (.chan (aA T.Cd))
 wo:ws bo
 out:w.heap[bo]? =aA (aJ Sq 283 (0,0))
 size:Sq.size=T.N
 lt:bo<w.heap.size
 wC:∀b,rs b->¬ws b/\b<w.heap.size
 some:∀i,i<T.N->R i->∃q l cp h,Sq[i]? =aA (.slice q l cp)/\(∀b,h b->ws b/\b≠bo/\b<w.heap.size/\T.lo<=b)/\T.Rw i q l cp h w
 held:T.K w
 DO:∀b,T.old b->rs b
 fresh:T.lo<=bo
def Gt.M (T:Gt)(R rs ws:zP)(g:zH)(w:zW):Prop:= ∃(I:Nat)(v:zA)(V U Q P O L K J H F E D C B A z x u t s r q p o n m l k j i h f e d c b a y:zY),g=G ((base 240).at ⟨#[V,U,Q,P,O,.pointer (T.b5,0),.pointer (T.b6,0),L,K,J,.slice I T.N T.N,H,F,E,D,C,B,A,z,x,u,t,s,r,q,p,o,n,m,.chan (aA T.Cr),.chan (aA T.Cd),l,k,j,i,h,f,e,d,c,b,a,y],T.ds⟩ (aN rR [0,1,2,3]::mI)) T.cs/\T.Ok rs ws I v R w
def Gt.F (T:Gt)(rs ws:zP)(g:zH)(w:zW):Prop:= ∃(J:Nat)(v:zA)(V U R Q O M L K I H E D C B A z x u t s r q p o n m P l k j h f e d c b a y:zY),g=G ((base 240).at ⟨#[V,U,R,Q,O,.pointer (T.b5,0),.pointer (T.b6,0),M,L,K,.slice J T.N T.N,I,H,E,D,C,B,A,z,x,u,t,s,r,q,p,o,n,m,.chan (aA T.Cr),.chan (aA T.Cd),.tuple #[.int aD 1,.bool aG,.agg #[.int aD 0,.slice aB 0 0],.agg #[]],l,k,j,h,f,e,d,c,b,a,y],T.ds⟩ (aN rR [1,2,3]::mI)) T.cs/\T.Ok rs ws J v (λi=>i<T.N) w
def Ud (Cr Cd)(x z a):commResult #[rcase Cr z,rcase Cd a] .select 0 x aF= .tuple #[.int aD 0,.bool aF,x,a]:=by simp[commResult,rcase,goInt]
def Uc (Cr Cd)(z a):commResult #[rcase Cr z,rcase Cd a] .select 1 a aG= .tuple #[.int aD 1,.bool aG,z,a]:=by simp[commResult,rcase,goInt]
def Xe {a cs}(Cr Cd)(x z b):Goroutine.finishComm zAN (G ((base 240).at a (aN rR [0,1,2,3]::mI)) cs) #[rcase Cr z,rcase Cd b] .select 0 x aF=G ((base 240).at (a.put (aA 31) (.tuple #[.int aD 0,.bool aF,x,b])) (aN rR [1,2,3]::mI)) cs:=by have h:((rR[0]?).bind (·.dst))=aA 31:=rfl;unfold Goroutine.finishComm;rw[show(G ((base 240).at a (aN rR [0,1,2,3]::mI)) cs).frame=(base 240).at a (aN rR [0,1,2,3]::mI)from rfl,Frame.finish_at,h,Ud];rfl
def Xd {a cs}(Cr Cd)(z b):Goroutine.finishComm zAN (G ((base 240).at a (aN rR [0,1,2,3]::mI)) cs) #[rcase Cr z,rcase Cd b] .select 1 b aG=G ((base 240).at (a.put (aA 31) (.tuple #[.int aD 1,.bool aG,z,b])) (aN rR [1,2,3]::mI)) cs:=by have h:((rR[0]?).bind (·.dst))=aA 31:=rfl;unfold Goroutine.finishComm;rw[show(G ((base 240).at a (aN rR [0,1,2,3]::mI)) cs).frame=(base 240).at a (aN rR [0,1,2,3]::mI)from rfl,Frame.finish_at,h,Uc];rfl
section
variable(S:Sp)(T:Gt)
def Gt.nV (T:Gt):Prop:=∀w a,T.K w->(∀b,T.old b->a.heap[b]? =w.heap[b]?)->w.heap.size<=a.heap.size->a.tape=w.tape->a.os=w.os->a.output=w.output->T.K a
variable {T}
def Gt.Ok.rely (m:T.nV){rs ws f v R w w₁}(ok:T.Ok rs ws f v R w)(r:cD rs ws w w₁):T.Ok rs ws f v R w₁:=by have d:∀b,rs b->w₁.heap[b]? =w.heap[b]? :=λb a=>r.cY b (aH a);have c:∀b,rs b->w₁.cell? b=w.cell? b:=λb a=>by{simp only[World.cell?];grind};refine⟨ok.r5,ok.r6,(c _ ok.r5).trans ok.c5,(c _ ok.r6).trans ok.c6,ok.wo,(r.cY f (aI ok.wo)).trans ok.out,ok.size,Ao ok.lt r.size,λb a=>⟨(ok.wC b a).1,Ao (ok.wC b a).2 r.size⟩,λk i j=> ?_,m w w₁ ok.held (λb a=>d b (ok.DO b a)) r.size r.tape r.os r.output,ok.DO,ok.fresh⟩;let⟨q,l,cp,h,e,hh,g⟩:=ok.some k i j;exact⟨q,l,cp,h,e,λb a=>⟨(hh b a).1,(hh b a).2.1,Ao (hh b a).2.2.1 r.size,(hh b a).2.2.2⟩,T.rwr g λb a=>r.cY b ji⟩
variable(T)
def Tq (hP:S.P=zAN)(hr:S.Cr=T.Cr)(hd:S.Cd=T.Cd)(hn:S.n=T.N)(hN:T.N<9223372036854775808)(hv:∀i v h w,S.Ok i v h w->∃q l cp s,v= .agg #[.int aD i,.slice q l cp]/\(∀b,s b->h b/\T.lo<=b)/\T.Rw i q l cp s w)(hM:S.M=T.M)(hF:S.Fin=T.F) (hK:T.nV) (R rs ws) (g) (w) (h:S.M R rs ws g w): g.status= .running/\∃p sh zr zd,stepG S.P aF g w= .comm p (S.cases zr zd) aF sh w #[]/\S.Za R rs ws p sh zr zd w:=by rw[hM]at h;obtain⟨t,m,y0,y1,y2,y3,y4,y7,y8,y9,Ct,Cs,Sc,Zt,Zs,Zr,Zp,VA,Rp,Z,Y,X,W,V,U,Q,O,L,K,J,I,H,E,D,C,B,A,z,u,y,rfl,ok⟩:=h;refine⟨rfl,G ((base 240).at ⟨#[y0,y1,y2,y3,y4,.pointer (T.b5,0),.pointer (T.b6,0),y7,y8,y9,.slice t T.N T.N,Ct,Cs,Sc,Zt,Zs,Zr,Zp,VA,Rp,Z,Y,X,W,V,U,Q,O,L,.chan (aA T.Cr),.chan (aA T.Cd),K,J,I,H,E,D,C,B,A,z,u,y],T.ds⟩ (aN rR [0,1,2,3]::mI)) T.cs,.select,.agg #[.int aD 0,.slice aB 0 0],.agg #[],?_,?_⟩;{rw[hP];unfold Sp.cases;grind[XA]};.refine⟨λa r j=> ?_,λc aBX _ i v h hi hR hOk aDb=> ?_,λhR a r j=> ?_⟩;{rw[hP];unfold Sp.cases;rw[hr,hd];exact XA a};{have qi:=hn▸hi;obtain⟨q,l,cp,s,rfl,hs,hq⟩:=hv i v h c hOk;replace ok:=ok.rely hK aBX;rw[hP];unfold Sp.cases;rw[hr,hd,Xe];walk_nrm;refine Wp qi ok.size ok.r5 ok.r6 ok.c5 ok.c6 (aH ok.wo) ok.out (λb d=>⟨λx=>x.elim (ok.wC b d).1 ji,(ok.wC b d).2⟩) ok.lt hN λSe w' y0 y1 y2 y3 y4 y5 y6 y7 y8 y9 mr Ct Cs Sc Zt Zs Zr Zp VA Rp Z Y X W V U Q O L y29 y30 K J I H E D C B A z u y a1 a2 a3 a9 a4 a5 a6 a7 a8=> ?_;refine EK λa r j=> ?_;rw[hM];have GQ:∀b,rs b->a.heap[b]? =c.heap[b]? :=λb d=>(r.cY b (aH d)).trans (a3 b d);have f:∀b,rs b->a.cell? b=c.cell? b:=λb d=>by{simp only[World.cell?];exact ji};have hle:=Az a5 r.size;have aIc:∀b,(ws b\/h b)->b≠t->b<c.heap.size->a.heap[b]? =c.heap[b]? :=λb d TR hl=>(r.cY b (aI (a1 b d))).trans (a9 b d TR hl);refine⟨t,zAI m i (.slice q l cp),_,_,_,_,_,_,_,_,_,_,_,_,_,_,_,_,_,_,_,_,_,_,_,_,_,_,_,_,_,_,_,_,_,_,_,_,_,_,rfl,⟨ok.r5,ok.r6,(f _ ok.r5).trans ok.c5,(f _ ok.r6).trans ok.c6,a1 _ (aH ok.wo),(r.cY t (aI (a1 _ (aH ok.wo)))).trans a4,by rw[Nb];exact ok.size,Ao ok.lt hle,ji,λk hk hRk=> ?_,hK c a ok.held (λb d=>GQ b (ok.DO b d)) hle (r.tape.trans a6) (r.os.trans a7) (r.output.trans a8),ok.DO,ok.fresh⟩⟩;by_cases e:k=i;{subst e;have TR:∀b,h b->b≠t:=λb d e=>(aDb b d).2.2 (e▸ok.wo);refine⟨q,l,cp,s,by grind[Gt.Ok.size,Array.getElem?_setIfInBounds_self_of_lt],ji,T.rwr hq ji⟩};{let⟨q',l',cp',s,e1,hh,hw⟩:=ok.some k hk (hRk.resolve_right e);refine⟨q',l',cp',s,ji,ji,T.rwr hw ji⟩}};.rw[hP,hF];unfold Sp.cases;rw[hr,hd,Xd];walk_nrm;have o:=ok.rely hK r;exact⟨t,m,_,_,_,_,_,_,_,_,_,_,_,_,_,_,_,_,_,_,_,_,_,_,_,_,_,_,ij,_,_,_,_,_,_,_,_,_,_,_,rfl,⟨o.r5,o.r6,o.c5,o.c6,o.wo,o.out,o.size,o.lt,o.wC,λk hk _=>o.some k hk ji,o.held,o.DO,o.fresh⟩⟩
end
end Go.Ga
namespace Go.Wg
open Go.Conc Go.RowKit Go.Conc.Lib Go.ConcR.Gen Go.ConcN Go.ConcN.Gen
open Go.ConcR (KK wgBlock WgAt stA smA rd wr mk Payload DC0)
variable {L:WgLink}
section
variable {P:zZ}{R:zW->zW->Prop}{F:zW->Prop}{Wg:Nat}{Bp:zC}{Cf:Act}{rB:zQ}{ZK:Nat}{pZ:List Nat}{ZG:zI}{cs:zL}{Fin:zU}
def add1 [Payload] (H:WgLib P L)(hk:Lk L.tWg Wg R F){mT}(n:∀w,F w/\WgLive L.tWg Wg w->Goes P aF R DC0 Fin mT (G (Bp.at (Cf.put ((rB[ZK]?).bind (·.dst)) (.tuple #[])) (aN rB pZ::ZG)) cs) w)
  (w) (hF:F w/\WgLive L.tWg Wg w):
  On P aF R (iR P aF .disable (On P aF R (aEG P aF L.tWg Wg λv=>On P aF R (if v=0 then iR P aF (.read (smA Wg)) (On P aF R (iR P aF .enable (On P aF R Fin)))else iR P aF .enable (On P aF R Fin)))))
   (G ((base L.add).at ⟨#[.pointer Wg,.int aD 1]++Bt 115 ij,[]⟩ [.code (body_add L)]) (Bp.at Cf (aN rB (ZK::pZ)::ZG)::cs)) w:=by
 have r:= @hk.rely;lib_facts;simp only[body_add,addFn,Gu];refine⟨200,?_⟩;walk_nrm;u_c Ac r hF;u_cnd aF r hF;u_c Ac r hF;u_c Ac r hF;u_reg r hF;u_op r hF;u_op r hF;u_c Ag r hF;u_cnd aG r hF;u_c Db r hF;u_c Ac r hF;u_reg r hF;refine Goes.stop (λl g=> ?_);replace hF:=r hF g;refine⟨rfl,_,stepG_mark0 .disable j0 rfl rfl p9 rfl H.f_disable (x_disable_n L) (x_disable_b L) (x_disable_x L) (x_disable_f L),200,?_⟩;walk_nrm;u_c Ag r hF;u_reg r hF;u_defer r hF;u_c Ag r hF;u_c Ac r hF;u_reg r hF;u_op r hF;u_c Ag r hF;u_c Ac r hF;u_c Ac r hF;u_reg r hF;u_bub r hF;u_c Ag r hF;u_cnd aG r hF;u_c Db r hF;u_c Ac r hF;u_reg r hF;iterate 6 (u_op r hF)
 u_call H.f_uAdd (nm_uAdd L) uAddFn r hF;u_c Ac r hF;u_reg r hF;u_op r hF;u_c Ag r hF;u_c Ac r hF;u_reg r hF;iterate 4 (u_op r hF)
 refine Goes.stop (λa f=> ?_);replace hF:=r hF f;refine⟨rfl,λv D b=> ?_⟩;obtain rfl|p:=Lw v
 .replace b:WgAt L.tWg Wg a 0 0:=by{simpa using b};have z:(((0:Nat):Int)+1)*KK=KK:=j0;rw[z];have t:IntKind.u64.wrap (0+4294967296)=KK:=j2;refine⟨_,(stepG_add_atomic rfl rfl p9 rfl H.f_addU64 (x_addU64_n L) (x_addU64_b L) (x_addU64_x L) aR (x_addU64_f L) rfl rfl b.cellSt (b.thaw 0)).trans (by rw[t];rfl),?_⟩;show∃m,Goes P aF R DC0 (if(0:Nat)=0 then _ else _) m _ _;rw[AE rfl];refine⟨200,?_⟩;replace hF:F (zAJ a (stA Wg) (.int aR KK))/\WgLive L.tWg Wg (zAJ a (stA Wg) (.int aR KK)):=⟨hk.eD hF.1,⟨_,_,b.setSt _⟩⟩;simp only[KK]at hF⊢;walk_nrm;u_op r hF;u_c Ag r hF;u_c Eu r hF;u_leave1 H.f_uAdd r hF;u_op r hF;u_c Ag r hF;u_c Ac r hF;u_c Ac r hF;u_reg r hF;iterate 4 (u_op r hF)
  u_skip r hF;u_skip r hF;u_op r hF;u_c Ag r hF;u_cnd aG r hF;u_c Db r hF;u_c Ac r hF;u_reg r hF;iterate 4 (u_op r hF)
  u_c Ag r hF;u_c Ac r hF;u_reg r hF;iterate 4 (u_op r hF)
  u_c Ag r hF;u_c Ac r hF;u_c Ac r hF;u_reg r hF;iterate 10 (u_op r hF)
  u_c Ag r hF;u_cnd aF r hF;u_reg r hF;iterate 3 (u_op r hF)
  u_conv H.underlying_tPU32 H.room_tU32 (WgLive.cell1 hF.2).choose_spec r hF;refine Goes.stop (λk c=> ?_);replace hF:=r hF c;clear c;refine⟨rfl,_,stepG_markAt .read j0 rfl rfl p9 rfl H.f_raceRead (x_raceRead_n L) (x_raceRead_b L) (x_raceRead_x L) (x_raceRead_f L) (ad:=(Wg,1)) J0,200,?_⟩;walk_nrm;u_c Ag r hF;u_c Ac r hF;u_c Ac r hF;u_reg r hF;u_op r hF;u_op r hF;u_c Ag r hF;u_cnd aG r hF;u_c Db r hF;u_c Ac r hF;u_c Ac r hF;u_reg r hF;iterate 3 (u_op r hF)
  u_skip r hF;u_skip r hF;u_op r hF;u_op r hF;iterate 4 (u_skip r hF)
  u_op r hF;u_c Ag r hF;u_cnd aG r hF;u_c Db r hF;u_c Ac r hF;u_c Ac r hF;u_reg r hF;iterate 3 (u_op r hF)
  exact l7
 .obtain⟨V,i⟩:∃V:Int,V=(v:Int)+1:=⟨_,rfl⟩;obtain⟨S,d⟩:∃S:Int,S=V*KK:=⟨_,rfl⟩;have o:IntKind.u64.wrap ((v:Int)*KK+4294967296)=S:=by{rw[OK,d,i];exact I7};rw[<-i,<-d];have K:S/4294967296=V:=by{rw[d];exact I7};have I:bits .and aR S 2147483648=0:=by{rw[d,i];have:=st_flag (v+1) 0 bm bm;exact Q0};have E:bits .and aR S 2147483647=0:=by{rw[d,i];have:=st_waiters (v+1) 0 bm bm;exact Q0};have c1:IntKind.i32.wrap V=V:=by{rw[OJ];exact bm};have s:1<V:=bm;have q:V<2147483648:=bm;have C:(V==1)=aG:=j3;have B:decide (V=1)=aG:=Dr bm;have A:decide (V<0)=aG:=Dr bm;have y:decide (0<V)=aF:=Dz bm;have x:(V==0)=aG:=j3;have u:decide (V=0)=aG:=Dr bm;refine⟨_,(stepG_add_atomic rfl rfl p9 rfl H.f_addU64 (x_addU64_n L) (x_addU64_b L) (x_addU64_x L) aR (x_addU64_f L) rfl rfl b.cellSt (b.thaw 0)).trans (by rw[o];rfl),?_⟩;show∃m,Goes P aF R DC0 (if v=0 then _ else _) m _ _;rw[AF bm];refine⟨200,?_⟩;replace hF:F (zAJ a (stA Wg) (.int aR S))/\WgLive L.tWg Wg (zAJ a (stA Wg) (.int aR S)):=⟨hk.eD hF.1,⟨_,_,b.setSt _⟩⟩;clear b d i o;walk_nrm;u_op r hF;u_c Ag r hF;u_c Eu r hF;u_leave1 H.f_uAdd r hF;u_op r hF;u_c Ag r hF;u_c Ac r hF;u_c Ac r hF;u_reg r hF;iterate 4 (u_op r hF)
  u_skip r hF;u_skip r hF;u_op r hF;u_c Ag r hF;u_cnd aG r hF;u_c Db r hF;u_c Ac r hF;u_reg r hF;iterate 4 (u_op r hF)
  u_c Ag r hF;u_c Ac r hF;u_reg r hF;iterate 4 (u_op r hF)
  u_c Ag r hF;u_c Ac r hF;u_c Ac r hF;u_reg r hF;iterate 10 (u_op r hF)
  u_c Ag r hF;u_cnd aG r hF;u_c Db r hF;u_c Ac r hF;u_c Ac r hF;u_reg r hF;u_op r hF;u_op r hF;u_c Ag r hF;u_cnd aG r hF;u_c Db r hF;u_c Ac r hF;u_c Ac r hF;u_reg r hF;iterate 3 (u_op r hF)
  u_skip r hF;u_skip r hF;u_op r hF;u_op r hF;iterate 4 (u_skip r hF)
  u_op r hF;u_c Ag r hF;u_cnd aG r hF;u_c Db r hF;u_c Ac r hF;u_c Ac r hF;u_reg r hF;iterate 3 (u_op r hF)
  exact l7
end
end Go.Wg
namespace Go.Ga
open Go.Conc Go.Ren Go.Proofs Go.RowKit Go.Conc.Lib Go.Wg
open Go.ConcR (KK WgAt stA smA DC0 Payload)
open Go.ConcN (WgLive)
open Go.ConcR.Gen (body_add)
section
variable {S:Sp}{St:(zP)->(zP)->zU}{rs ws:zP}{d:Nat}{g g':zH}{w:zW}
def Sp.wg (S:Sp)(ws:zP):zP:=λb=>ws b\/b=S.Wg
def tA (c:g.status= .running) (h:∀w₁,cD rs (S.wg ws) w w₁->∃g' w' es,stepG S.P aF g w₁= .go g' w' es/\Go.Ren.Does (S.wg ws) w₁ w'/\S.J w'/\(∀e∈es,EvM S rs (grown ws w₁ w') e)/\∃tr,S.eC St tr (deafBehind d es) rs (grown ws w₁ w') g' w'):∃tr,S.eC St tr d rs ws g w:=by have b:∀w₁:zW,∃tr:Tree,cD rs (S.wg ws) w w₁->∃g' w' es,stepG S.P aF g w₁= .go g' w' es/\Go.Ren.Does (S.wg ws) w₁ w'/\S.J w'/\(∀e∈es,EvM S rs (grown ws w₁ w') e)/\S.eC St tr (deafBehind d es) rs (grown ws w₁ w') g' w':=λw₁=>by{by_cases a:cD rs (S.wg ws) w w₁;{let⟨g',w',es,l,k,j,i,tr,f⟩:=h w₁ a;exact⟨tr,ji⟩};{exact⟨.leaf,ji⟩}};exact⟨.node λw₁=>DJ (b w₁),c,λw₁ a=>Dl (b w₁) a⟩
def UY (h:S.J w){w₁}(r:cD rs (S.wg ws) w w₁):S.J w₁:=by let⟨a,b,x⟩:=h;exact⟨a,b,(r.cY S.Wg (aI (aI rfl))).trans x⟩
def Jl {w₁}(r:cD rs (S.wg ws) w w₁):cD rs ws w w₁:=⟨λb h=>r.cY b (h.imp id aH),r.size,r.tape,r.os,r.output⟩
def Kz {tr}(h:S.eC St tr d rs ws g w){w₁}(r:cD rs (S.wg ws) w w₁):S.eC St tr d rs ws g w₁:=Sp.eC.rely h r
def eG (c:S.J w)(a:g.status= .running)(h:∀w₁,stepG S.P aF g w₁= .go g' w₁ #[])(b:∃tr,S.eC St tr d rs ws g' w):∃tr,S.eC St tr d rs ws g w:=(tA a λw₁ r=>⟨g',w₁,(#[]),(λw₁ _=>h w₁) w₁ r,Go.Ren.Does.refl _ w₁,UY c r,λe f=>by rw[dW];exact ji,by rw[dW];exact let⟨tr,x⟩:=b;⟨tr,Kz x r⟩⟩)
def Ky (h:∀w₁,cD rs (S.wg ws) w w₁->St rs ws g w₁):∃tr,S.eC St tr 0 rs ws g w:=⟨.leaf,rfl,h⟩
def sZ {b:zC}{a:Act}{k:zI}{cs:zL}{ops:zQ}{i:Nat}{rest:List Nat}{o:Oper}(p:S.J w)(v:zY)(m:ops[i]? =aA o)(j:Region.wanted o (yielded ops a.tmps)=aF)(hk:b.kind≠.early) (l:∀w₁,cD rs (S.wg ws) w w₁->(vr a.eval o).run S.P w₁= .ok (.value v) w₁) (c:∀w₁,cD rs (S.wg ws) w w₁->∀e∈(vr a.eval o).events S.P w₁ #[],Is rs ws e) (n:∃tr,S.eC St tr d rs ws (G (b.at (a.put o.dst v) (aN ops rest::k)) cs) w):∃tr,S.eC St tr d rs ws (G (b.at a (aN ops (i::rest)::k)) cs) w:=tA rfl λw₁ r=>⟨_,w₁,_,stepG_value m j hk (l w₁ r),Go.Ren.Does.refl _ w₁,UY p r,λe h=>by rw[dW];exact aH (c w₁ r e (Fi h)),by have f:deafBehind d (listed S.P b.fn a o w₁)=d:=deafBehind_still (λe h=>by obtain⟨a,wr,s,rfl,_⟩|⟨r,s,rfl,_⟩|x|x|⟨q,x⟩:=c w₁ r e (Fi h);all_goals grind) d;rw[dW,f];exact let⟨tr,x⟩:=n;⟨tr,Kz x r⟩⟩
def Ar {es rs ws}(h:∀e∈es,Is rs ws e)(d):deafBehind d es=d:=deafBehind_still (λe b=>by obtain⟨a,wr,s,rfl,_⟩|⟨r,s,rfl,_⟩|x|x|⟨q,x⟩:=h e b;all_goals grind) d
def Kx {b:zC}{a:Act}{k:zI}{cs:zL}{ops:zQ}{i:Nat}{rest:List Nat}{o:Oper}(v:zW->zY)(W:zW->zW)(m:ops[i]? =aA o)(l:Region.wanted o (yielded ops a.tmps)=aF)(hk:b.kind≠.early) (h:∀w₁,cD rs (S.wg ws) w w₁->(vr a.eval o).run S.P w₁= .ok (.value (v w₁)) (W w₁)/\Go.Ren.Does ws w₁ (W w₁)/\S.J (W w₁)/\(∀e∈(vr a.eval o).events S.P w₁ #[],Is rs (grown ws w₁ (W w₁)) e)/\ ∃tr,S.eC St tr d rs (grown ws w₁ (W w₁)) (G (b.at (a.put o.dst (v w₁)) (aN ops rest::k)) cs) (W w₁)):∃tr,S.eC St tr d rs ws (G (b.at a (aN ops (i::rest)::k)) cs) w:=tA rfl λw₁ r=>let⟨h1,c,s,j,q⟩:=h w₁ r;⟨_,W w₁,_,stepG_value m l hk h1,⟨λb p n=>c.keep b p λx=>n (aH x),c.size,c.tape,c.os,c.output⟩,s,λe f=>aH (j e (Fi f)),by rw[Ar λe f=>j e (Fi f)];exact q⟩
def Bu {b:zC}{a:Act}{k:zI}{cs:zL}{ops:zQ}{i:Nat}{rest:List Nat}{o:Oper}(W:zW->zW)(m:ops[i]? =aA o)(l:Region.wanted o (yielded ops a.tmps)=aF)(hk:b.kind≠.early) (h:∀w₁,cD rs (S.wg ws) w w₁->(vr a.eval o).run S.P w₁= .ok .skip (W w₁)/\Go.Ren.Does ws w₁ (W w₁)/\S.J (W w₁)/\(∀e∈(vr a.eval o).events S.P w₁ #[],Is rs (grown ws w₁ (W w₁)) e)/\ ∃tr,S.eC St tr d rs (grown ws w₁ (W w₁)) (G (b.at (a.put o.dst ij) (aN ops rest::k)) cs) (W w₁)):∃tr,S.eC St tr d rs ws (G (b.at a (aN ops (i::rest)::k)) cs) w:=tA rfl λw₁ r=>let⟨h1,c,s,j,q⟩:=h w₁ r;⟨_,W w₁,_,stepG_none m l hk h1,⟨λb p n=>c.keep b p λx=>n (aH x),c.size,c.tape,c.os,c.output⟩,s,λe f=>aH (j e (Fi f)),by rw[Ar λe f=>j e (Fi f)];exact q⟩
def mV {Stop:zU}{w₀:zW}(hk:∀g w,cD rs (S.wg ws) w₀ w->S.J w->(∀w₁,S.J w₁->Stop g w₁)->∃tr,S.eC St tr d rs ws g w): ∀(m:Nat)(g:zH)(w:zW),cD rs (S.wg ws) w₀ w->S.J w->Go.Conc.Goes S.P aF (λ_ w₁=>WgLive S.ty S.Wg w₁) DC0 Stop m g w->∃tr,S.eC St tr d rs ws g w
 |0,g,w,c,e,h=>hk g w c e h|m+1,g,w,c,e,h=>by obtain h|⟨f,h⟩:=h;{simp_all};{refine tA f λw₁ r=> ?_;have a:=UY e r;let⟨g',b,n,l,⟨k,j⟩,i⟩:=goes_elim (h w₁ a);subst k;subst j;refine⟨g',b,#[],l,Go.Ren.Does.refl _ b,a,j0,?_⟩;rw[dW];exact mV hk m g' b (c.trans r) a i}
end
section
variable {S:Sp}{St:(zP)->(zP)->zU}{rs ws:zP}{w:zW}
def zCb (d):deafBehind d #[Go.ConcR.mk .disable]=d+1:=C7
def UE:deafBehind 1 #[Go.ConcR.mk .enable]=0:=C7
def aMj (d)(a):deafBehind d #[Go.ConcR.mk (.read a)]=d:=C7
def UM {d k m K w₀}(p:deafBehind d #[Go.ConcR.mk m]=k)(l:m= .disable\/m= .enable\/∃a,m= .read a/\a.block=S.Wg) (hk:∀g w,cD rs (S.wg ws) w₀ w->S.J w->K g w->∃tr,S.eC St tr k rs ws g w):∀g w,cD rs (S.wg ws) w₀ w->S.J w->(∀b,S.J b->iR S.P aF m K g b)->∃tr,S.eC St tr d rs ws g w:=by intro g w o j h;refine tA (h w j).1 λb r=> ?_;have c:=UY j r;let⟨_,n,f,s⟩:=h b c;refine⟨n,b,_,f,Go.Ren.Does.refl _ b,c,λe i=> ?_,?_⟩;{simp only[DI,Bb,Bq,Bm]at i;subst i;obtain rfl|rfl|⟨a,rfl,q⟩:=l;{exact aI ji};{exact aI ji};.exact aI ji};grind[cD.trans,dW]
def rk (Q:S.P=zAN)(H:S.ty=Tryz.link.tWg){j:Nat}(hj:j<2147483647)(J:∀b,rs b\/ws b->b≠S.Wg)(L:WgAt S.ty S.Wg w (j*KK) 0){p:zC}{q o l a k cs} (Y:∀w',cD rs ws w w'->WgAt S.ty S.Wg w' (((j+1:Nat):Int)*KK) 0->∃tr,S.eC St tr 0 rs ws (G (p.at (q.put ((o[l]?).bind (·.dst)) (.tuple #[])) (aN o a::k)) cs) w'): ∃tr,S.eC St tr 0 rs ws (G ((base Tryz.link.add).at ⟨#[.pointer (S.Wg,0),.int aD 1]++Bt 115 ij,[]⟩ [.code (body_add Tryz.link)]) (p.at q (aN o (l::a)::k)::cs)) w:=by let⟨P,ty,Wg,Cr,Cd,n,m0,Ok,Fa,M,Fin,rK,tS⟩:=S;dsimp only at Q H;subst Q;subst H;have R:WgLive Tryz.link.tWg Wg w:=⟨_,_,L⟩;let⟨m,Z⟩:=add1 (Fin:=λg _=>g=G (p.at (q.put ((o[l]?).bind (·.dst)) (.tuple #[])) (aN o a::k)) cs) (mT:=0) Tryz.Iv ⟨λ_ r=>⟨trivial,r⟩,λ_=>trivial,λ_=>trivial⟩ (λw _=>Goes.stop λ_ _=>rfl) w ⟨trivial,R⟩;have fin:∀(d:zW),cD rs ws w d->WgAt Tryz.link.tWg Wg d (((j+1:Nat):Int)*KK) 0->∀g w',cD rs (Sp.wg ⟨zAN,Tryz.link.tWg,Wg,Cr,Cd,n,m0,Ok,Fa,M,Fin,rK,tS⟩ ws) d w'->WgLive Tryz.link.tWg Wg w'->On zAN aF (λ_ c=>WgLive Tryz.link.tWg Wg c) (λg _=>g=G (p.at (q.put ((o[l]?).bind (·.dst)) (.tuple #[])) (aN o a::k)) cs) g w'->∃tr,Sp.eC ⟨zAN,Tryz.link.tWg,Wg,Cr,Cd,n,m0,Ok,Fa,M,Fin,rK,tS⟩ St tr 0 rs ws g w':=by{intro d x v g w' y z ⟨m,I⟩;refine mV (λg c f s B=> ?_) m g w' y z I;have e:=B c s;rw[e];exact Y c (x.trans (Jl f)) ((f.cY Wg (aI (aI rfl))).trans v)};have en:∀(d:zW),cD rs ws w d->WgAt Tryz.link.tWg Wg d (((j+1:Nat):Int)*KK) 0->∀g w',cD rs (Sp.wg ⟨zAN,Tryz.link.tWg,Wg,Cr,Cd,n,m0,Ok,Fa,M,Fin,rK,tS⟩ ws) d w'->WgLive Tryz.link.tWg Wg w'->On zAN aF (λ_ c=>WgLive Tryz.link.tWg Wg c) (iR zAN aF .enable (On zAN aF (λ_ c=>WgLive Tryz.link.tWg Wg c) (λg _=>g=G (p.at (q.put ((o[l]?).bind (·.dst)) (.tuple #[])) (aN o a::k)) cs))) g w'->∃tr,Sp.eC ⟨zAN,Tryz.link.tWg,Wg,Cr,Cd,n,m0,Ok,Fa,M,Fin,rK,tS⟩ St tr 1 rs ws g w':=by{intro d x v g w' y z ⟨m,I⟩;exact mV (UM UE ji ji) m g w' y z I};refine mV (UM (zCb 0) (aH rfl) λg w' y z ⟨V,I⟩=> ?_) m _ w (cD.refl _ _ w) R Z;refine mV (λU c f s B=> ?_) V g w' y z I;refine tA (B c s).1 λt C=> ?_;have h:WgAt Tryz.link.tWg Wg t (j*KK) 0:=((f.trans C).cY Wg (aI (aI rfl))).trans L;let⟨A,F,hK⟩:=(B t ⟨_,_,h⟩).2 j hj h;have u:=h.setSt (((j:Int)+1)*KK);have K:(((j:Nat):Int)+1)=(((j+1:Nat):Nat):Int):=by{omega};have E:cD rs ws w (zAJ t (stA Wg) (.int aR (((j:Int)+1)*KK))):=by{have r:=Jl (f.trans C);exact⟨λb O=>(cB _ _ (show b≠(stA Wg).block from J b O)).trans (r.cY b O),by rw[lP];exact r.size,by simp only[zAJ];exact r.tape,by simp only[zAJ];exact r.os,by simp only[zAJ];exact r.output⟩};refine⟨A,_,_,F,⟨λb _ X=>cB _ _ λe=>X (aI e),by rw[lP];exact bm,n9,n9,n9⟩,⟨_,_,u⟩,λe N=> ?_,?_⟩;{simp only[DI,Bb,Bq,Bm]at N;obtain rfl|rfl:=N;{exact V6};.exact V6};.have W:deafBehind (0+1) #[Go.ConcR.rd (stA Wg),Go.ConcR.wr (stA Wg)]=1:=X8;rw[W,lE];rw[K]at u;let⟨D,i⟩:=hK;by_cases T:j=0;{rw[AE T]at i;refine mV (w₀:=zAJ t (stA Wg) (.int aR (((j:Int)+1)*KK))) (UM j5 (aI (aI ⟨_,rfl,rfl⟩)) ji) D A _ (cD.refl _ _ _) ⟨_,_,h.setSt _⟩ i};{rw[AF T]at i;exact en _ E j5 A _ (cD.refl _ _ _) ⟨_,_,h.setSt _⟩ ⟨D,i⟩}
end
def L0:Code:=match f240.body with|some (.seq _ (.seq _ (.seq _ (.seq _ (.seq _ (.seq (.seq _ (.block _ (.loop b))) _))))))=>b|_=> .skip
def K0:Code:=match f240.body with|some (.seq _ (.seq _ (.seq _ (.seq _ (.seq _ (.seq _ c))))))=>c|_=> .skip
def Uu:zQ:=match L0 with| .seq _ (.seq _ (.seq (.block _ (.seq _ (.seq _ (.region _ ops _)))) _))=>ops|_=> #[]
def wv:Code:=match L0 with| .seq _ (.seq _ (.seq _ c))=>c|_=> .skip
structure Ft where
 N:Nat
 bp:Nat
 o:Nat
 cp:Nat
 b3:Nat
 b5:Nat
 b6:Nat
 fv:zY
 pt:Nat->zO
 K:zW->Prop
 old:zP
 lo:Nat
 pa:zO
abbrev Ft.p0 (T:Ft)(i:Nat):zY:= .pointer (T.pt i)
section
variable(S:Sp)(T:Ft)
structure Ft.Ok (rs ws:zP)(i:Nat)(w:zW):Prop where
 wC:∀b,rs b->¬ws b/\b<w.heap.size
 oz:∀b,rs b\/ws b->b≠S.Wg
 r3:rs T.b3
 r5:rs T.b5
 r6:rs T.b6
 rp:0<T.N->rs T.bp
 c3:w.cell? (T.b3,0)=aA T.fv
 c5:w.cell? (T.b5,0)=aA (.chan (aA S.Cr))
 c6:w.cell? (T.b6,0)=aA (.chan (aA S.Cd))
 q0:∀i,i<T.N->w.cell? (T.bp,T.o+i)=aA (T.p0 i)
 wg:WgAt S.ty S.Wg w (i*KK) 0
 DO:∀b,T.old b->rs b
 held:T.K w
 low:T.lo<=w.heap.size
end
section
variable {S:Sp}{T:Ft}{rs ws Se:zP}{i i':Nat}{w w':zW}
def Ft.nV (T:Ft):Prop:=∀w w',T.K w->(∀b,T.old b->w'.heap[b]? =w.heap[b]?)->w.heap.size<=w'.heap.size->w'.tape=w.tape->w'.os=w.os->w'.output=w.output->T.K w'
theorem Ft.Ok.lt (h:T.Ok S rs ws i w):S.Wg<w.heap.size:=(Ax.1 (show w.heap[S.Wg]? =aA _ from h.wg)).1
def Ft.Ok.to (k:T.nV)(h:T.Ok S rs ws i w)(hk:∀b,rs b->w'.heap[b]? =w.heap[b]?)(f:WgAt S.ty S.Wg w' (i'*KK) 0)(hs:w.heap.size<=w'.heap.size)(n:w'.tape=w.tape)(m:w'.os=w.os)(l:w'.output=w.output)(c:∀b,Se b->ws b\/w.heap.size<=b):T.Ok S rs Se i' w':=by have d:∀b j,rs b->w'.cell? (b,j)=w.cell? ⟨b,j,aB⟩:=λb j a=>by{simp only[World.cell?];rw[hk b a]};have hl:=h.lt;exact⟨λb a=>⟨λx=>(c b x).elim (h.wC b a).1 λy=>J8,Ao (h.wC b a).2 hs⟩,λb a e=>a.elim (λx=>h.oz b (aH x) e) λx=>(c b x).elim (λy=>h.oz b (aI y) e) bm,h.r3,h.r5,h.r6,h.rp,(d _ _ h.r3).trans h.c3,(d _ _ h.r5).trans h.c5,(d _ _ h.r6).trans h.c6,λj g=>(d _ _ (h.rp (by omega))).trans (h.q0 j g),f,h.DO,k w w' h.held (λb a=>hk b (h.DO b a)) hs n m l,Az h.low hs⟩
def Ft.Ok.nR (c:T.nV)(h:T.Ok S rs ws i w)(r:cD rs (S.wg ws) w w'):T.Ok S rs ws i w':=h.to c (λb a=>r.cY b (aH a)) ((r.cY S.Wg (aI (aI rfl))).trans h.wg) r.size r.tape r.os r.output ji
def Ft.Ok.wb (d:T.nV)(h:T.Ok S rs ws i w)(r:cD rs ws w w')(a:WgAt S.ty S.Wg w' (i'*KK) 0):T.Ok S rs ws i' w':=h.to d (λb c=>r.cY b (aH c)) a r.size r.tape r.os r.output ji
def Ft.Ok.alloc (c:T.nV)(h:T.Ok S rs ws i w)(o:Obj):T.Ok S rs (grown ws w (zAK w o)) i (zAK w o):=h.to c (λb a=>alloc_old w o (h.wC b a).2) ((alloc_old w o h.lt).trans h.wg) j1 rfl rfl rfl λ_ a=>a.imp id λy=>y.1
def Ft.Ok.set (f:T.nV)(h:T.Ok S rs ws i w){a:Addr}(v:zY)(c:ws a.block):T.Ok S rs ws i (zAJ w a v):=h.to f (λb d=>cB w v λe=>(h.wC b d).1 (e▸c)) ((cB w v λe=>h.oz _ (aI c) e.symm).trans h.wg) j1 j1 n9 n9 ji
def Ft.Ok.live (h:T.Ok S rs ws i w):S.J w:=⟨_,_,h.wg⟩
end
section
variable {S:Sp}{T:Ft}{St:(zP)->(zP)->zU}{rs ws:zP}{i:Nat}{w:zW}{ds:List Deferred}{cs:zL}
abbrev Pj (S:Sp) (T:Ft) (ds:List Deferred) (cs:zL) (M L K J I H F E D C:zY) (i:Int) (B A z x v u t s r q p o n m l j h g f e d c b a y:zY) (k:zI):zH:=G ((base 240).at ⟨#[.slice T.pa T.N T.cp,M,L,.pointer (T.b3,0),K,.pointer (T.b5,0),.pointer (T.b6,0),.pointer (S.Wg,0),J,I,H,F,E,D,C,.slice T.pa T.N T.cp,.int aD T.N,.int aD i,B,A,z,x,v,u,t,s,r,q,p,o,n,m,l,j,h,g,f,e,d,c,b,a,y],ds⟩ k) cs
def Yk {b:zC}{a:Act}{k:zI}{ops:zQ}{i:Nat}{rest:List Nat}{o:Oper}{f:zN}{args:zA}{d:Nat}(l:S.J w)(e:ops[i]? =aA o)(h:Region.wanted o (yielded ops a.tmps)=aF)(hk:b.kind≠.early) (c:∀w₁,(vr a.eval o).run S.P w₁= .ok (.enter f args) w₁) (j:∀w₁,(vr a.eval o).events S.P w₁ #[]= #[]) (g:∃tr,S.eC St tr d rs ws (G (Frame.enter S.P f args .normal) (b.at a (aN ops (i::rest)::k)::cs)) w):∃tr,S.eC St tr d rs ws (G (b.at a (aN ops (i::rest)::k)) cs) w:=eG l rfl (λw₁=>by rw[stepG_enter e h hk (c w₁),listed_none (j w₁)]) g
def Pl (hP:S.P=zAN)(tq:S.ty=Tryz.link.tWg)(m:T.nV)(h:T.Ok S rs ws i w)(Zz:0<T.N->T.pa=aA ((T.bp,T.o):Addr))(hi:i<T.N)(hN:T.N<2147483648)(y1 y2 y4 y8 y9 mr Ct Cs Z Y VA Rp aq ao ak aj X W V U R Q O L K J I H G F E D C B A)
  (hn:∀(Se)(w')(d g)(vg vf ve vd uz),T.Ok S rs Se (i+1) w'->T.lo<=d->Se d->Se g->d<w'.heap.size->g<w'.heap.size->w'.cell? d=aA (.int aD i)->w'.cell? g=aA (T.p0 i)->
   ∃tr,S.eC St tr 0 rs Se (Pj S T ds cs y1 y2 y4 (.pointer d) (.pointer g) mr Ct Cs Z Y i vg vf ve vd uz (.func (.func 244) #[] #[.pointer (S.Wg,0),.pointer (T.b5,0),.pointer d,.pointer (T.b3,0),.pointer g]) X W V U R Q O L K J I H G F E D C B A [aN Uu [1],.inBlock 1,.code wv,.inLoop L0,.inBlock 0,.code K0]) w'):
  ∃tr,S.eC St tr 0 rs ws (Pj S T ds cs y1 y2 y4 y8 y9 mr Ct Cs Z Y i VA Rp aq ao ak aj X W V U R Q O L K J I H G F E D C B A [.code L0,.inLoop L0,.inBlock 0,.code K0]) w:=by
 let⟨P,ty,Wg,Cr,Cd,n,m0,Ok,Fa,M,Fin,rK,tS⟩:=S;dsimp only at hP;subst hP;have p:=h.live;simp only[L0,f240];refine eG p rfl (λ_=>Ac) ?_;refine eG p rfl (λ_=>Dg) ?_;simp only[List.range.loop];have qh:(i:Int)<T.N:=by omega
 refine sZ p (.bool aF) rfl rfl j8 (λb r=>I3) (λb r e k=>J9) ?_;walk_nrm;refine eG p rfl (λ_=>Ag) ?_;refine eG p rfl (λ_=>Ac) ?_;refine eG p rfl (λ_=>stepG_cond rfl) ?_;simp only[Cx];refine eG p rfl (λ_=>Db) ?_;refine eG p rfl (λ_=>Ac) ?_;refine eG p rfl (λ_=>Fw) ?_;refine eG p rfl (λ_=>Ac) ?_;refine eG p rfl (λ_=>Dg) ?_;simp only[List.range,List.range.loop];refine sZ p (.int aD i) rfl rfl j8 (λb r=>I3) (λb r e k=>J9) ?_;walk_nrm;refine sZ p (.pointer (T.bp,T.o+i)) rfl rfl j8 (λb r=> ?_) (λb r e k=> ?_) ?_
 .have hp:=Zz bm;exact I3
 .have e2:(Instr.indexAt 166 (.slice T.pa T.N T.cp) (.int aD i)).events zAN b #[]= #[]:=by
   rw[Zz bm];exact events_indexAt_slice 166 (T.bp,T.o) T.N T.cp aD i c9 ⟨bm,qh⟩
  simp[go_sem,e2]at k
 walk_nrm;refine sZ p (T.p0 i) rfl rfl j8 (λb r=> ?_) (λb r e k=> ?_) ?_
 .have x:=(h.nR m r).q0 i hi;exact I3
 .have x:=(h.nR m r).q0 i hi;simp[go_sem,x]at k;subst k;exact aH ⟨_,_,_,rfl,aI ⟨rfl,h.rp bm⟩⟩
 walk_nrm;refine Kx (λb=> .pointer b) (λb=>zAK b (aJ #[.int aD 0] 3)) rfl rfl j8 λb r=>⟨I3,sV ws b _,((h.nR m r).alloc m _).live,λe k=>J9,?_⟩;walk_nrm;have h2:=(h.nR m r).alloc m (aJ #[.int aD 0] 3);have a2:=sB b (aJ #[.int aD 0] 3);have o2:grown ws b (zAK b (aJ #[.int aD 0] 3)) b.heap.size:=aI ⟨je _,P7⟩;have l2:b.heap.size<(zAK b (aJ #[.int aD 0] 3)).heap.size:=by rw[kS];omega
 have lo8:=(h.nR m r).low;clear r;generalize grown ws b (zAK b (aJ #[.int aD 0] 3))=q at*;generalize zAK b (aJ #[.int aD 0] 3)=w2 at*;generalize b.heap.size=d at*;clear b h p;refine Kx (λb=> .pointer b) (λb=>zAK b (aJ #[.pointer aB] 264)) rfl rfl j8 λb r=>⟨I3,sV q b _,((h2.nR m r).alloc m _).live,λe k=>J9,?_⟩;walk_nrm;have h3:=(h2.nR m r).alloc m (aJ #[.pointer aB] 264);have a3:=sB b (aJ #[.pointer aB] 264);have u:grown q b (zAK b (aJ #[.pointer aB] 264)) b.heap.size:=aI ⟨je _,P7⟩;have l3:b.heap.size<(zAK b (aJ #[.pointer aB] 264)).heap.size:=by rw[kS];omega
 have l:grown q b (zAK b (aJ #[.pointer aB] 264)) d:=aH o2;have l2':=Ao l2 r.size;have v:(zAK b (aJ #[.pointer aB] 264)).heap[d]? =aA (aJ #[.int aD 0] 3):=(alloc_old _ _ l2').trans ((r.cY d (aI (aH o2))).trans a2);clear r o2 a2 l2 h2;generalize grown q b (zAK b (aJ #[.pointer aB] 264))=z at*;generalize zAK b (aJ #[.pointer aB] 264)=w3 at*;generalize b.heap.size=g at*;clear b q w2;refine Bu (λb=>zAJ b d (.int aD i)) rfl rfl j8 λb r=>⟨?_,MK z b _ l,((h3.nR m r).set m _ l).live,?_,?_⟩
 .have s:=(r.cY d (aI (aH l))).trans v;have x:=bG s 0;have k1:=eI s 0;exact I3
 .intro e k;have s:=(r.cY d (aI (aH l))).trans v;have x:=bG s 0;have k1:=eI s 0;rw[lE];simp[go_sem,x,k1]at k;subst k;exact aH ⟨_,_,_,rfl,aH l⟩
 walk_nrm;rw[lE];have h4:=(h3.nR m r).set m (a:=d) (.int aD i) l;have a4:=dM ((r.cY d (aI (aH l))).trans v) 0 (.int aD i);have a5:(zAJ b d (.int aD i)).heap[g]? =aA (aJ #[.pointer aB] 264):=(cB _ _ (show g≠d from bm)).trans ((r.cY g (aI (aH u))).trans a3);have l4:g<(zAJ b d (.int aD i)).heap.size:=by rw[lP];exact Ao l3 r.size
 simp only[Ey,Fs,Gx]at a4;clear r h3 a3 v l3;generalize zAJ b d (.int aD i)=w4 at*;clear b w3;refine Bu (λb=>zAJ b g (T.p0 i)) rfl rfl j8 λb r=>⟨?_,MK z b _ u,((h4.nR m r).set m _ u).live,?_,?_⟩
 .have t:=(r.cY g (aI (aH u))).trans a5;have x:=bG t 0;have k1:=eI t 0;exact I3
 .intro e k;have t:=(r.cY g (aI (aH u))).trans a5;have x:=bG t 0;have k1:=eI t 0;rw[lE];simp[go_sem]at k;rw[events_store zAN _ _ _ (T.p0 i) _ rfl]at k;simp[x,k1]at k;subst k;exact aH ⟨_,_,_,rfl,aH u⟩
 walk_nrm;rw[lE];have y:=(h4.nR m r).set m (a:=g) (T.p0 i) u;have a6:=dM ((r.cY g (aI (aH u))).trans a5) 0 (T.p0 i);have a7:(zAJ b g (T.p0 i)).heap[d]? =aA (aJ #[.int aD i] 3):=(cB _ _ (show d≠g from bm)).trans ((r.cY d (aI (aH l))).trans a4);have l5:g<(zAJ b g (T.p0 i)).heap.size:=by rw[lP];exact Ao l4 r.size
 simp only[Ey,Fs,Gx]at a6;clear r h4 a4 a5 l4;generalize zAJ b g (T.p0 i)=w5 at*;clear b w4;refine eG y.live rfl (λ_=>Ag) ?_;refine eG y.live rfl (λ_=>Ac) ?_;refine eG y.live rfl (λ_=>Dg) ?_;simp only[Dq,Bf,CH,Nat.reduceAdd,Ce,List.range,List.range.loop];refine Yk (f:=181) (args:= #[.pointer Wg,.int aD 1]) y.live rfl rfl j8 (λb=> ?_) (λb=> ?_) ?_
 .exact Z6
 .exact Z6
 rw[enter_at (P:=zAN) (f:=181) (c:=body_add Tryz.link) #[.pointer Wg,.int aD 1] func181 rfl];refine rk (S:=⟨zAN,ty,Wg,Cr,Cd,n,m0,Ok,Fa,M,Fin,rK,tS⟩) rfl tq (j:=i) bm y.oz y.wg λw' r hw=> ?_;have h6:=y.wb m r (i':=i+1) hw;have l6:=Ao l5 r.size;have k8:=bG ((r.cY d (aI l)).trans a7) 0;have k9:=bG ((r.cY g (aI u)).trans a6) 0;clear r y a6 a7 l5;refine eG h6.live rfl (λ_=>Ag) ?_;refine eG h6.live rfl (λ_=>Dg) ?_;simp only[Dq,Bf,CH,Nat.reduceAdd,Ce,List.range,List.range.loop];walk_nrm;refine sZ h6.live (.func (.func 244) #[] #[.pointer Wg,.pointer (T.b5,0),.pointer d,.pointer (T.b3,0),.pointer g]) rfl rfl j8 (λb r=>I3) (λb r e k=>J9) ?_;walk_nrm;exact hn z w' d g _ _ _ _ _ h6 lo8 l u bm l6 k8 k9
end
def TP:∃i,Tryz.prog.info? 283=aA i/\i.zero=aA (.slice aB 0 0)/\i.size=1/\i.bytes=24:=⟨_,rfl,rfl,rfl,rfl⟩
def bu {N:Nat}(f:N<2147483648)(w):(Instr.makeSlice 287 (.int aD N) (.int aD N)).run zAN w= .ok (.slice w N N) (zAK w (aJ (madeCells #[.slice aB 0 0] N) 283)):=by let⟨i,d,c,a,g⟩:=TP;have e:=run_make w 287 283 i (.slice aB 0 0) underlying287 d c aD aD N N bm bm ji bm;rw[a]at e;simpa [Value.cells]using e
def qx {N:Nat}(k:N<2147483648)(w):(Instr.makeSlice 287 (.int aD N) (.int aD N)).events zAN w #[]= #[]:=by let⟨i,f,e,d,c⟩:=TP;have wl:IntKind.i64.wrap (N:Int)=N:=by{rw[Dt];omega};have j:¬(N:Int)<0:=by{omega};have n:¬(281474976710656<(24:Int)*N):=by{omega};have n3:N*24<=roomBytes:=by{simp only[roomBytes];omega};by_cases a:N=0;{subst a;have g:IntKind.i64.wrap 0=0:=j5;simp[Instr.makeSlice,run_underlying underlying287,asInt,asIntOf,typeInfo,f,e,d,c,sizeOf,zeroValue,newRow,askRoom,g,go_sem]};.simp[Instr.makeSlice,run_underlying underlying287,asInt,asIntOf,typeInfo,f,e,d,c,sizeOf,zeroValue,wl,j,n,n3,a,newRow,askRoom,go_sem]
def YI:zQ:=match K0 with| .seq (.region _ ops _) _=>ops|_=> #[]
def K1:Code:=match K0 with| .seq _ c=>c|_=> .skip
def Ft.gt (S:Sp)(T:Ft)(ds:List Deferred)(cs:zL)(Rw:Nat->zO->Nat->Nat->(zP)->zW->Prop)(rwr:∀{i q l cp h w w₁},Rw i q l cp h w->(∀b,h b->w₁.heap[b]? =w.heap[b]?)->Rw i q l cp h w₁):Gt:=⟨T.N,T.b5,T.b6,S.Cr,S.Cd,ds,cs,Rw,rwr,T.K,T.old,T.lo⟩
section
variable {S:Sp}{T:Ft}{St:(zP)->(zP)->zU}{rs ws:zP}{i:Nat}{w:zW}{ds:List Deferred}{cs:zL}{Rw:Nat->zO->Nat->Nat->(zP)->zW->Prop}{rwr:∀{i q l cp h w w₁},Rw i q l cp h w->(∀b,h b->w₁.heap[b]? =w.heap[b]?)->Rw i q l cp h w₁}
def zEk (hP:S.P=zAN)(hM:S.M=(T.gt S ds cs Rw rwr).M)(hT:T.nV)(h:T.Ok S rs ws i w)(hN:T.N<2147483648)(j)(y1 y2 y4 y8 y9 mr Ct Cs Z Y X W V U R Q O L K I H G F E D C B A z v u t s p o):
  ∃tr,dR zAN aF S.J (S.M λ_=>False) tr rs ws (Pj S T ds cs y1 y2 y4 y8 y9 mr Ct Cs Z Y j X W V U R Q O L K I H G F E D C B A z v u t s p o [aN YI [],.code K1]) w:=by
 rw[hM];refine bZ rfl (λ_=>Ag) ?_;simp only[K1,K0,f240];refine bZ rfl (λ_=>Ac) ?_;refine bZ rfl (λ_=>Dg) ?_;simp only[Dq,Bf,CH,Nat.reduceAdd,Ce,List.range,List.range.loop];refine iK (.slice T.pa T.N T.cp) rfl rfl j8 (λw₁ r _=>I3) (λw₁ r _ e c=>by simp[go_sem]at c) ?_;walk_nrm;refine iK (.int aD T.N) rfl rfl j8 (λw₁ r _=>I3) (λw₁ r _ e c=>by simp[go_sem]at c) ?_;walk_nrm;refine RE (λw₁=> .slice w₁ T.N T.N) (λw₁=>zAK w₁ (aJ (madeCells #[.slice aB 0 0] T.N) 283)) rfl rfl j8 λw₁ r jj=>⟨?_,sV ws w₁ _,λe c=> ?_,?_⟩
 .have e1:=bu hN w₁;exact I3
 .have e1:=qx hN w₁;simp[go_sem,e1]at c
 walk_nrm;have hk:∀b,rs b->(zAK w₁ (aJ (madeCells #[.slice aB 0 0] T.N) 283)).heap[b]? =w.heap[b]? :=λb a=>(alloc_old _ _ (Ao (h.wC b a).2 r.size)).trans (r.cY b (aH a));have m:=sB w₁ (aJ (madeCells #[.slice aB 0 0] T.N) 283);have hlt:w₁.heap.size<(zAK w₁ (aJ (madeCells #[.slice aB 0 0] T.N) 283)).heap.size:=by rw[kS];omega
 have hge:=r.size;have g:grown ws w₁ (zAK w₁ (aJ (madeCells #[.slice aB 0 0] T.N) 283)) w₁.heap.size:=aI ⟨je _,hlt⟩;have n:∀b,rs b->¬grown ws w₁ (zAK w₁ (aJ (madeCells #[.slice aB 0 0] T.N) 283)) b:=λb a x=>x.elim (h.wC b a).1 λy=>by have:=(h.wC b a).2;omega
 have ht:(zAK w₁ (aJ (madeCells #[.slice aB 0 0] T.N) 283)).tape=w.tape:=r.tape;have ho:(zAK w₁ (aJ (madeCells #[.slice aB 0 0] T.N) 283)).os=w.os:=r.os;have hu:(zAK w₁ (aJ (madeCells #[.slice aB 0 0] T.N) 283)).output=w.output:=r.output;clear r jj;generalize grown ws w₁ (zAK w₁ (aJ (madeCells #[.slice aB 0 0] T.N) 283))=ws2 at*;generalize zAK w₁ (aJ (madeCells #[.slice aB 0 0] T.N) 283)=w2 at*;generalize w₁.heap.size=bo at*;clear w₁;have d:∀(b k:Nat),rs b->w2.cell? (b,k)=w.cell? (b,k):=λb k a=>by simp only[World.cell?];rw[hk b a]
 have k5:=(d T.b5 0 h.r5).trans h.c5;have k6:=(d T.b6 0 h.r6).trans h.c6;refine iK (.slice bo T.N T.N) rfl rfl j8 (λw₁ r _=>I3) (λw₁ r _ e c=>by simp[go_sem]at c) ?_;walk_nrm;refine bZ rfl (λ_=>Ag) ?_;refine bZ rfl (λ_=>Fw) ?_;refine bZ rfl (λ_=>stepG_loop) ?_;refine bZ rfl (λ_=>Fw) ?_;iterate 2 (refine bZ rfl (λ_=>Ac) ?_)
 refine bZ rfl (λ_=>Dg) ?_;simp only[Dq,Bf,CH,Nat.reduceAdd,Ce,List.range,List.range.loop];refine iK (.chan (aA S.Cr)) rfl rfl j8 (λw₁ r _=> ?_) (λw₁ r _ e c=> ?_) ?_
 .have f:=(dD (aH h.r5) r 0).trans k5;exact I3
 .have f:=(dD (aH h.r5) r 0).trans k5;simp[go_sem,f]at c;subst c;exact aH ⟨_,_,_,rfl,aI ⟨rfl,h.r5⟩⟩
 walk_nrm;refine bZ rfl (λ_=>Ag) ?_;refine bZ rfl (λ_=>Dg) ?_;simp only[Dq,Bf,CH,Nat.reduceAdd,Ce,List.range,List.range.loop];refine iK (.chan (aA S.Cd)) rfl rfl j8 (λw₁ r _=> ?_) (λw₁ r _ e c=> ?_) ?_
 .have f:=(dD (aH h.r6) r 0).trans k6;exact I3
 .have f:=(dD (aH h.r6) r 0).trans k6;simp[go_sem,f]at c;subst c;exact aH ⟨_,_,_,rfl,aI ⟨rfl,h.r6⟩⟩
 walk_nrm;refine bZ rfl (λ_=>Ag) ?_;refine bZ rfl (λ_=>Ac) ?_;refine bZ rfl (λ_=>Dg) ?_;simp only[Dq,Bf,CH,Nat.reduceAdd,Ce,List.range,List.range.loop];refine EK λw₁ r _=> ?_;have GQ:∀b,rs b->w₁.heap[b]? =w.heap[b]? :=λb a=>(r.cY b (aH a)).trans (hk b a);refine⟨bo,madeCells #[.slice aB 0 0] T.N,_,_,_,_,_,_,_,_,_,_,_,_,_,_,_,_,_,_,_,_,_,_,_,_,_,_,_,_,_,_,_,_,_,_,_,_,_,_,rfl,⟨h.r5,h.r6,(dD (aH h.r5) r 0).trans k5,(dD (aH h.r6) r 0).trans k6,g,(r.cY bo (aI g)).trans m,size_madeCells _ _,Ao hlt r.size,λb a=>⟨n b a,?_⟩,λ_ _ x=>x.elim,hT w w₁ h.held (λb a=>GQ b (h.DO b a)) ?_ (r.tape.trans ht) (r.os.trans ho) (r.output.trans hu),h.DO,Az h.low hge⟩⟩
 .have:=(h.wC b a).2;have:=r.size;exact bm
 .have:=r.size;exact bm
def Ft.Ok.hand {hh:zP}(h:T.Ok S rs ws i w)(d:∀b,hh b->rs b\/ws b)(c:∀b,hh b->b<w.heap.size):T.Ok S (λb=>rs b\/hh b) (λb=>ws b/\¬hh b) i w:= ⟨λb a=>⟨λx=>a.elim (λy=>(h.wC b y).1 x.1) λy=>x.2 y,a.elim (λy=>(h.wC b y).2) (c b)⟩,λb a=>a.elim (λx=>x.elim (λy=>h.oz b (aH y)) λy=>h.oz b (d b y)) λx=>h.oz b (aI x.1),aH h.r3,aH h.r5,aH h.r6,λx=>aH (h.rp x),h.c3,h.c5,h.c6,h.q0,h.wg,λb a=>aH (h.DO b a),h.held,h.low⟩
def zAv (j)(U R Q P O M L K J I H G F E D C B X A z x v u t s r p o n m g f d c y:zY)(w): stepG zAN aF (Pj S T ds cs U R Q P O M L K J I j H G F E D C B (.func (.func 245) #[] #[.pointer (T.b6,0),.pointer (S.Wg,0)]) A z x v u t s r p o n m g f d c y [aN YI [1],.code K1]) w= .spawn (Pj S T ds cs U R Q P O M L K J I j H G F E D C B (.func (.func 245) #[] #[.pointer (T.b6,0),.pointer (S.Wg,0)]) A z x v u t s r p o n m g f d c y [aN YI [],.code K1]) (born zAN ⟨.fn (.func 245) #[.pointer (T.b6,0),.pointer (S.Wg,0)],#[]⟩) w #[]:=by have Y:YI[1]? =aA {dst:=aB,op:= .go ⟨.value (.tmp 25),#[],#[]⟩,type:=0,pos:= "gather.go:30",after:= #[⟨0,.data⟩],guard:=aB}:=rfl;have W:∀a:Act,a.eval (.tmp 25)=(.func (.func 245) #[] #[.pointer (T.b6,0),.pointer (S.Wg,0)])->(vr a.eval ⟨aB,.go ⟨.value (.tmp 25),#[],#[]⟩,0,"gather.go:30",#[⟨0,.data⟩],aB⟩).run Tryz.prog w= .ok (.spawn ⟨.fn (.func 245) #[.pointer (T.b6,0),.pointer (S.Wg,0)],#[]⟩) w/\ (vr a.eval ⟨aB,.go ⟨.value (.tmp 25),#[],#[]⟩,0,"gather.go:30",#[⟨0,.data⟩],aB⟩).events Tryz.prog w #[]= #[]:=λa V=>by{simp only[Act.eval,Ez]at V;constructor;{simp[V,go_sem]};.simp[Gi,V,go_sem]};have e:=stepG_spawn (main:=aF) (b:=base 240) (k:=[.code K1]) (cs:=cs) (rest:=[]) Y (a:=⟨#[.slice T.pa T.N T.cp,U,R,.pointer (T.b3,0),Q,.pointer (T.b5,0),.pointer (T.b6,0),.pointer (S.Wg,0),P,O,M,L,K,J,I,.slice T.pa T.N T.cp,.int aD T.N,.int aD j,H,G,F,E,D,C,B,(.func (.func 245) #[] #[.pointer (T.b6,0),.pointer (S.Wg,0)]),A,z,x,v,u,t,s,r,p,o,n,m,g,f,d,c,y],ds⟩) rfl j8 (W _ rfl).1 rfl;rw[listed_none (W _ rfl).2]at e;exact e
def SH (j)(P O)(W V U R Q M L K J I H G F E D Y C B A z x v u t s r p o n m g f d c y:zY)(w):
  stepG Tryz.prog aF (Pj S T ds cs W V U R Q M L K J I j H G F E D (.func (.func 244) #[] #[.pointer (aA ⟨S.Wg,0,aB⟩),.pointer (aA ⟨T.b5,0,aB⟩),.pointer (aA ⟨P,0,aB⟩),.pointer (aA ⟨T.b3,0,aB⟩),.pointer (aA ⟨O,0,aB⟩)]) C B A z x v u t s r p o n m g f d c y [aN Uu [1],.inBlock 1,.code wv,.inLoop L0,.inBlock 0,.code K0]) w=
  .spawn (Pj S T ds cs W V U R Q M L K J I j H G F E D (.func (.func 244) #[] #[.pointer (aA ⟨S.Wg,0,aB⟩),.pointer (aA ⟨T.b5,0,aB⟩),.pointer (aA ⟨P,0,aB⟩),.pointer (aA ⟨T.b3,0,aB⟩),.pointer (aA ⟨O,0,aB⟩)]) C B A z x v u t s r p o n m g f d c y [aN Uu [],.inBlock 1,.code wv,.inLoop L0,.inBlock 0,.code K0]) (born Tryz.prog ⟨.fn (.func 244) #[.pointer (aA ⟨S.Wg,0,aB⟩),.pointer (aA ⟨T.b5,0,aB⟩),.pointer (aA ⟨P,0,aB⟩),.pointer (aA ⟨T.b3,0,aB⟩),.pointer (aA ⟨O,0,aB⟩)],#[]⟩) w #[]:=by have ho:Uu[1]? =aA {dst:=aB,op:= .go ⟨.value (.tmp 23),#[],#[]⟩,type:=0,pos:= "gather.go:25",after:= #[⟨0,.data⟩],guard:=aB}:=rfl;have Z:∀a:Act,a.eval (.tmp 23)=(.func (.func 244) #[] #[.pointer (S.Wg,0),.pointer (T.b5,0),.pointer P,.pointer (T.b3,0),.pointer O])->(vr a.eval ⟨aB,.go ⟨.value (.tmp 23),#[],#[]⟩,0,"gather.go:25",#[⟨0,.data⟩],aB⟩).run Tryz.prog w= .ok (.spawn ⟨.fn (.func 244) #[.pointer (S.Wg,0),.pointer (T.b5,0),.pointer P,.pointer (T.b3,0),.pointer O],#[]⟩) w/\ (vr a.eval ⟨aB,.go ⟨.value (.tmp 23),#[],#[]⟩,0,"gather.go:25",#[⟨0,.data⟩],aB⟩).events Tryz.prog w #[]= #[]:=λa X=>by{simp only[Act.eval,Ez]at X;constructor;{simp[X,go_sem]};.simp[Gi,X,go_sem]};have e:=stepG_spawn (main:=aF) (b:=base 240) (k:=[.inBlock 1,.code wv,.inLoop L0,.inBlock 0,.code K0]) (cs:=cs) (rest:=[]) ho (a:=⟨#[.slice T.pa T.N T.cp,W,V,.pointer (T.b3,0),U,.pointer (T.b5,0),.pointer (T.b6,0),.pointer (S.Wg,0),R,Q,M,L,K,J,I,.slice T.pa T.N T.cp,.int aD T.N,.int aD j,H,G,F,E,D,(.func (.func 244) #[] #[.pointer (S.Wg,0),.pointer (T.b5,0),.pointer P,.pointer (T.b3,0),.pointer O]),C,B,A,z,x,v,u,t,s,r,p,o,n,m,g,f,d,c,y],ds⟩) rfl j8 (Z _ rfl).1 rfl;exact j5
def Wx (hP:S.P=zAN)(a:S.J w)(Z Y X W V O L K I H R G F E D C B Q A z x v u t s p o m k j g f d c y) (hn:∃tr,S.eC St tr 0 rs ws (Pj S T ds cs Z Y X W V O L K I H T.N (.bool aG) G F E D C B (.func (.func 245) #[] #[.pointer (T.b6,0),.pointer (S.Wg,0)]) A z x v u t s p o m k j g f d c y [aN YI [1],.code K1]) w): ∃tr,S.eC St tr 0 rs ws (Pj S T ds cs Z Y X W V O L K I H T.N R G F E D C B Q A z x v u t s p o m k j g f d c y [.code L0,.inLoop L0,.inBlock 0,.code K0]) w:=by let⟨P,ty,Wg,Cr,Cd,n,m0,Ok,Fa,M,Fin,rK,tS⟩:=S;dsimp only at hP;subst hP;simp only[L0,f240];refine eG a rfl (λ_=>Ac) ?_;refine eG a rfl (λ_=>Dg) ?_;simp only[List.range.loop];refine sZ a (.bool aG) rfl rfl j8 (λw₁ r=>I3) (λw₁ r e U=>by simp[go_sem]at U) ?_;walk_nrm;refine eG a rfl (λ_=>Ag) ?_;refine eG a rfl (λ_=>Ac) ?_;refine eG a rfl (λ_=>stepG_cond rfl) ?_;simp only[Dj,Dh];refine eG a rfl (λ_=>stepG_exit rfl) ?_;simp only[K0,f240];refine eG a rfl (λ_=>Ac) ?_;refine eG a rfl (λ_=>Dg) ?_;simp only[CH,Nat.reduceAdd,Ce,List.range,List.range.loop];refine sZ a (.func (.func 245) #[] #[.pointer (T.b6,0),.pointer Wg]) rfl rfl j8 (λw₁ r=>I3) (λw₁ r e U=>by simp[go_sem]at U) ?_;walk_nrm;exact hn
def Pn (Z:S.P=zAN)(a:S.J w)(hi:i<2147483648)(Y X W V U O N L K I H G F E D C Q B A z x v u t s p o m k j g f d c y) (hn:∃tr,S.eC St tr 0 rs ws (Pj S T ds cs Y X W V U O N L K I ((i+1:Nat):Int) H G F E D C (.int aD ((i+1:Nat):Int)) B A z x v u t s p o m k j g f d c y [.code L0,.inLoop L0,.inBlock 0,.code K0]) w): ∃tr,S.eC St tr 0 rs ws (Pj S T ds cs Y X W V U O N L K I i H G F E D C Q B A z x v u t s p o m k j g f d c y [aN Uu [],.inBlock 1,.code wv,.inLoop L0,.inBlock 0,.code K0]) w:=by let⟨P,ty,Wg,Cr,Cd,n,m0,Ok,Fa,M,Fin,rK,tS⟩:=S;dsimp only at Z;subst Z;have wl:IntKind.i64.wrap ((i:Int)+1)=((i+1:Nat):Int):=by{rw[Dt];omega};refine eG a rfl (λ_=>Ag) ?_;refine eG a rfl (λ_=>stepG_inBlock) ?_;simp only[f240];refine eG a rfl (λ_=>Dg) ?_;simp only[List.range,List.range.loop];refine sZ a (.int aD ((i+1:Nat):Int)) rfl rfl j8 (λw₁ r=>I3) (λw₁ r e R=>by simp[go_sem]at R) ?_;walk_nrm;refine sZ a (.int aD ((i+1:Nat):Int)) rfl rfl j8 (λw₁ r=>I3) (λw₁ r e R=>by simp[go_sem]at R) ?_;walk_nrm;refine eG a rfl (λ_=>Ag) ?_;refine eG a rfl (λ_=>stepG_inLoop) ?_;exact hn
def km {f:zN}{fn:Func}{first cap:zA}(Zz:0<T.N->T.pa=aA ⟨T.bp,T.o,aB⟩)(hP:S.P=Tryz.prog)(tq:S.ty=Tryz.link.tWg)(hA:S.rK=Le T.b6 S.Wg S.Cd)(hM:S.M=(T.gt S ds cs Rw rwr).M)(hT:T.nV)(hN:T.N<2147483648)(hn:S.n=T.N)
  (hfv:T.fv= .func (.func f) first cap) (hf:Tryz.prog.funcs[f]? =aA fn) (tv:¬fn.name= "runtime.NumGoroutine") (hb:¬fn.body=aB)
  (hW:∀i,i<T.N->∀(te:zP)(w w':zW),T.K w->(∀b,T.old b->te b)->(∃b,te b/\T.lo<=b)->(∀b,T.old b->w'.heap[b]? =w.heap[b]?)->Works S.J te w' f (first.push (T.p0 i)++cap) λq l cp ws w=>S.Ok i (.agg #[.int aD i,.slice q l cp]) ws w):
  ∀(k i:Nat)(rs ws:zP)(w:zW)(y1 y2 y4 y8 y9 Q O L I H VA Z Y X W V U R F E D C B A z v u s p m g e d c a:zY),i+k=T.N->T.Ok S rs ws i w->
  ∃tr,S.eC (S.Fk k) tr 0 rs ws (Pj S T ds cs y1 y2 y4 y8 y9 Q O L I H i VA Z Y X W V U R F E D C B A z v u s p m g e d c a [.code L0,.inLoop L0,.inBlock 0,.code K0]) w
 |0,i,rs,ws,w,y1,y2,y4,y8,y9,Q,O,L,I,H,VA,Z,Y,X,W,V,U,R,F,E,D,C,B,A,z,v,u,s,p,m,g,e,d,c,a,hik,h=>by have hi:i=T.N:=by{omega};subst hi;refine Wx hP h.live y1 y2 y4 y8 y9 Q O L I H VA Z Y X W V U R F E D C B A z v u s p m g e d c a ?_;refine Ky λw₁ r=> ?_;have h1:=h.nR hT r;have e1:(λb=>rs b\/rs b)=rs:=by{grind};have e2:(λb=>ws b/\¬rs b)=ws:=funext λb=>propext ⟨λx=>x.1,λx=>⟨x,λy=>(h.wC b y).1 x⟩⟩;refine⟨rfl,by rw[hn];exact h1.wg,_,_,rs,by rw[hP];exact zAv T.N y1 y2 y4 y8 y9 Q O L I H (.bool aG) Z Y X W V U R F E D C B A z v u s p m g e d c a w₁,by grind,?_,?_⟩;{rw[hP];exact zAj S hP tq hA h1.r6 h1.c6 h1.live};{rw[e1,e2,hP];exact zEk (Rw:=Rw) (rwr:=rwr) hP hM hT h1 hN T.N y1 y2 y4 y8 y9 Q O L I H (.bool aG) Z Y X W V U (.func (.func 245) #[] #[.pointer (aA ⟨T.b6,0,aB⟩),.pointer (aA ⟨S.Wg,0,aB⟩)]) F E D C B A z v u s p m g e d c a}
 |k+1,i,rs,ws,w,y1,y2,y4,y8,y9,Q,O,L,I,H,VA,Z,Y,X,W,V,U,R,F,E,D,C,B,A,z,v,u,s,p,m,g,e,d,c,a,hik,h=>by
  refine Pl hP tq hT h Zz (by omega) hN y1 y2 y4 y8 y9 Q O L I H VA Z Y X W V U R F E D C B A z v u s p m g e d c a λSe w' b8 b9 vg vf ve vd uz h' lo8 o8 o9 l8 l9 k8 k9=> ?_;refine Ky λw₁ r=> ?_;have h1:=h'.nR hT r;have hk8:=(dD (aI (aH o8)) r 0).trans k8;have hk9:=(dD (aI (aH o9)) r 0).trans k9;have Gk:∀b,rs b\/b=b8\/b=b9->rs b\/Se b:=by grind
  have hlt:∀b,rs b\/b=b8\/b=b9->b<w₁.heap.size:=λb hb=>by obtain x|rfl|rfl:=hb;{exact(h1.wC b x).2};{exact Ao l8 r.size};{exact Ao l9 r.size}
  have h2:=h1.hand (hh:=λb=>rs b\/b=b8\/b=b9) Gk hlt;refine⟨rfl,_,_,λb=>rs b\/b=b8\/b=b9,by rw[hP];exact SH i b8 b9 y1 y2 y4 (.pointer (aA ⟨b8,0,aB⟩)) (.pointer (aA ⟨b9,0,aB⟩)) Q O L I H vg vf ve vd uz V U R F E D C B A z v u s p m g e d c a w₁,Gk,?_,?_⟩;{have e3:S.n-1-k=i:=by{omega};rw[e3,hP];refine bZ rfl (OZ func244 (by simp[f244]) rfl) ?_;have e6:(#[.pointer (aA ⟨S.Wg,0,aB⟩),.pointer (aA ⟨T.b5,0,aB⟩),.pointer (aA ⟨b8,0,aB⟩),.pointer (aA ⟨T.b3,0,aB⟩),.pointer (aA ⟨b9,0,aB⟩)]:zA)++Bt (f244.ntmps-5) ij= #[.pointer (aA ⟨S.Wg,0,aB⟩),.pointer (aA ⟨T.b5,0,aB⟩),.pointer (aA ⟨b8,0,aB⟩),.pointer (aA ⟨T.b3,0,aB⟩),.pointer (aA ⟨b9,0,aB⟩),ij,ij,ij,ij,ij,ij]:=by{simp_all};simp only[Dq,Bf,CH,Nat.reduceAdd,Ce];rw[e6];refine bZ rfl (λ_=>Ac) ?_;refine bZ rfl (λ_=>Dg) ?_;refine bZ rfl (λ_=>stepG_defer rfl rfl (by simp[baseD]) rfl) ?_;refine bZ rfl (λ_=>Ag) ?_;walk_nrm;show∃tr,dR Tryz.prog aG S.J (S.UZ i) tr (λb=>rs b\/b=b8\/b=b9) (λ_=>False) (G (Frame.at (baseD 244) (Act.mk #[.pointer (aA ⟨S.Wg,0,aB⟩),.pointer (aA ⟨T.b5,0,aB⟩),.pointer (aA ⟨b8,0,aB⟩),.pointer (aA ⟨T.b3,0,aB⟩),.pointer (aA ⟨b9,0,aB⟩),ij,ij,ij,ij,ij,ij] [dcall 183 #[.pointer (aA ⟨S.Wg,0,aB⟩)]]) [.code (.region 1 rQ aF)]) [root Tryz.prog]) w₁;refine Qo (by kernel_rfl) λt=> ?_;have es:rQ.size=7:=by{kernel_rfl};have er:Bt 7 aG= #[aG,aG,aG,aG,aG,aG,aG]:=rfl;rw[es,er];refine XL hf tv hb (λaBH aE1=>hW i (by omega) _ w₁ aBH h1.held (λb hb=>aH (h1.DO b hb)) (by grind) (by grind[Ft.Ok.DO])) (λh r=>S.Fa h r) (λws q l cp x6 x7 x8 x9 vh j hq=> ?_) 7 aG aG aG aG aG aG ij ij ij ij ij ij (λ_=>False) w₁ t (by decide) (by grind) (λ_ _=>rfl) (⟨aH h1.r5,aI (aH rfl),aH h1.r3,aI (aI rfl),h1.c5,hk8,by rw[h1.c3,hfv],hk9⟩) (by simp) (by simp) (by simp) (by simp) (by simp) (by simp);refine⟨_,hq,rfl,Af (.pointer (aA ⟨S.Wg,0,aB⟩)) T.b5 b8 T.b3 b9 [dcall 183 #[.pointer (aA ⟨S.Wg,0,aB⟩)]] [] [root Tryz.prog] (.chan (aA S.Cr)) x6 x7 x8 x9 (.agg #[.int aD (↑i),.slice q l cp]) [6],.tuple #[],?_,?_⟩;{rw[hP];exact w6};{exact zEq S hP tq vh j}};{refine Pn hP h2.live (by omega) y1 y2 y4 (.pointer (aA ⟨b8,0,aB⟩)) (.pointer (aA ⟨b9,0,aB⟩)) Q O L I H vg vf ve vd uz (.func (.func 244) #[] #[.pointer (aA ⟨S.Wg,0,aB⟩),.pointer (aA ⟨T.b5,0,aB⟩),.pointer (aA ⟨b8,0,aB⟩),.pointer (aA ⟨T.b3,0,aB⟩),.pointer (aA ⟨b9,0,aB⟩)]) U R F E D C B A z v u s p m g e d c a ?_;exact km Zz hP tq hA hM hT hN hn hfv hf tv hb hW k (i+1) _ _ w₁ y1 y2 y4 (.pointer (aA ⟨b8,0,aB⟩)) (.pointer (aA ⟨b9,0,aB⟩)) Q O L I H vg vf ve vd uz (.func (.func 244) #[] #[.pointer (aA ⟨S.Wg,0,aB⟩),.pointer (aA ⟨T.b5,0,aB⟩),.pointer (aA ⟨b8,0,aB⟩),.pointer (aA ⟨T.b3,0,aB⟩),.pointer (aA ⟨b9,0,aB⟩)]) (.int aD ((i+1:Nat):Int)) R F E D C B A z v u s p m g e d c a (by omega) h2}
end
open Go.Conc Go.Ren Go.Proofs Go.RowKit Go.Conc.Lib Go.Wg Go.Tr
open Go.ConcN (sumTo upd sumTo_upd upd_same upd_ne)
structure Calm (Sh:zP)(B:Nat)(t:Trace):Prop where
 past:Past (λl=>∃b,blk l=aA b/\Sh b) B t
 nm:∀b,Sh b->∀i a,touchAt t i=aA a->blk a.loc=aA b->a.kind≠.plain
abbrev EvC (Sh:zP)(B:Nat)(e:Event):Prop:=EvL (λl=>∃b,blk l=aA b/\Sh b) B e
section
variable {P:zZ}{Sh:zP}{B B':Nat}{t:Trace}{gs:zG}{q:Nat->Nat}{sl:Option (Nat×Nat)}{w:zW}{a:zH}
def Calm.mono (h:Calm Sh B t)(b:B<=B'):Calm Sh B' t:=⟨h.past.mono b,h.nm⟩
theorem Calm.own (h:Calm Sh B t){fn:zN}{pos:String}{es:zE}(j:∀e∈es,EvC Sh B e):Calm Sh B (t++Ed 0 fn pos es):= ⟨h.past.own j,λb k i x hi g=>by obtain⟨_,l⟩|⟨op,_,_,d,c⟩:=dX hi;{exact h.nm b k i x l g};.obtain⟨e,f,rfl⟩:=Go.Conc.mem_ofEvents d;exact(j e f).1 x c ⟨b,g,k⟩⟩
def Calm.mute (h:Calm Sh B t){g:Nat}(j:g≠0){fn:zN}{pos:String}{es:zE}(k:∀e∈es,e.mute=aF):Calm Sh B (t++Ed g fn pos es):= ⟨h.past.mute j k,λb l i x hi c=>by obtain⟨_,m⟩|⟨op,_,_,f,d⟩:=dX hi;{exact h.nm b l i x m c};grind[Conc.mem_ofEvents,touch_mute]⟩
theorem BJ (k:Leavers P t gs q){j g c w' u b}(f:∀op∈u,op.g=j)(n:j<gs.size)(m:∀i,i≠j->b i=q i)(h:0<j->QuitsD P (b j) (Deaf (t++u) j) c): Leavers P (t++u) (zAI (gs.map (woken P g c w')) j c) b:=by refine⟨λi x hi d=> ?_,λi hi=> ?_⟩;{by_cases e:j=i;{exact ji};.rw[Et e,Hk]at d;obtain⟨y,l,rfl⟩:=Gh.1 d;have:=k.old i y hi l;rw[woken_quitsD this,Deaf_other t e u f,m i λx=>e x.symm];exact this};.simp only[Nb,Array.size_map]at hi;rw[Deaf_other t bm u f];exact k.above i hi
def FE {a':Nat->zH}{w':Nat->zW}{es:Nat->zE}{C:Nat->Nat}(S:a.status= .running)(v:∀d,stepG P aF a (w.at d)= .go (a' d) (w' d) (es d))(D:∀d,B<=C d)(U:∀d,∀e∈es d,EvC Sh (C d) e): ∀(M)(gs)(d)(sl)(t)(q),sumTo gs.size q=M->gs[0]? =aA a->Leavers P t gs q->Calm Sh B t-> ∃(N o:Nat)(b:zG)(s:Option (Nat×Nat))(f:Trace)(u:Nat->Nat),runNT P N (crowd gs (w.at d) sl) t=(.next (crowd b (w' o) s),f)/\b.size=gs.size/\b[0]? =aA (a' o)/\Leavers P f b u/\Calm Sh (C o) f:=by intro M;induction M using Nat.strongRecOn with|_ M O=>intro gs d sl t q Y L A K;have z:∀g∈gs,Go.Conc.awake g:=by{intro y Q;obtain⟨i,hi,rfl⟩:=Array.mem_iff_getElem.1 Q;have R:=Ef hi;by_cases G:i=0;{grind[Mt,awake_of]};{exact awake_of ((A.old i _ bm R).status.elim aH ji)}};let⟨j,g,d1,s,r,J,I⟩:=crowd_pick (P:=P) (w:=w.at d) (sl:=sl) z ji;have hlt:=(Ax.1 r).1;have n:∀(g:Nat)(fn:zN)(pos:String)(es:zE),∀op∈Ed g fn pos es,op.g=g:=by{grind[Conc.mem_ofEvents]};by_cases G:j=0;{subst G;rw[L]at r;have h:=runT_crowd_go (sl:=s) L (show stepG P (0==0) a ((w.at d).at d1)=_ from v d1);refine⟨1,d1,zAI (gs.map (woken P a (a' d1) (w' d1))) 0 (a' d1),s,t++Ed 0 a.frame.fn a.frame.place (es d1),q,by simp only[runNT,I,h],j0,ji,BJ A (n 0 _ _ _) hlt (λ_ _=>rfl) bm,(K.mono (D d1)).own (U d1)⟩};.have p:=A.old j g bm r;cases c:q j with|zero=>rw[c]at p;rw[p.1]at J;cases J|succ k=>rw[c]at p;obtain⟨X,_⟩|⟨_,E,F,hm,m,T⟩:=p;{grind};.have h:=runT_crowd_go (sl:=s) (i:=j) r (by rw[show(j==0)=aG from j3];exact m ((w.at d).at d1));have H:sumTo gs.size (upd q j k)+(k+1)=sumTo gs.size q+k:=by{have:=sumTo_upd q k id hlt;simp only[id_eq,c]at this;exact this};have x:woken P g E ((w.at d).at d1) a=a:=woken_running S;let⟨N,o,b,l,f,u,W,Z,V⟩:=O (sumTo gs.size (upd q j k)) bm (zAI (gs.map (woken P g E ((w.at d).at d1))) j E) d1 s (t++Ed j g.frame.fn g.frame.place F) (upd q j k) j0 ji (by grind[BJ,Deaf_own,upd_same,upd_ne]) (K.mute G hm);exact⟨N+1,o,b,l,f,u,by simp only[runNT,I,h];exact W,ji,V⟩
end
open Go.ConcR (wgBlock)
abbrev fY (P:zZ)(Sh:zP)(B:Nat)(Stop:zU)(n:Nat):zU:=Go.Conc.Goes P aF Go.Conc.AtRel (λ_ _ a=>∀e∈a,EvC Sh B e) Stop n
section
variable {P:zZ}{Sh:zP}{B:Nat}{Stop:zU}
def vT:∀(n:Nat)(a:zH)(w:zW)(c:zG)(s:Option (Nat×Nat))(t:Trace)(q:Nat->Nat),fY P Sh B Stop n a w->c[0]? =aA a->Leavers P t c q->Calm Sh B t-> ∃(N:Nat)(b:zG)(F:zH)(i:zW)(f:Option (Nat×Nat))(j:Trace)(y:Nat->Nat),runNT P N (crowd c w s) t=(.next (crowd b i f),j)/\b.size=c.size/\b[0]? =aA F/\Stop F i/\Leavers P j b y/\Calm Sh B j
 |0,a,w,c,s,t,q,h,p,o,hC=>⟨0,c,a,w,s,t,q,rfl,rfl,p,h w (atRel_refl w),o,hC⟩|n+1,a,w,c,s,t,q,h,p,o,hC=>by obtain h|⟨H,h⟩:=h;{exact⟨0,c,a,w,s,t,q,rfl,rfl,p,h w (atRel_refl w),o,hC⟩};.have m:∀d,∃x:zH×zW×zE,stepG P aF a (w.at d)= .go x.1 x.2.1 x.2.2/\(∀e∈x.2.2,EvC Sh B e)/\fY P Sh B Stop n x.1 x.2.1:=λd=>by{let⟨g',i,G,D,A,z⟩:=goes_elim (h (w.at d) ⟨d,rfl⟩);exact⟨(g',i,G),D,A,z⟩};let⟨N,d,b,f,j,y,D,A,z,J,I⟩:=FE (w:=w) (a':=λd=>(DJ (m d)).1) (w':=λd=>(DJ (m d)).2.1) (es:=λd=>(DJ (m d)).2.2) H ji (C:=λ_=>B) bm ji (sumTo c.size q) c w.drawn s t q rfl p o hC;let⟨O,l,E,r,k,u,v,M,L,K⟩:=vT n _ _ b f j y (Dl (m d)).2.2 z J I;exact⟨N+O,l,E,r,k,u,v,by rw[runNT_add,show crowd c w s=crowd c (w.at w.drawn) s from rfl,D];exact M,L.trans A,K⟩
end
def ext (w:zW)(os:zJ):zW:={w with heap:=w.heap++os}
section
variable {w:zW}{os:zJ}
def MF:(ext w os).heap.size=w.heap.size+os.size:=by simp[ext]
def ext_get {B i}(h:w.heap.size=B):(ext w os).heap[B+i]? =os[i]? :=by subst h;show(w.heap++os)[w.heap.size+i]? =_;exact ji
def gl {b}(h:b<w.heap.size):(ext w os).heap[b]? =w.heap[b]? :=by show(w.heap++os)[b]? =_;exact ji
def Pq (o):zAK (ext w os) o=ext w (os.push o):=by simp[ext,zAK]
def gk {B i}(a:w.heap.size=B){c t fr}(h:os[i]? =aA (aJ c t fr))(v):zAJ (ext w os) (B+i,0) v=ext w (zAI os i (aJ (zAI c 0 v) t fr)):=by subst a;have hi:=(Ax.1 h).1;have b:os[i]=aJ c t fr:=by{grind};simp only[ext,zAJ,World.mk.injEq,and_true,true_and];exact ji
end
section
variable {P:zZ}{Sh:zP}{B B0 n:Nat}{Stop:zU}{w:zW}{os oq:zJ}{g g':zH}
def fY.rely {w₁}(h:fY P Sh B Stop n g w)(r:Go.Conc.AtRel w w₁):fY P Sh B Stop n g w₁:=Go.Conc.Goes.rely atRel_trans h r
def QD {es:zW->zE}(b:w.heap.size=B0)(c:g.status= .running)(h:∀w,w.heap.size=B0->stepG P aF g (ext w os)= .go g' (ext w oq) (es w))(i:∀w,w.heap.size=B0->∀e∈es w,EvC Sh B e)(f:fY P Sh B Stop n g' (ext w oq)):fY P Sh B Stop (n+1) g (ext w os):=aI ⟨c,λa ⟨d,e⟩=>by subst e;rw[show(ext w os).at d=ext (w.at d) os from rfl,h (w.at d) b,goes_go];exact⟨i (w.at d) b,fY.rely f ⟨d,rfl⟩⟩⟩
def bD (b:g.status= .running)(h:∀w,stepG P aF g w= .go g' w #[])(c:fY P Sh B Stop n g' w):fY P Sh B Stop (n+1) g w:=aI ⟨b,λa r=>by rw[h a,goes_go];exact⟨j0,fY.rely c r⟩⟩
def kB {a wr s}(f:¬Sh a.block)(e:a.block<B):EvC Sh B ⟨.cell a,wr,s⟩:=by have c:MemAct.ofEvent ⟨.cell a,wr,s⟩= .access ⟨.cell a,wr,s⟩:=rfl;refine⟨λx h ⟨b,hb,d⟩=> ?_,j0,j0,j5⟩;rw[c]at h;simp only[MemAct.touch?,Cz]at h;subst h;simp only[blk,Cz]at hb;exact ji
end
end Go.Ga
namespace Go.Ren
open Go.Conc (G)
section
variable {P:zZ}{Al:zF}{K:Kp}{fs:Array Func}{R:zR}
def ZC (o:Shape P fs)(i:K.pQ=aB){π fr fr' own' v w}(h:CQ P Al K π fr [] v fr' own' w){x}(H:∀A d,fr.leaving P (v.re A d) (aM x))(a:fs[fr.fn]? =P.funcs[fr.fn]?)(b)(c)(cs): stepG ⟨P.toTables,fs⟩ b (G fr' (own'++c::cs)) w=stepG P b (G fr' (own'++c::cs)) w:=by let⟨E,D,C,fn,s,S⟩:=H w.tape w.drawn;have L:=h.world.ok;have g:fr'.mode= .returning:=by{have:=h.frame.mode;rw[E]at this;generalize fr'.mode=m at this;cases this;rfl};have q:fr'.defers=[]:=by{have:=h.frame.defers;rw[D]at this;generalize fr'.defers=l at this;cases this;rfl};have k:fr'.kind= .normal:=by{rw[h.frame.kind];exact C};have z:P.funcs[fr'.fn]? =aA fn:=by{rw[h.frame.fn];exact s};have t:(⟨P.toTables,fs⟩:zZ).funcs[fr'.fn]? =aA fn:=by{rw[h.frame.fn,a];exact s};have f:own'=[]:=by{cases h.own;rfl};subst f;have U:((results fn fr.tmps).runT P (v.re w.tape w.drawn) #[]).1= .ok x (v.re w.tape w.drawn):=by{simp_all};obtain⟨hl,u,j,e,_⟩|e:=(iV fn h.frame.tmps).blind o i _ w #[] #[] h.world;{exact ji};.have F:∀p:zZ,p.funcs[fr'.fn]? =aA fn->stepG p b (G fr' ([]++c::cs)) w=Ms (seen p fr'.fn ((results fn fr'.tmps).runT p w #[]).2) (match((results fn fr'.tmps).runT p w #[]).1 with| .ok y w1=> .go (G (c.finish y) cs) w1| .halt _ w1=> .ended (.stuck "results" (fr'.pos p)) w1)\/∃hl w1,((results fn fr'.tmps).runT p w #[]).1= .halt hl w1:=λp J=>by{cases I:(results fn fr'.tmps).runT p w #[]with|mk r es=>cases r with|halt hl w1=>grind|ok y w1=>left;have N:stepG p b (G fr' ([]++c::cs)) w=unwind p b fr' (c::cs) aB w:=by{simp only[stepG,G,g,Gs]};rw[N];unfold unwind;rw[q];dsimp only;rw[g];dsimp only;rw[J];dsimp only;rw[I];dsimp only;unfold doReturn;rw[k];rfl};have M:∀hl w1,((results fn fr'.tmps).runT P w #[]).1≠.halt hl w1:=λhl w1 Z=>by{obtain(⟨hl,Q,j,Y,_⟩|⟨⟨n,T,_⟩,_⟩)|⟨O,v1,B,j,dd,h1,X,W,V⟩:=(iV fn h.frame.tmps).runT _ w #[] #[] h.world;all_goals grind};grind[pY]
end
abbrev Sa:Type:=zC×zL×zW
section
variable {P:zZ}{Al:zF}{S:zS}
def One (P:zZ)(S:zS)(x y:Sa):Prop:= ¬S y.1 y.2.1 y.2.2/\(y.1.mode= .run\/y.1.defers≠[]\/y.2.1≠[])/\∃a d m e,stepG P m (G y.1 y.2.1) (y.2.2.re a d)= .go (G x.1 x.2.1) x.2.2 e
inductive Sub (P:zZ)(S:zS):Sa->Sa->Prop
 |one {x y:Sa} (h:One P S x y):Sub P S x y
 |more {x y z:Sa} (h:One P S x y) (k:Sub P S y z):Sub P S x z
theorem Sub.trans {x y z}(h:Sub P S x y)(k:Sub P S y z):Sub P S x z:=by induction h with|one h=>exact .more h k|more h _ i=>exact .more h (i k)
def Ends.acc {fr:zC}{own:zL}{v:zW}(h:Ends P Al S fr own v):Acc (One P S) (fr,own,v):=by induction h with|stop h=>exact⟨_,λy f=>absurd h f.1⟩| @step fr own v a n h1 g k j=>refine⟨_,λy ⟨_,_,c,d,m,es,b⟩=> ?_⟩;let⟨i,e⟩:=g c d [] m;dsimp only at b;rw[Bj,Bj,b]at e;grind[go_inj]
def iu {x}(h:Acc (One P S) x):Acc (Sub P S) x:=by induction h with|intro x _ f=>refine⟨_,λy d=> ?_⟩;have e:∀{y z:Sa},Sub P S y z->(∀y,One P S y z->Acc (Sub P S) y)->Acc (Sub P S) y:=by{intro y z d;induction d with|one h=>grind| @more a b c h hb i=>exactλk=>(i k).inv (.one h)};exact ji
def Ends.ind {M:zS}(b:∀fr own v,Ends P Al S fr own v->(∀fr1 own1 v1,Sub P S (fr1,own1,v1) (fr,own,v)->Ends P Al S fr1 own1 v1->M fr1 own1 v1)->M fr own v){fr own v}(h:Ends P Al S fr own v):M fr own v:=by have k:∀x:Sa,Acc (Sub P S) x->Ends P Al S x.1 x.2.1 x.2.2->M x.1 x.2.1 x.2.2:=λx a=>by{induction a<;>grind};exact k (fr,own,v) (iu h.acc) h
def Lone.VS (I:∀K:Kp,(∀b,¬K b)->cN P Al K){T:zS}{cs:zL}(r:∀fr l v,(fr.mode= .run\/fr.defers≠[]\/l≠[])->¬T fr (l++cs) v){fr:zC}{l:zL}{u:zW}(h:Lone P [bK] S fr l u): ∀{D:zP},Closed P Al D fr l u->Ends P Al T fr (l++cs) u->∃f d u2 D2,S f d u2/\Closed P Al D2 f d u2/\(∀b,D b->D2 b)/\Ends P Al T f (d++cs) u2/\((f,d++cs,u2)=(fr,l++cs,u)\/Sub P T (f,d++cs,u2) (fr,l++cs,u)):=by induction h with| @stop fr l u h=>grind| @step fr n l B u u1 M a E h C=>intro D H F;obtain⟨o,w1,M,m⟩|⟨f,d,v2,J,D2,m,j,G,i,p,g⟩:=iC (cs:=[bK]) I H a aF u.tape u.drawn;{grind[iS]};.rw[iS,E]at m;obtain⟨rfl,Q,rfl⟩:=go_inj m;obtain rfl:=Lo Q;let⟨L,k⟩:=g u.tape u.drawn cs aF (λ_ _=>rfl);have O:u1.re u.tape (u.drawn+(u1.drawn-u.drawn))=u1:=by{have N:u.drawn+(u1.drawn-u.drawn)=u1.drawn:=bm;rw[N,<-i];rfl};rw[O]at k;have c:One P T (n,B++cs,u1) (fr,l++cs,u):=⟨r _ _ _ a,a.imp id λx=>x.imp id λy z=>y (List.append_eq_nil_iff.1 z).1,_,_,_,_,k⟩;let⟨xF,A,u3,D3,w,t,R,s,q⟩:=C j (F.next (r _ _ _ a) k);refine⟨xF,A,u3,D3,w,t,ji,s,aI ?_⟩;obtain e|q:=q;{rw[e];exact .one c};{exact q.trans (.one c)}
end
end Go.Ren
end
