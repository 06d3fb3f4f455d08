import Derived.Conc.Own5
import Derived.Test.YtghpcgagijhlaaaGreatDoorP04
set_option linter.all false
set_option maxRecDepth 100000
set_option maxHeartbeats 16000000
open Option renaming some->aA,none->aB
open Bool renaming true->aE,false->aF
open Or renaming inl->aG,inr->aH
open Go.Item renaming inRegion->aM
open Go renaming execOp->aCF
open Go.Deferred renaming ofValue->aCG
namespace Go.Ren
def BW {P:zZ}{α:Type}{f:zZ->Sem α}(h:nD P (f P)):nD P (program>>=f):=λv e=>h v e
def MT {P:zZ}{α:Type}{f:TypeInfo->Sem α}(h:∀i,P.info? 1000000=aA i->nD P (f i)):nD P (typeInfo 1000000>>=f):=λv a=>by
 show∃b w e,Sem.runT P (Sem.bind (match P.info? 1000000 with|some i=>pure i|none=>stuck "no such type") f) v a=(.halt b w,e)/\Fatal b
 cases c:P.info? 1000000 with
 |none=>exact⟨.stuck "no such type",v,a,rfl,aG ⟨_,rfl⟩⟩
 |some i=>exact h i c v a
def UO {P:zZ}(a:∀i,P.info? 1000000=aA i->i.methods.find? (·.name== "")=aB)(n:Nat)(v:zY):nD P (method n 1000000 v ""):=by
 cases n with
 |zero=>exact rO
 |succ n=>unfold method;exact MT λi h=>by rw[a i h];exact oP
def EE {P:zZ}(h:∀i,P.info? 1000000=aA i->i.methods.find? (·.name== "")=aB)(v:zY)(as:zA):nD P (callMethod (.iface 1000000 v) "" as):=by unfold callMethod;exact BW (nD.bind (UO h _ v))
def UP {P:zZ}(h:∀i,P.info? 1000000=aA i->i.methods.find? (·.name== "")=aB)(z:zY)(as:zA):nD P (do let d<-aCG (.func (.method "") #[.iface 1000000 .nilIface] #[z]) as;invoke d.target d.args):=by
 show nD P (invoke (.fn (.method "") #[z]) (#[.iface 1000000 .nilIface]++as))
 unfold invoke
 have e:(#[Value.iface 1000000 .nilIface]++as)[0]? =aA (.iface 1000000 .nilIface):=by rw[zDk (by simp)];rfl
 dsimp only
 rw[e]
 exact EE h _ _
def vY {P:zZ}{α:Type}(b:∀i,P.info? 1000000=aA i->i.methods.find? (·.name== "")=aB)(n:Nat)(v:zY){f:Option Bool->Sem α}(a:nD P (f aB)):nD P (nilAhead n 1000000 v "">>=f):=by
 cases n with
 |zero=>exact a
 |succ n=>unfold nilAhead;exact nD.bind (MT λi h=>by rw[b i h];exact oP)
inductive CH (Al:zF)(π:Rn):Deferred->Deferred->Prop
 |fn {f:zN} (hf:Al f) {cs cs' as Cf:zA} (hc:aW Al π cs cs') (ha:aW Al π as Cf) (hz:as.size+cs.size<=20):CH Al π ⟨.fn (.func f) cs,as⟩ ⟨.fn (.func f) cs',Cf⟩
 |nil {as Cf:zA} (ha:aW Al π as Cf):CH Al π ⟨.nil,as⟩ ⟨.nil,Cf⟩
inductive KW (Al:zF)(π:Rn):Next->Next->Prop
 |value {v v':zY} (h:bG Al π v v'):KW Al π (.value v) (.value v')
 |skip:KW Al π .skip .skip
 |enter {f:zN} (hf:Al f) {as Cf:zA} (ha:aW Al π as Cf):KW Al π (.enter f as) (.enter f Cf)
 |defer {d d':Deferred} (h:CH Al π d d'):KW Al π (.defer d) (.defer d')
inductive oT (Al:zF)(π:Rn):Next->Next->Prop
 |value {v v':zY} (h:bG Al π v v'):oT Al π (.value v) (.value v')
 |skip:oT Al π .skip .skip
 |enter {f:zN} (hf:Al f) {as Cf:zA} (ha:aW Al π as Cf) (hz:as.size<=20):oT Al π (.enter f as) (.enter f Cf)
def oT.to {Al:zF}{π:Rn}{n a:Next}(h:oT Al π n a):KW Al π n a:=by
 cases h with
 |value h=>exact .value h
 |skip=>exact .skip
 |enter b c _=>exact .enter b c
def bR.imp {P:zZ}{Al:zF}{F:Kp}{α β:Type}{A c:Rn->α->β->Prop}(f:∀π a b,A π a b->c π a b){π:Rn}{s:Sem α}{s':Sem β}(h:bR P Al F A π s s'):bR P Al F c π s s':=by
 induction h with
 |pure h=>exact .pure (f _ _ _ h)
 |load h _ i=>exact .load h i
 |store h d _ i=>exact .store h d i
 |new h _ i=>exact .new h i
 |marked hC h _ i=>exact .marked hC h i
 |view h _ i=>exact .view h i
 |getObj h _ i=>exact .getObj h i
 |shape h _ i=>exact .shape h i
 |freeze hF h _ i=>exact .freeze hF h i
 |frozen hF h _ i=>exact .frozen hF h i
 |share h _ i=>exact .share h i
 |same e h g _ i=>exact .same e h g i
 |choose _ i=>exact .choose i
 |program he _ i=>exact .program he i
 |env _ i=>exact .env i
 |mark hm _ i=>exact .mark hm i
 |panic h=>exact .panic h
 |dead h=>exact .dead h
def CH.mono {Al:zF}{π ρ:Rn}(h:∀b e,π b e->ρ b e){d c:Deferred}(x:CH Al π d c):CH Al ρ d c:=by
 cases x with
 |fn g i a f=>exact .fn g (i.mono h) (a.mono h) f
 |nil a=>exact .nil (a.mono h)
def CI (P:zZ)(b:Builtin)(a:Array zD)(t:zD):Prop:=
 match b with
 | .append| .clear=>∀u,a[0]? =aA u->u<P.types.size
 | .cap| .copy| .len| .min| .unsafeString=>True
 | .unsafeSliceData=>∀e,P.underlying t=aA (.pointer e)->kC P e
 |_=>False
def CF (P:zZ)(Al:zF):Operand->Prop
 | .tmp _=>True
 | .const v=>∀π,Ok P π->bG Al π v v
 | .global g=>g<=P.globals.size
 | .func f=>Al f
def wX (P:zZ)(Al:zF)(name:String):Prop:=
 ∀t i m,P.info? t=aA i->i.methods.find? (·.name==name)=aA m->m.path= #[]/\∃f,m.func=aA (f,aE)/\Al f
def Nl (P:zZ)(Al:zF)(a:Array zD)(t:zD):Callee->Prop
 | .value _=>True
 | .builtin b=>CI P b a t
 | .invoke _ m=>wX P Al m
def PU (P:zZ)(Al:zF)(F:Kp)(o:Oper):Prop:=
 (∀x∈o.op.operands,CF P Al x)/\
 match o.op with
 | .move _| .assign _| .pick .. | .box .. | .load .. | .store .. | .nilCheck _| .unOp .. | .makeInterface .. | .slice .. | .fieldAddr .. | .field .. | .indexAddr .. | .index .. | .extract .. | .panic _=>True
 | .alloc t| .build t _| .buildSlice t _ _| .makeSlice t _ _=>t<P.types.size
 | .binOp op t _ _ _=>((op= .eql\/op= .neq)->JN P Op.maxDepth t)/\((F.cmp\/∀b,¬F b)\/(op≠.eql/\op≠.neq)\/Basic P t\/∃e i,P.underlying t=aA (.pointer e)/\P.info? e=aA i/\i.size≠0)
 | .convert s d _=>Aa P F s d
 | .makeFunc fn a b=>a.size+b.size<=10/\match fn with| .func f=>Al f|_=>False
 | .call c=>c.args.size<=10/\Nl P Al c.argTypes o.type c.callee
 |_=>False
def PV (P:zZ)(F:Kp)(o:Oper)(e:Operand->zY):Prop:=∀op t x y u,o.op= .binOp op t x y u->(F.cmp\/∀b,¬F b)\/(op≠.eql/\op≠.neq)\/Basic P t\/uC P t (e x) (e y)
def pX (P:zZ)(F:Kp)(fr:zC):Prop:=fr.mode= .run->∀ops j rest k o,fr.todo=aM ops (j::rest)::k->ops[j]? =aA o->PV P F o fr.eval
def uP {P:zZ}{F:Kp}(h:∀b,¬F b){fr:zC}:pX P F fr:=λ_ _ _ _ _ _ _ _ _ _ _ _ _ _=>aG (aH h)
def Vs (Al:zF)(o:Oper)(e:Operand->zY):Prop:=∀c,o.op= .call c->c.callee= .builtin .unsafeSliceData->∀x,(c.args.map e)[0]? =aA x->∀b n s,Al (1000002+b)->x≠.slice (aA ⟨b,n,s⟩) 0 0
def lF (Al:zF)(fr:zC):Prop:=fr.mode= .run->∀ops j rest k o,fr.todo=aM ops (j::rest)::k->ops[j]? =aA o->Region.wanted o (yielded ops fr.tmps)=aE->Vs Al o fr.eval
def kB {Al:zF}(h:∀k,¬Al (1000002+k)){fr:zC}:lF Al fr:=λ_ _ _ _ _ _ _ _ _ _ _ _ _ _ _ _ _ a=>absurd a (h _)
def PU.nd {P:zZ}{Al:zF}{F:Kp}{o:Oper}(h:PU P Al F o)(c:Call):o.op≠.defer c:=λe=>by have:=h.2;rw[e]at this;exact this
structure Met (P:zZ)(Al:zF)(F:Kp):Prop where
 Lg:JR P
 ql:∀i,P.info? 1000000=aA i->i.methods.find? (·.name== "")=aB
 name:∀f fn,Al f->P.funcs[f]? =aA fn->fn.name≠ "runtime.NumGoroutine"
 oR:∀f fn,Al f->P.funcs[f]? =aA fn->fn.body=aB->Extern.findNext fn=aB/\∃e,Extern.find fn=aA e/\∀(π:Rn) as Cf,Ok P π->aW Al π as Cf->bR P Al F (VR Al) π (e as) (e Cf)
section
variable {P:zZ}{Al:zF}{F:Kp}{π:Rn}{α β γ δ:Type}{A:Rn->α->β->Prop} [ok:Ok P π]
def gU {s s':Sem zY}(h:bR P Al F (VR Al) π s s'):bR P Al F (oT Al) π (do pure (.value (<-s))) (do pure (.value (<-s'))):=by refine aR _ h ?_;intro b v c ok d a;exact aS (.value a)
def Xi {s s':Sem Unit}(h:bR P Al F ER π s s'):bR P Al F (oT Al) π (do s;pure .skip) (do s';pure .skip):=by refine aR _ h ?_;rintro a _ _ ok b rfl;exact aS .skip
def RU (e:JR P){b:Builtin}{a:Array zD}{t:zD}(d:CI P b a t)(cs:Array Bool){as c:zA}(f:b= .unsafeSliceData->∀x,as[0]? =aA x->∀b n s,Al (1000002+b)->x≠.slice (aA ⟨b,n,s⟩) 0 0)(h:aW Al π as c):
  bR P Al F (oT Al) π (builtin b a t cs as) (builtin b a t cs c):=by
 cases b<;>first
  |exact d.elim
  |exact gU (WU e d t h)
  |exact gU (Du e d t h)
  |exact gU (Pd a t h)
  |exact gU (Ip a t h)
  |exact gU (Pc a t h)
  |exact gU (Pb a t h)
  |exact gU (AY a t h)
  |exact gU (uZ d a (f rfl) h)
def xR (M:Met P Al F){f:zN}(j:Al f){as d:zA}(h:aW Al π as d)(m:as.size<=20):bR P Al F (oT Al) π (callFunc f as) (callFunc f d):=by
 unfold callFunc;refine eB (λz i=> ?_) ?_
 .obtain e|⟨a,b,k,y,x,w,v,_⟩:=i f
  .dsimp only;rw[e]
  .dsimp only;rw[k,y];dsimp only;rw[x,Option.isNone_eq_false_iff.2 w,Option.isNone_eq_false_iff.2 v];rfl
 rintro l p q ok i ⟨o,n⟩;rw[o,n];cases g:P.funcs[f]? with
 |none=>exact aT
 |some fn=>
  dsimp only;have r:=M.name f fn j g;have k:(fn.name== "runtime.NumGoroutine")=aF:=zEl r;rw[k];simp only[zBf,zDp];cases hb:fn.body with
  |some c=>exact aS (.enter j (h.mono i) m)
  |none=>obtain⟨u,e,t,s⟩:=M.oR f fn j g hb;simp only[Option.isNone_none,zDf,u,t];refine .mark (aH ⟨f,rfl⟩) ?_;exact gU (s l as d ok (h.mono i))
def OA (x:zD){v v':zY}(h:bG Al π v v')(wr:Option String):bR P Al F (VR Al) π (receiverAt x (.val v) aE wr) (receiverAt x (.val v') aE wr):=by
 unfold receiverAt;refine aR _ (aX x) ?_;rintro d a b ok c ⟨rfl,_⟩;cases a with
 |pointer e=>exact aS (h.mono c)
 |_=>exact aT
def WM {name:String}(q:wX P Al name)(fuel:Nat)(t:zD){v v':zY}(h:bG Al π v v'):
  bR P Al F (λπ a b=>b.1=a.1/\Al a.1/\bG Al π a.2 b.2) π (method fuel t v name) (method fuel t v' name):=by
 cases fuel with
 |zero=>exact aU
 |succ fuel=>
  unfold method;refine aR _ (eY t) ?_;rintro j i _ ok n ⟨rfl,r⟩;cases s:i.methods.find? (·.name==name)with
  |none=>exact aT
  |some m=>
   obtain⟨p,f,c,d⟩:=q t i m r s;dsimp only;rw[p,c];have e:∀x,follow (#[]:Array FieldStep).toList t x=pure (t,x):=λx=>by
    show follow [] t x=pure (t,x)
    unfold follow
    rfl
   rw[e,e]
   show bR P Al F _ j (do pure (f,<-receiverAt t (.val v) aE (if(#[]:Array FieldStep).isEmpty=aE then aA ((name.splitOn ".").getLastD name)else aB))) (do pure (f,<-receiverAt t (.val v') aE (if(#[]:Array FieldStep).isEmpty=aE then aA ((name.splitOn ".").getLastD name)else aB)))
   refine aR _ (OA t (h.mono n) _) ?_
   intro g x u o l k
   exact aS ⟨rfl,d,k⟩
def FR (M:Met P Al F){name:String}(u:wX P Al name){x g:zY}(l:bG Al π x g){as b:zA}(h:aW Al π as b)(z:as.size<=10):
  bR P Al F (oT Al) π (invoke (.fn (.method name) #[]) (#[x]++as)) (invoke (.fn (.method name) #[]) (#[g]++b)):=by
 have e:∀(x:zY)(as:zA),invoke (.fn (.method name) #[]) (#[x]++as)=callMethod x name as:=λx as=>by
  have c:(#[x]++as)[0]? =aA x:=by rw[zDk (by simp)];rfl
  have v:(#[x]++as).extract 1 (#[x]++as).size=as:=by rw[Array.extract_append];simp
  unfold invoke
  dsimp only
  rw[c,v]
 rw[e,e]
 cases l with
 |iface t m=>unfold callMethod;refine eB (λ_ _=>rfl) ?_;rintro w p q ok i ⟨s,n⟩;rw[s,n];refine aR _ (WM u _ t (m.mono i)) ?_;rintro k ⟨f,r⟩ ⟨B,y⟩ o d ⟨c,a,j⟩;dsimp only at c a j;subst c;exact xR M a ((aW.one j).append ((h.mono i).mono d)) (by simp only[zEb,zAl,zAe,zBm];omega)
 |nilIface=>exact jC
 |_=>exact aT
def CS (M:Met P Al F){d a:Deferred}(h:CH Al π d a):bR P Al F (oT Al) π (invoke d.target d.args) (invoke a.target a.args):=by
 cases h with
 |fn e f b c=>exact xR M e (b.append f) (by simpa only[zEb]using c)
 |nil b=>exact jC
omit ok in
def OQ {e f:Operand->zY}(l:Array Operand)(h:∀x∈l,bG Al π (e x) (f x)):aW Al π (l.map e) (l.map f):=by refine⟨by simp,λi v g d a=> ?_⟩;rw[zCt]at d a;obtain⟨x,c,rfl⟩:=zBx.1 d;obtain⟨y,b,rfl⟩:=zBx.1 a;rw[c]at b;cases b;exact h x (zBc c)
def RJ {x c:zY}(a:¬∃z,x=(.func (.method "") #[.iface 1000000 .nilIface] #[z]))(d:bG Al π x c){as b:zA}(h:aW Al π as b)(k:as.size<=10):bR P Al F (CH Al) π (aCG x as) (aCG c b):=by
 cases d with
 |func e j i l g f=>exact aS (.fn e ⟨i,f⟩ ((aW.mk j g).append h) (by simp only[zEb];omega))
 |nilFunc=>exact aS (.nil h)
 |junk v _=>exact absurd ⟨_,rfl⟩ a
 |same _ z=>exact absurd ⟨z,rfl⟩ a
 |_=>exact aT
def FV {x f:zY}(i:bG Al π x f):bR P Al F (VR Al) π (Instr.panic x) (Instr.panic f):=by
 cases i with
 |iface t h=>exact nP (.iface t h)
 |nilIface=>
  refine aR ER ?_ ?_
  .unfold Instr.panicnil;refine .env λr=> ?_;refine aR ER (aS rfl) ?_;rintro d r _ ok g rfl;cases r<;>first|exact aT|skip
   dsimp only;refine eB (λ_ _=>rfl) ?_;rintro d p q ok g ⟨c,b⟩;rw[c,b];exact aS rfl
  .rintro d n _ ok g rfl;split
   .exact nP .nilIface
   .unfold runtimePanic;refine eB (λ_ _=>rfl) ?_;rintro u p q ok l ⟨c,b⟩;rw[c,b];dsimp only;refine aR _ (wL _) ?_;rintro s e _ ok k ⟨rfl,_⟩;refine aR _ (wJ (.agg rfl (by simp)) e) ?_;intro o a v ok j m;exact nP (.iface _ (.pointer (.some m)))
 |_=>exact aT
def OB {x g:zY}(l:∀i,P.info? 1000000=aA i->i.methods.find? (·.name== "")=aB)(r:bG Al π x g)(e m:Operand->zY)(o j:Oper)(y:Operand)(v:o.op= .nilCheck y)(f:j.op= .nilCheck y)(q:e y=x)(d:m y=g):bR P Al F (oT Al) π (aCF e o) (aCF m j):=by
 unfold aCF;rw[v,f];dsimp only;rw[q,d];cases r with
 |pointer u=>cases u with
  |none=>exact jC
  |some h=>exact aS (.value (.pointer (.some h)))
 |nilIface=>exact jC
 |nilFunc=>exact jC
 |func w a E p D C=>exact aS (.value (.func w a E p D C))
 |bool b=>exact aS (.value (.bool b))
 |int k n=>exact aS (.value (.int k n))
 |string s=>exact aS (.value (.string s))
 |slice y n c=>exact aS (.value (.slice y n c))
 |void B a0=>exact aS (.value (.void B a0))
 |iface t i=>exact aS (.value (.iface t i))
 |jM=>exact aS (.value .jM)
 |gX=>exact aS (.value .gX)
 |agg a i=>exact aS (.value (.agg a i))
 |tuple a i=>exact aS (.value (.tuple a i))
 |junk G _=>exact .dead (BW (vY l _ _ rO))
 |same _ z=>exact .dead (BW (vY l _ _ rO))
omit ok in
def OO {e a:Operand->zY}(x:Option Operand)(h:∀y∈x.toArray,bG Al π (e y) (a y)):lP Al π (x.map e) (x.map a):=by
 cases x with
 |none=>exact .none
 |some y=>exact .some (h y (by simp))
omit ok in
def LP {e a:Operand->zY}:∀(l:List (Nat×Operand)),(∀p∈l,bG Al π (e p.2) (a p.2))->vZ Al π (l.map λ(i,x)=>(i,e x)) (l.map λ(i,x)=>(i,a x))
 |[],_=>trivial
 |p::l,h=>⟨rfl,h p (by simp),LP l λq b=>h q (by simp[b])⟩
omit ok in
def LQ {e b:Operand->zY}(a:Array (Nat×Operand))(h:∀x∈(a.toList.map (·.2)).toArray,bG Al π (e x) (b x)):vZ Al π (a.map λ(i,x)=>(i,e x)).toList (a.map λ(i,x)=>(i,b x)).toList:=by rw[zGb,zGb];exact LP a.toList λp c=>h p.2 (by simp only[zAp,zDb];exact⟨p,c,rfl⟩)
def sV (M:Met P Al F){o:Oper}(L:PU P Al F o){e C:Operand->zY}(K:PV P F o e)(hs:Vs Al o e)(H:∀c,o.op≠.defer c)(N:∀x,CF P Al x->bG Al π (e x) (C x)):bR P Al F (oT Al) π (aCF e o) (aCF C o):=by
 obtain⟨B,j⟩:=L;have g:∀x∈o.op.operands,bG Al π (e x) (C x):=λx q=>N x (B x q);cases s:o.op;case nilCheck x=>rw[s]at g;exact OB M.ql (g x (by simp[Op.operands])) e C o o x s s rfl rfl
 all_goals
  rw[s]at j g
  unfold aCF
  rw[s]
 case move x=>exact aS (.value (g _ (by simp[Op.operands])))
 case assign x=>exact aS (.value (g _ (by simp[Op.operands])))
 case pick c a b=>
  refine aR _ (FZ (g c (by simp[Op.operands]))) ?_
  rintro D t _ ok hs rfl
  refine aS (.value ?_)
  cases t
  .exact(g b (by simp[Op.operands])).mono hs
  .exact(g a (by simp[Op.operands])).mono hs
 case alloc t=>exact gU (Dy M.Lg j)
 case box t x=>exact gU (Pe t (g x (by simp[Op.operands])))
 case build t E=>exact gU (Dv M.Lg j (LQ E g))
 case buildSlice t n E=>exact gU (FY M.Lg j n (LQ E g))
 case load t a=>
  refine gU ?_
  refine aR _ (kS (g a (by simp[Op.operands]))) ?_
  intro D x S ok hs q
  exact CR q t
 case store t a x=>
  refine Xi ?_
  refine aR _ (kS (g a (by simp[Op.operands]))) ?_
  intro D y R ok hs v
  exact NZ v ((g x (by simp[Op.operands])).mono hs) t
 case binOp op t x y u=>
  refine gU ?_
  refine aR _ (RQ op t x y (g x (by simp[Op.operands])) (g y (by simp[Op.operands]))) ?_
  rintro D _ _ ok hs rfl
  exact Dw op t j.1 (K op t x y u s) ((g x (by simp[Op.operands])).mono hs) ((g y (by simp[Op.operands])).mono hs)
 case unOp op t x=>exact gU (Dn op (g x (by simp[Op.operands])))
 case convert a b x=>exact gU (RR j (g x (by simp[Op.operands])))
 case makeInterface t x=>exact gU (xO t (g x (by simp[Op.operands])))
 case makeFunc fn first captured=>
  obtain⟨G,j⟩:=j
  cases fn with
  |func f=>
   have J:=OQ first λx q=>g x (by simp[Op.operands,q])
   have I:=OQ captured λx q=>g x (by simp[Op.operands,q])
   exact aS (.value (.func j J.size I.size (by simpa only[Array.size_map]using G) J.at' I.at'))
  |_=>exact j.elim
 case makeSlice t l c=>exact gU (JY M.Lg j (g l (by simp[Op.operands])) (g c (by simp[Op.operands])))
 case slice t x l h m=>
  exact gU (RG t (g x (by simp[Op.operands])) (OO l λy v=>g y (by simp only[Op.operands];simp only[zEq];exact aG (aG (aH v))))
   (OO h λy v=>g y (by simp only[Op.operands];simp only[zEq];exact aG (aH v))) (OO m λy v=>g y (by simp only[Op.operands];simp only[zEq];exact aH v)))
 case fieldAddr t x i=>exact gU (RO t (g x (by simp[Op.operands])) i)
 case field t x i=>exact gU (Dt t (g x (by simp[Op.operands])) i)
 case indexAddr t x i=>exact gU (RM t (g x (by simp[Op.operands])) (g i (by simp[Op.operands])))
 case index t x i=>exact gU (Ds t (g x (by simp[Op.operands])) (g i (by simp[Op.operands])))
 case extract x i=>exact gU (RP (g x (by simp[Op.operands])) i)
 case panic x=>exact gU (FV (g x (by simp[Op.operands])))
 case call c=>
  have k:aW Al π (c.args.map e) (c.args.map C):=OQ c.args λx q=>g x (by simp only[Op.operands,Call.operands,zEq];exact aH q)
  obtain⟨G,j⟩:=j
  have w:(c.args.map e).size<=10:=by rw[Array.size_map];exact G
  obtain⟨callee,args,T⟩:=c
  cases callee with
  |value f=>
   by_cases p:∃z,e f=(.func (.method "") #[.iface 1000000 .nilIface] #[z])
   .obtain⟨z,p⟩:=p;refine .dead ?_;show nD P (do let d<-aCG (e f) (args.map e);invoke d.target d.args)
    rw[p];exact UP M.ql z _
   refine aR _ (RJ p (g f (by simp[Op.operands,Call.operands])) k w) ?_;intro D d U ok hs O;exact CS M O
  |builtin b=>exact RU M.Lg j _ (λQ=>hs _ s (by rw[Q])) k
  |invoke r m=>exact FR M j (g r (by simp[Op.operands,Call.operands])) k w
 case defer c=>exact absurd s (H c)
 all_goals exact j.elim
def FU (M:Met P Al F){d a:Deferred}(h:CH Al π d a):bR P Al F (KW Al) π (invoke d.target d.args) (invoke a.target a.args):=(CS M h).imp λ_ _ _ x=>x.to
def FX (M:Met P Al F){o:Oper}(h:PU P Al F o){e a:Operand->zY}(b:PV P F o e)(hs:Vs Al o e)(c:∀x,CF P Al x->bG Al π (e x) (a x)):bR P Al F (KW Al) π (aCF e o) (aCF a o):=by exact(sV M h b hs (h.nd) c).imp λ_ _ _ x=>x.to
end
section
variable(P:zZ)(fs:Array Func)
def sQ:∀(d:Nat)(t:zD)(b:Nat),cellHolding ⟨P.toTables,fs⟩ d t b=cellHolding P d t b
 |0,_,_=>rfl
 |d+1,t,b=>by unfold cellHolding;simp only[sQ d];rfl
def xE:∀(d:Nat)(t:zD)(b:Nat),plainCell ⟨P.toTables,fs⟩ d t b=plainCell P d t b
 |0,_,_=>rfl
 |d+1,t,b=>by unfold plainCell;simp only[xE d];rfl
def xD (c:zA)(e:zD):∀(f x s:Nat),seenCells ⟨P.toTables,fs⟩ c e f x s=seenCells P c e f x s
 |0,_,_=>rfl
 |f+1,x,s=>by unfold seenCells;simp only[xD c e f,sQ];rfl
def Ai (w:zW)(a:Addr)(u:zD)(k:Addr)(t:Bool):w.seen ⟨P.toTables,fs⟩ a u k t=w.seen P a u k t:=by unfold World.seen;simp only[xD,xE,jN];rfl
def QV (w:zW)(a:Addr)(u:zD)(k:Addr)(t:Bool):w.viewLoad ⟨P.toTables,fs⟩ a u k t=w.viewLoad P a u k t:=by unfold World.viewLoad;simp only[Ai]
def QW:∀(d:Nat)(t:zD),tight ⟨P.toTables,fs⟩ d t=tight P d t
 |0,_=>rfl
 |d+1,t=>by unfold tight;simp only[QW d];rfl
def NT (w:zW)(a:Addr)(u:zD)(k:Addr)(v:zY)(t:Bool):w.viewStore ⟨P.toTables,fs⟩ a u k v t=w.viewStore P a u k v t:=by unfold World.viewStore;simp only[Ai,QW];rfl
def FI (w:zW)(a:Addr)(t:Bool):w.farLoad ⟨P.toTables,fs⟩ a t=w.farLoad P a t:=by unfold World.farLoad;simp only[QV]
def QY (w:zW)(a:Addr)(v:zY)(t:Bool):w.farStore ⟨P.toTables,fs⟩ a v t=w.farStore P a v t:=by unfold World.farStore;simp only[NT]
end
def NP (P:zZ)(fs:Array Func){α:Type}(s:Sem α):Prop:=∀(w:zW)(e:zE),s.runT ⟨P.toTables,fs⟩ w e=s.runT P w e
section
variable {P:zZ}{fs:Array Func}{α β:Type}
def kA (a:α):NP P fs (Pure.pure a:Sem α):=λ_ _=>rfl
def EK (h:Halt):NP P fs (.halt h:Sem α):=λ_ _=>rfl
def fP {s:Sem α}{f:α->Sem β}(h:NP P fs s)(b:∀a,NP P fs (f a)):NP P fs (s>>=f):=λw e=>by
 rw[bD,bD,h w e];split
 .exact b _ _ _
 .rfl
def Py (a:Addr)(m:Mode):NP P fs (load a m):=λw e=>by simp only[load,Sem.runT,FI]
def yE (r:Nat):NP P fs (shape r):=λ_ _=>rfl
def uJ (a:Addr):NP P fs (frozen a):=λ_ _=>rfl
def Ev (r:Nat):NP P fs (getObj r):=λw e=>by simp only[getObj,Sem.runT]
def Ew (q:Question):NP P fs (choose q):=λ_ _=>rfl
def BH {c:Prop} [Decidable c] {s t:Sem α}(h:NP P fs s)(k:NP P fs t):NP P fs (if c then s else t):=by split<;>assumption
def Eu (r:Nat):NP P fs (viewAt r):=by unfold viewAt;refine fP (yE r) λs=> ?_;refine BH (kA _) (fP (Ev r) λo=> ?_);cases o<;>exact kA _
def LX (a:Addr):NP P fs (noView a):=by unfold noView;refine fP (Eu _) λs=> ?_;exact BH (EK _) (kA _)
def yD (a:Addr):NP P fs (stringish a):=by
 unfold stringish;refine fP (uJ a) λt=> ?_;refine BH (kA _) (fP (yE _) λs=> ?_);cases s with
 |none=>exact kA _
 |some x=>exact uJ _
def TA (a b:Addr):NP P fs (mayBeOne a b):=by unfold mayBeOne;refine fP (yD a) λs=>fP (yD b) λt=> ?_;dsimp only;refine fP (fP (yE _) λ_=>kA _) λ_=>fP (fP (yE _) λ_=>kA _) λ_=>kA _
def DI (a b:Addr):NP P fs (sameAddr a b):=by unfold sameAddr;refine BH (kA _) ?_;refine fP (uJ a) λs=>fP (uJ b) λt=> ?_;refine BH (EK _) ?_;refine fP (LX a) λ_=>fP (LX b) λ_=>fP (TA a b) λ_=> ?_;exact BH (fP (Ew _) λ_=>kA _) (kA _)
def yF:∀(n:Nat)(a:Addr)(acc:ByteArray),NP P fs (loadBytes a acc n)
 |0,_,_=>kA _
 |n+1,a,acc=>by
  unfold loadBytes;refine fP (Py _ _) λv=> ?_;cases v with
  |int k b=>
   cases k with
   |u8=>exact yF n _ _
   |_=>exact EK _
  |_=>exact EK _
end
section
variable {P:zZ}{Al:zF}{F:Kp}{α β:Type}{A:Rn->α->β->Prop}{fs:Array Func}
def bR.blind (X:Shape P fs)(R:F.rG=aB){π:Rn}{s:Sem α}{s':Sem β}(h:bR P Al F A π s s'):
  ∀(v w:zW)(z g:zE),cB P Al F π v w->(∃H u C,s.runT P v z=(.halt H u,C)/\Fatal H)\/s'.runT ⟨P.toTables,fs⟩ w g=s'.runT P w g:=by
 induction h with
 |pure h=>intro v w z g j;exact aH rfl
 | @load π m a J k G h I B=>
  intro v w z g j;obtain⟨y,y',E,D,K⟩|⟨E,D⟩:=j.cell h
  .simp only[Sem.runT,E,D];exact B y y' K v w _ _ j
  .obtain⟨H,K,L⟩|⟨x,b,Z,l,K,L,e5,Y⟩:=j.kp h (m== .atomic)
   .left;refine⟨H,v,z,?_,L⟩;simp only[Sem.runT,E,K]
   .simp only[Sem.runT,E,D,K,FI,L];exact B x x Y v w _ _ j
 | @store π m a J x M k G h V I B=>
  intro v w z g j;have Q:(∀(cs:zA),x≠.agg cs)->(∀(cs:zA),x≠.tuple cs)->(∀(cs:zA),M≠.agg cs)->(∀(cs:zA),M≠.tuple cs)->
    (∃H u C,(Sem.store m a x k).runT P v z=(.halt H u,C)/\Fatal H)\/(Sem.store m J M G).runT ⟨P.toTables,fs⟩ w g=(Sem.store m J M G).runT P w g:=by
   intro n1 n2 n3 n4
   rw[Sem.runT.eq_5 _ _ _ _ _ _ _ (λcs h=>n1 cs h) (λcs h=>n2 cs h),Sem.runT.eq_5 _ _ _ _ _ _ _ (λcs h=>n3 cs h) (λcs h=>n4 cs h),Sem.runT.eq_5 _ _ _ _ _ _ _ (λcs h=>n3 cs h) (λcs h=>n4 cs h)]
   obtain⟨y,y',E,D,K⟩|⟨E,D⟩:=j.cell h
   .simp only[E,D];by_cases hF:F a.block
    .left;rw[j.Bi h hF E];exact⟨_,_,_,rfl,by simp⟩
    .rw[j.frozen h hF];cases hf:v.frozen? a with
     |true=>left;exact⟨_,_,_,rfl,by simp⟩
     |false=>exact B (v.setCell a x) (w.setCell J M) _ _ (j.setCell h hF V)
   .simp only[E,D,QY];obtain⟨H,K,L⟩|⟨v1,w1,b,Z,l,K,L,e5,Y,e7,e8⟩:=j.farStore h V (m== .atomic)
    .left;exact⟨H,v,z,by simp only[K],L⟩
    .simp only[K,L];exact B v1 w1 _ _ Y
  cases V with
  |agg _ _=>left;exact⟨_,_,_,rfl,by simp⟩
  |tuple _ _=>left;exact⟨_,_,_,rfl,by simp⟩
  |junk vb T=>exact Q (by simp) (by simp) (λcs e=>by rw[e]at T;exact T) (λcs e=>by rw[e]at T;exact T)
  |_=>exact Q (by simp) (by simp) (by simp) (by simp)
 | @new π c c' ty k G h I B=>intro v w z g j;simp only[Sem.runT];exact B (more π v.heap.size w.heap.size) v.heap.size w.heap.size (j.push h ty).ok (λ_ _ x=>aG x) (aH ⟨rfl,rfl⟩) _ _ z g (j.push h ty)
 | @marked π c c' ty k G hC h I B=>intro v w z g j;rw[oK,oK,oK];exact B (more π v.heap.size w.heap.size) v.heap.size w.heap.size (j.rA hC h ty).ok (λ_ _ x=>aG x) (aH ⟨rfl,rfl⟩) _ _ z g (j.rA hC h ty)
 | @view π x M k G h I B=>intro v w z g j;simp only[Sem.runT];exact B (more π v.heap.size w.heap.size) v.heap.size w.heap.size (j.yA h).ok (λ_ _ x=>aG x) (aH ⟨rfl,rfl⟩) _ _ z g (j.yA h)
 | @getObj π r O k G h I B=>
  intro v w z g j;obtain⟨c,c',ty,fr,fr',S,U,_⟩|⟨_,o,S,U,N⟩|⟨x,M,S,U,N⟩:=j.blk _ _ h
  .left;exact⟨.stuck "getObj: a row of cells",v,z,by simp only[Sem.runT,S],by simp⟩
  .have E:(Sem.getObj r k).runT P v z=(k o).runT P v (z.push ⟨.obj r,aF,o.isChan⟩):=by
    simp only[Sem.runT,S];cases o with
    |cells c t f=>exact absurd rfl (N.1 c t f)
    |_=>rfl
   have D:∀p:zZ,(Sem.getObj O G).runT p w g=(G o).runT p w (g.push ⟨.obj O,aF,o.isChan⟩):=λp=>by
    simp only[Sem.runT,U];cases o with
    |cells c t f=>exact absurd rfl (N.1 c t f)
    |_=>rfl
   rw[E,D,D]
   exact B o o (aG ⟨N,rfl⟩) v w _ _ j
  .have E:(Sem.getObj r k).runT P v z=(k x).runT P v (z.push ⟨.obj r,aF,aF⟩):=by
    simp only[Sem.runT,S];cases N<;>rfl
   have D:∀p:zZ,(Sem.getObj O G).runT p w g=(G M).runT p w (g.push ⟨.obj O,aF,aF⟩):=λp=>by simp only[Sem.runT,U];cases N<;>rfl
   rw[E,D,D]
   exact B _ _ (aH ⟨x,M,rfl,rfl,N⟩) v w _ _ j
 | @shape π r O k G h I B=>intro v w z g j;simp only[Sem.runT,j.shape h];exact B _ v w z g j
 | @freeze π a J n k G hF h I B=>intro v w z g j;simp only[Sem.runT];exact B (v.freeze a n) (w.freeze J n) z g (j.freeze hF h n)
 | @frozen π a J k G hF h I B=>intro v w z g j;simp only[Sem.runT,j.frozen h (hF _)];exact B _ v w z g j
 | @share π a J n k G h I B=>
  intro v w z g j;rw[bD,bD,bD,yF (P:=P) (fs:=fs) n J .empty];obtain⟨H,C,E,D⟩|⟨s,C,d,E,D,K,L⟩:=vS j n .empty z g h
  .rw[E];exact aG ⟨H,v,C,rfl,D⟩
  .rw[E,D];dsimp only;have hW:cB P Al F π (v.freeze a n) (w.freeze J n):=by
    by_cases W:n=0
    .subst W;exact j
    .exact j.UB h (L W).1 λ_=>(L W).2
   exact B s (v.freeze a n) (w.freeze J n) C (g++d) hW
 | @same π a J b Z k G hN h h' I B=>
  intro v w z g j;rw[bD,bD,bD,DI (P:=P) (fs:=fs) J Z];obtain⟨H,C,E,D⟩|⟨t,C,d,E,D,K⟩:=SD j hN h h' z g
  .rw[E];exact aG ⟨H,v,C,rfl,D⟩
  .rw[E,D];exact B t v w _ _ j
 | @choose π q k G I B=>
  intro v w z g j;simp only[Sem.runT];split
  .exact B 0 v w z g j
  .have H:∀i,F.upto i:=λi u hu=>by rw[R]at hu;cases hu
   have e0:w.tape w.drawn=v.tape v.drawn:=j.tape 0 (H _);have E:q.cut (w.tape w.drawn q)=q.cut (v.tape v.drawn q):=by rw[e0]
   rw[E]
   exact B (q.cut (v.tape v.drawn q)) {v with drawn:=v.drawn+1} {w with drawn:=w.drawn+1} z g ⟨j.ok,j.blk,λk _=>by have:=j.tape (k+1) (H _);simpa [zCv,zGf 1 k]using this,j.fresh,j.low,j.os,j.rows⟩
 | @program π k G he I B=>intro v w z g j;simp only[Sem.runT];rw[he fs X];exact B v w z g j
 | @mark π m k G hm I B=>intro v w z g j;simp only[Sem.runT];exact B v w _ _ j
 | @env π k G I B=>intro v w z g j;have hs:∀(u:zW),u.sys .env=(.strings u.os.env,u):=λu=>rfl;simp only[Sem.runT,hs,j.os];exact B (.strings v.os.env) v w _ _ j
 |panic h=>intro v w z g j;exact aH rfl
 |dead h=>intro v w z g j;obtain⟨H,w1,C,e,D⟩:=h v z;exact aG ⟨H,w1,C,e,D⟩
end
open Go.Conc (G)
def lG (P:zZ)(Al:zF)(F:Kp):Code->Prop
 | .region _ ops _=>∀o∈ops,PU P Al F o
 | .seq a b=>lG P Al F a/\lG P Al F b
 | .cond c a b=>CF P Al c/\lG P Al F a/\lG P Al F b
 | .block _ b| .loop b| .scope b=>lG P Al F b
 | .rangeFunc .. =>False
 |_=>True
def iZ (P:zZ)(Al:zF)(F:Kp):Item->Prop
 | .code c| .inLoop c| .inScope c=>lG P Al F c
 | .inBlock _=>True
 |aM ops _=>∀o∈ops,PU P Al F o
 |_=>False
structure Cj (Al:zF)(π:Rn)(x x':PanicEntry):Prop where
 v:bG Al π x.v x'.v
 recovered:x'.recovered=x.recovered
 goexit:x'.goexit=x.goexit
inductive hQ {α:Type}(R:α->α->Prop):List α->List α->Prop
 |nil:hQ R [] []
 |cons {a a':α} {l l':List α} (h:R a a') (hl:hQ R l l'):hQ R (a::l) (a'::l')
inductive PX (Al:zF)(π:Rn):FrameMode->FrameMode->Prop
 |run:PX Al π .run .run
 |returning:PX Al π .returning .returning
 |panicking {l l':List PanicEntry} (h:hQ (Cj Al π) l l'):PX Al π (.panicking l) (.panicking l')
def hQ.imp {α:Type}{R S:α->α->Prop}(h:∀a b,R a b->S a b):∀{l c:List α},hQ R l c->hQ S l c
 |_,_,.nil=> .nil
 |_,_,.cons x y=> .cons (h _ _ x) (y.imp h)
def hQ.append {α:Type}{R:α->α->Prop}:∀{l b m a:List α},hQ R l b->hQ R m a->hQ R (l++m) (b++a)
 |_,_,_,_,.nil,k=>k
 |_,_,_,_,.cons x y,k=> .cons x (y.append k)
structure cW (P:zZ)(Al:zF)(F:Kp)(π:Rn)(fr fr':zC):Prop where
 fn:fr'.fn=fr.fn
 al:Al fr.fn
 tmps:aW Al π fr.tmps fr'.tmps
 todo:fr'.todo=fr.todo
 items:∀i∈fr.todo,iZ P Al F i
 defers:hQ (CH Al π) fr.defers fr'.defers
 mode:PX Al π fr.mode fr'.mode
 kind:fr'.kind=fr.kind
 kinds:fr.kind= .normal\/fr.kind= .deferred
 round:fr.roundOf=aB
 oD:fr'.roundOf=aB
def PX.mono {Al:zF}{π ρ:Rn}(h:∀b d,π b d->ρ b d){m c:FrameMode}(x:PX Al π m c):PX Al ρ m c:=by
 cases x with
 |run=>exact .run
 |returning=>exact .returning
 |panicking l=>exact .panicking (l.imp λa b y=>⟨y.v.mono h,y.recovered,y.goexit⟩)
def cW.mono {P:zZ}{Al:zF}{F:Kp}{π ρ:Rn}(h:∀b a,π b a->ρ b a){fr fr':zC}(x:cW P Al F π fr fr'):cW P Al F ρ fr fr':=
 ⟨x.fn,x.al,x.tmps.mono h,x.todo,x.items,x.defers.imp λ_ _ y=>y.mono h,x.mode.mono h,x.kind,x.kinds,x.round,x.oD⟩
structure lj (P:zZ)(Al:zF)(F:Kp)(π:Rn)(cs cs':zL)(g g':zH)(fr fr':zC)(own own':zL):Prop where
 left:g=G fr (own++cs)
 right:g'=G fr' (own'++cs')
 frame:cW P Al F π fr fr'
 own:hQ (cW P Al F π) own own'
def GR (P:zZ)(Al:zF)(F:Kp)(π:Rn)(cs cs':zL)(g a:zH):Prop:=∃fr fr' own own',lj P Al F π cs cs' g a fr fr' own own'
structure cJ (P:zZ)(Al:zF)(F:Kp):Prop where
 met:Met P Al F
 body:∀f fn c,Al f->P.funcs[f]? =aA fn->fn.body=aA c->lG P Al F c
def Stepped (P:zZ)(Al:zF)(F:Kp)(π:Rn)(cs cs':zL)(v w:zW)(s s':GStep):Prop:=
 (∃o u c,s= .ended o u c)\/(∃fr own a c,s= .go (G fr (own++cs)) a c/\Rq F a)\/
 ∃d f a c g w1 b,s= .go f a c/\s'= .go g w1 b/\GR P Al F d cs cs' f g/\cB P Al F d a w1/\jL F π d v a w w1/\∀e∈b,nC F d e
section
variable {P:zZ}{Al:zF}{F:Kp}{π:Rn}{cs cs' own own':zL}{v w:zW}{fr fr':zC}
def cW.eval (h:cW P Al F π fr fr')(ok:Ok P π)(x:Operand)(b:CF P Al x):bG Al π (fr.eval x) (fr'.eval x):=by
 cases x with
 |tmp t=>
  simp only[Frame.eval];obtain⟨d,e⟩|⟨a,j,d,e,i⟩:=h.tmps.get t
  .simp only[zBi,d,e];exact eQ
  .simp only[zBi,d,e];exact i
 |const c=>exact b π ok
 |global g=>exact .pointer (.some ⟨ok.nB g b,rfl,rfl⟩)
 |func f=>exact .func b rfl rfl (by simp) (by simp) (by simp)
def Stepped.same (h:cB P Al F π v w){f f':zC}(b:cW P Al F π f f')(a:hQ (cW P Al F π) own own'):
  Stepped P Al F π cs cs' v w (.go (G f (own++cs)) v) (.go (G f' (own'++cs')) w):=by
 exact aH (aH ⟨π,_,v,_,_,w,#[],rfl,rfl,⟨f,f',own,own',rfl,rfl,b,a⟩,h,jL.refl v w,by simp⟩)
def Stepped.ended {o:Outcome}{u:zW}{es:zE}{s':GStep}:Stepped P Al F π cs cs' v w (.ended o u es) s':=aG ⟨o,u,es,rfl⟩
def YR {id:Nat}:∀{k a:zI},exitTo id k=aA a->∀i∈a,i∈k:=by
 intro k;induction k with
 |nil=>intro a h;cases h
 |cons x k c=>
  intro a h i b;cases x with
  |inBlock d=>
   simp only[exitTo]at h;split at h
   .cases h;exact zBe _ b
   .exact zBe _ (c h i b)
  |_=>simp only[exitTo]at h;exact zBe _ (c h i b)
def OW:∀{c:Code}{l:Nat}{r:Code},lG P Al F c->findLabel c l=aA r->lG P Al F r:=by
 intro c;induction c with
 |seq a b f i=>
  intro l r h d;simp only[findLabel]at d;split at d
  .rename_i rest e;cases d;exact⟨f h.1 e,h.2⟩
  .exact i h.2 d
 |label g=>
  intro l r h d;simp only[findLabel]at d;split at d
  .cases d;trivial
  .cases d
 |_=>intro l r h d;simp only[findLabel]at d;cases d
def Fo {l:Nat}:∀{k e:zI},(∀i∈k,iZ P Al F i)->gotoIn l k=aA e->∀i∈e,iZ P Al F i:=by
 intro k;induction k with
 |nil=>intro e h b;cases b
 |cons x k f=>
  intro e h b i a;have d:∀i∈k,iZ P Al F i:=λi a=>h i (zBe _ a);cases x with
  |inScope body=>
   simp only[gotoIn]at b;split at b
   .rename_i rest c;cases b;have g:lG P Al F body:=h _ (zAz);obtain rfl|a:=zAg.1 a
    .exact OW g c
    .obtain rfl|a:=zAg.1 a
     .exact g
     .exact d i a
   .exact f d b i a
  |_=>simp only[gotoIn]at b;exact f d b i a
end
end Go.Ren
