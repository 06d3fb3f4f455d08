import Derived.Test.YtghpcgagijhlaaaGreatDoorChecked
import Derived.KernelRfl
import Derived.Calls
import Derived.Test.YtghpcgagijhlaaaGreatDoorG00
set_option linter.all false
set_option maxRecDepth 100000
set_option maxHeartbeats 16000000
open Option renaming some->aA,none->aB
open Bool renaming true->aF,false->aG
open Or renaming inl->aH,inr->aI
open Go.Ending renaming returned->aM
open Go.Item renaming inRegion->aN
open Go.IntKind renaming i64->aD,u32->aP,u8->aQ
open Classical renaming choose->DJ
open Nat renaming testBit->OG,le_of_ble_eq_true->aMg,rec->aMh
open Option renaming bind_some->OF
open Go.Proofs.Tryz
open List renaming length->zAH,toArray->zAL
open Array renaming setIfInBounds->zAI,toList->zAM
open Go.World renaming setCell->zAJ,alloc->zAK
open Go.Proofs.Tryz renaming prog->zAN
section
variable {P:Prop}
def F0(h:P:=by rw[show({frame:=fr,callers:=own++[bK],status:= .running,dying:=aB}:zH)=G fr (own++[bK])from rfl,p];rfl):=h
def F6(h:P:=by rw[show({frame:=fr,callers:=[]++[bK],status:= .running,dying:=aB}:zH)=G fr ([]++[bK])from rfl,k];rfl):=h
def N4(h:P:=by exact Lo (congrArg (λg:zH=>g.callers) x)):=h
def N9(h:P:=by rw[e];exact j2):=h
def j2(h:P:=by decide):=h
def R9(h:P:=by exact congrArg (λg:zH=>g.frame) x):=h
def U8(h:P:=by exact aH ⟨_,_,_,rfl⟩):=h
def Z7(h:P:=by simp only[Ik,pure]at h;obtain⟨_,_,h⟩:=h;cases h;rfl):=h
def c9(h:P:=by kernel_rfl):=h
end
noncomputable section
namespace Go.Proofs
open Go.Ren
def qoA:Oper:=⟨aA 20,.makeFunc (.func 158) #[.tmp 2,.tmp 3,.tmp 4,.tmp 5,.tmp 6,.tmp 7,.tmp 8,.tmp 9,.tmp 10] #[],1,"q",#[],aB⟩
def qoB:Oper:=⟨aA 21,.makeFunc (.func 158) #[.tmp 11,.tmp 12,.tmp 13,.tmp 14,.tmp 15,.tmp 16,.tmp 17,.tmp 18,.tmp 19] #[],1,"q",#[],aB⟩
def qoC:Oper:=⟨aA 22,.makeFunc (.func 158) #[.tmp 0,.tmp 1,.tmp 20,.tmp 21] #[],224,"q",#[],aB⟩
def qoD:Oper:=⟨aA 23,.alloc 4,0,"q",#[],aB⟩
def qoS:Oper:=⟨aB,.store 4 (.tmp 23) (.const (.bool aF)),0,"q",#[],aB⟩
def qoL:Oper:=⟨aA 24,.load 4 (.tmp 23),4,"q",#[],aB⟩
def qoI:Oper:=⟨aA 25,.makeInterface 224 (.tmp 22),0,"q",#[],aB⟩
def qoP:Oper:=⟨aB,.panic (.tmp 25),0,"q",#[],aB⟩
def qoF:Oper:=⟨aA 26,.call ⟨.value (.func 170),#[.tmp 0,.tmp 1],#[146,166]⟩,82,"q",#[],aB⟩
def qr0:zQ:= #[qoA,qoB,qoC,qoD]
def jm:zQ:= #[qoS,qoL]
def qoV:Oper:=⟨aA 27,.waits 0,4,"q",#[],aB⟩
def qoX:Oper:=⟨aA 28,.load 135 (.global 0),135,"q",#[],aB⟩
def tf:Oper:=⟨aA 29,.binOp .leq 135 (.tmp 28) (.const (.int aP 1779033703)) 135,4,"q",#[],aB⟩
def qoW:Oper:=⟨aA 30,.binOp .geq 135 (.tmp 28) (.const (.int aP 1779033703)) 135,4,"q",#[],aB⟩
def qoZ:Oper:=⟨aB,.store 135 (.global 0) (.const (.int aP 0)),0,"q",#[],aB⟩
def qrV:zQ:= #[qoV]
def og:zQ:= #[qoX,tf,qoW]
def jl:zQ:= #[qoZ,qoI,qoP]
def Jo:zQ:= #[qoF]
def Rr:Code:= .seq (.region 3 Jo aG) .ret
def de:Code:= .refuse "not met"
def qc7:Code:= .cond (.tmp 30) (.region 2 jl aG) de
def oh:Code:= .cond (.tmp 29) qc7 de
def qc5:Code:= .seq (.region 5 og aG) oh
def qcO:Code:= .cond (.tmp 27) de qc5
def qcP:Code:= .seq (.region 4 qrV aG) qcO
def aB7:Code:= .cond (.tmp 24) qcP .skip
def qc3:Code:= .seq aB7 Rr
def qc2:Code:= .seq (.region 1 jm aF) qc3
def lgD:Oper:=⟨aA 35,.alloc 4,0,"q",#[],aB⟩
def xu:Oper:=⟨aB,.store 4 (.tmp 35) (.const (.bool aF)),0,"q",#[],aB⟩
def xv:Oper:=⟨aA 36,.load 4 (.tmp 35),4,"q",#[],aB⟩
def xr:Oper:=⟨aA 35,.move (.const undef),0,"q",#[],aB⟩
def xq:Oper:=⟨aA 36,.move (.const undef),0,"q",#[],aB⟩
def lr0:zQ:= #[lgD]
def Zx:zQ:= #[xu,xv]
def lr2:zQ:= #[xr,xq]
def Ru:Code:=f219.body.getD .skip
def lc3:Code:= .seq (.region 92 lr2 aG) Ru
def xw:Oper:=⟨aA 35,.load 135 (.global 0),135,"q",#[],aB⟩
def th:Oper:=⟨aA 36,.binOp .leq 135 (.tmp 35) (.const (.int aP 0)) 135,4,"q",#[],aB⟩
def lr3:zQ:= #[xw,th]
def lc6:Code:= .cond (.tmp 36) .ret .skip
def lc5:Code:= .seq (.region 93 lr3 aG) lc6
def pq:Code:= .cond (.tmp 36) lc5 .skip
def lc2:Code:= .seq pq lc3
def lc1:Code:= .seq (.region 91 Zx aF) lc2
def Qz.sY:Code:= .seq (.region 0 qr0 aG) qc2
def Qz.UJ:Code:= .seq (.region 90 lr0 aG) lc1
def Qz.Ic:Code:=(.seq (.region 0 #[⟨aA 26,.call ⟨.builtin .len,#[.tmp 1],#[166]⟩,3,"q",#[],aB⟩] aG) (.seq (.region 1 #[⟨aA 27,.makeSlice 287 (.tmp 26) (.tmp 26),287,"q",#[],aB⟩] aG) (.seq (.region 2 #[⟨aA 28,.move (.const (.int aD 0)),3,"q",#[],aB⟩] aG) (.seq (.block 0 (.loop (.seq (.region 3 #[⟨aA 29,.binOp .lss 3 (.tmp 28) (.tmp 26) 3,0,"q",#[],aB⟩] aG) (.seq (.cond (.tmp 29) .skip (.exit 0)) (.seq (.region 4 #[⟨aA 30,.indexAddr 166 (.tmp 1) (.tmp 28),0,"q",#[],aB⟩,⟨aA 31,.load 264 (.tmp 30),264,"q",#[],aB⟩] aG) (.seq (.region 5 #[⟨aA 32,.call ⟨.value (.func 236),#[.tmp 0,.tmp 31],#[146,264]⟩,283,"q",#[],aB⟩] aG) (.seq (.region 6 #[⟨aA 33,.indexAddr 287 (.tmp 27) (.tmp 28),0,"q",#[],aB⟩,⟨aB,.store 283 (.tmp 33) (.tmp 32),0,"q",#[],aB⟩] aG) (.region 7 #[⟨aA 34,.binOp .add 3 (.tmp 28) (.const (.int aD 1)) 3,3,"q",#[],aB⟩,⟨aA 28,.move (.tmp 34),3,"q",#[],aB⟩] aG)))))))) (.seq (.region 8 #[⟨aA 35,.move (.const (.int aD 0)),3,"q",#[],aB⟩] aG) (.seq (.block 1 (.loop (.seq (.region 9 #[⟨aA 36,.binOp .lss 3 (.tmp 35) (.tmp 26) 3,0,"q",#[],aB⟩] aG) (.seq (.cond (.tmp 36) .skip (.exit 1)) (.seq (.region 10 #[⟨aA 37,.indexAddr 287 (.tmp 27) (.tmp 35),0,"q",#[],aB⟩,⟨aA 38,.load 283 (.tmp 37),283,"q",#[],aB⟩] aG) (.seq (.region 11 #[⟨aA 39,.call ⟨.value (.func 235),#[.tmp 38],#[283]⟩,0,"q",#[],aB⟩] aG) (.region 12 #[⟨aA 40,.binOp .add 3 (.tmp 35) (.const (.int aD 1)) 3,3,"q",#[],aB⟩,⟨aA 35,.move (.tmp 40),3,"q",#[],aB⟩] aG))))))) .ret))))))
def Qz.f233:Func:={Tryz.f233 with ntmps:=43,body:=aA Qz.sY}
def Qz.f219:Func:={Tryz.f219 with body:=aA Qz.UJ}
def Qz.f170:Func:={Tryz.f170 with body:=aA Qz.Ic}
def Qz.no (f:Func):Func:={f with body:=aA (.refuse "not met")}
@[irreducible]noncomputable def seven (fs:Array Func):Array Func:=(zAI (zAI (zAI (zAI (zAI (zAI (zAI (zAI (zAI fs 219 Qz.f219) 233 Qz.f233) 170 Qz.f170) 149 (Qz.no f149)) 150 (Qz.no f150)) 151 (Qz.no f151)) 152 (Qz.no f152)) 153 (Qz.no f153)) 154 (Qz.no f154))
@[irreducible]noncomputable def ED (fs:Array Func):Array Func:=zAI (zAI fs 233 (Qz.no f233)) 170 (Qz.no f170)
def zq:zZ:={toTables:=Tryz.prog.toTables,funcs:=seven Tryz.prog.funcs}
def Qm.prog:zZ:={toTables:=Tryz.prog.toTables,funcs:=ED (seven Tryz.prog.funcs)}
def Qz.al:zN->Bool:=λf=>OG 139580918110910343807797178301084320957570851558200199008155464778716806392 f
def Qm.al:zN->Bool:=λf=>OG 139580918110910343807795681358032284780256881434010289355272582189809663224 f
def Qw.al:zN->Bool:=λf=>OG 127378954095726651068573390198365847081352342459166239694769917287058112512 f
def Qz.met (s:String):Bool:=s== "Next"||s== "Root"||s== "Prove"||s== "Forget"||s== "Entries"||s== "Cells"
def Qz.kP (f:zN):Prop:=f=219\/f=233\/f=170\/f=149\/f=150\/f=151\/f=152\/f=153\/f=154
theorem To (fs){f}(h:¬Qz.kP f):(seven fs)[f]? =fs[f]? :=by simp only[Qz.kP,not_or]at h;let⟨b,a,c,k,j,i,g,e,d⟩:=h;unfold seven;rw[Et (Dp d),Et (Dp e),Et (Dp g),Et (Dp i),Et (Dp j),Et (Dp k),Et (Dp c),Et (Dp a),Et (Dp b)]
theorem br (fs:Array Func)(b x c i h g f e d)(hs:233<fs.size):(λa:Array Func=>a[219]? =aA b/\a[233]? =aA x/\a[170]? =aA c/\a[149]? =aA i/\a[150]? =aA h/\a[151]? =aA g/\a[152]? =aA f/\a[153]? =aA e/\a[154]? =aA d) (zAI (zAI (zAI (zAI (zAI (zAI (zAI (zAI (zAI fs 219 b) 233 x) 170 c) 149 i) 150 h) 151 g) 152 f) 153 e) 154 d):=by refine⟨?_,?_,?_,?_,?_,?_,?_,?_,?_⟩<;>simp[Hq]<;>omega
theorem Qz.lt {f:zN}{x}(h:Tryz.prog.funcs[f]? =aA x):f<Tryz.prog.funcs.size:=ji
theorem Qz.vP:zq.funcs=seven Tryz.prog.funcs:=by unfold zq;rfl
theorem Qm.vP:Qm.prog.funcs=ED zq.funcs:=by unfold Qm.prog zq;rfl
def Qz.jJ:zq.toTables=Tryz.prog.toTables:=by unfold zq;rfl
def Qm.jJ:Qm.prog.toTables=Tryz.prog.toTables:=by unfold Qm.prog;rfl
theorem Qz.same {f}(h:¬Qz.kP f):zq.funcs[f]? =Tryz.prog.funcs[f]? :=by grind[vP,To]
theorem Qm.same {f:zN}(h:f≠233)(a:f≠170):Qm.prog.funcs[f]? =zq.funcs[f]? :=by rw[Qm.vP];unfold ED;exact ji
def Qz.all:zq.funcs[219]? =aA Qz.f219/\zq.funcs[233]? =aA Qz.f233/\zq.funcs[170]? =aA Qz.f170/\zq.funcs[149]? =aA (Qz.no Tryz.f149)/\zq.funcs[150]? =aA (Qz.no Tryz.f150)/\zq.funcs[151]? =aA (Qz.no Tryz.f151)/\zq.funcs[152]? =aA (Qz.no Tryz.f152)/\zq.funcs[153]? =aA (Qz.no Tryz.f153)/\zq.funcs[154]? =aA (Qz.no Tryz.f154):=by rw[Qz.vP];have h:=(Qz.lt Tryz.func233);unfold seven;grind[br]
def Qz.func219:zq.funcs[219]? =aA Qz.f219:=Qz.all.1
def Qz.func233:zq.funcs[233]? =aA Qz.f233:=Qz.all.2.1
def Qz.func170:zq.funcs[170]? =aA Qz.f170:=Qz.all.2.2.1
def Qz.func149:zq.funcs[149]? =aA (Qz.no Tryz.f149):=Qz.all.2.2.2.1
def Qz.func150:zq.funcs[150]? =aA (Qz.no Tryz.f150):=Qz.all.2.2.2.2.1
def Qz.func151:zq.funcs[151]? =aA (Qz.no Tryz.f151):=Qz.all.2.2.2.2.2.1
def Qz.func152:zq.funcs[152]? =aA (Qz.no Tryz.f152):=Qz.all.2.2.2.2.2.2.1
def Qz.func153:zq.funcs[153]? =aA (Qz.no Tryz.f153):=Qz.all.2.2.2.2.2.2.2.1
def Qz.func154:zq.funcs[154]? =aA (Qz.no Tryz.f154):=Qz.all.2.2.2.2.2.2.2.2
def QX (fs)(a:233<fs.size)(h:170<fs.size):(ED fs)[233]? =aA (Qz.no f233)/\(ED fs)[170]? =aA (Qz.no f170):=by unfold ED;exact ji
def Qm.func233:Qm.prog.funcs[233]? =aA (Qz.no Tryz.f233):=by rw[Qm.vP];exact(QX _ (Ax.1 Qz.func233).1 (Ax.1 Qz.func170).1).1
def Qm.func170:Qm.prog.funcs[170]? =aA (Qz.no Tryz.f170):=by rw[Qm.vP];exact(QX _ (Ax.1 Qz.func233).1 (Ax.1 Qz.func170).1).2
def Qz.FB {f}(h:Qz.kP f):∃a,Tryz.prog.funcs[f]? =aA a/\∃b,zq.funcs[f]? =aA b/\b.name=a.name/\b.norace=a.norace/\b.results=a.results/\∃d c,a.body=aA d/\b.body=aA c:=by obtain rfl|rfl|rfl|rfl|rfl|rfl|rfl|rfl|rfl:=h;{exact⟨_,Tryz.func219,_,Qz.func219,rfl,rfl,rfl,_,_,rfl,rfl⟩};{exact⟨_,Tryz.func233,_,Qz.func233,rfl,rfl,rfl,_,_,rfl,rfl⟩};{exact⟨_,Tryz.func170,_,Qz.func170,rfl,rfl,rfl,_,_,rfl,rfl⟩};{exact⟨_,Tryz.func149,_,Qz.func149,rfl,rfl,rfl,_,_,rfl,rfl⟩};{exact⟨_,Tryz.func150,_,Qz.func150,rfl,rfl,rfl,_,_,rfl,rfl⟩};{exact⟨_,Tryz.func151,_,Qz.func151,rfl,rfl,rfl,_,_,rfl,rfl⟩};{exact⟨_,Tryz.func152,_,Qz.func152,rfl,rfl,rfl,_,_,rfl,rfl⟩};{exact⟨_,Tryz.func153,_,Qz.func153,rfl,rfl,rfl,_,_,rfl,rfl⟩};.exact⟨_,Tryz.func154,_,Qz.func154,rfl,rfl,rfl,_,_,rfl,rfl⟩
def Qz.back:(⟨zq.toTables,Tryz.prog.funcs⟩:zZ)=zAN:=by rw[Qz.jJ]
def Qz.ks:(⟨zq.toTables,Qm.prog.funcs⟩:zZ)=Qm.prog:=by rw[Qz.jJ,<-Qm.jJ]
def Qz.shape:Shape zq Tryz.prog.funcs:=λf=>by by_cases h:Qz.kP f;{obtain⟨a,g,b,e,j,i,_,l,k,d,c⟩:=Qz.FB h;exact aI ⟨b,a,e,g,j.symm,by rw[c];rfl,by rw[d];rfl,i.symm⟩};.exact aH (Qz.same h).symm
def Qz.res (f:zN):(Tryz.prog.funcs[f]?).map (·.results)=(zq.funcs[f]?).map (·.results):=by by_cases h:Qz.kP f;{obtain⟨a,d,b,c,_,_,e,_⟩:=Qz.FB h;rw[d,c];simp[e]};.rw[Qz.same h]
def Qz.aB0 (f:zN):(Qm.prog.funcs[f]?).map (·.results)=(zq.funcs[f]?).map (·.results):=by by_cases a:f=233;{subst a;rw[Qm.func233,Qz.func233];rfl};.by_cases h:f=170;{subst h;rw[Qm.func170,Qz.func170];rfl};.rw[Qm.same a h]
def Qz.nu:Shape zq Qm.prog.funcs:=λf=>by by_cases a:f=233;{subst a;exact aI ⟨_,_,Qz.func233,Qm.func233,rfl,rfl,rfl,rfl⟩};.by_cases h:f=170;{subst h;exact aI ⟨_,_,Qz.func170,Qm.func170,rfl,rfl,rfl,rfl⟩};.exact aH (Qm.same a h)
def Qz.xh:Tryz.prog.funcs[233]?≠zq.funcs[233]? :=by rw[Tryz.func233,Qz.func233];intro h;injection h with h;have:Tryz.f233.ntmps=Qz.f233.ntmps:=by{rw[h]};cases this
def Qz.xi:Tryz.prog.funcs[170]?≠zq.funcs[170]? :=by rw[Tryz.func170,Qz.func170];intro h;injection h with h;have:Tryz.f170.body=Qz.f170.body:=by{rw[h]};cases this
end Go.Proofs
namespace Go.Ren
theorem zFg {info d i}(h:Made.reckon info d=aA i):i.methods= #[]:=by cases d with|struct f=>unfold Made.reckon Made.reckonStruct at h;grind[Option.bind_eq_some_iff]|pointer e=>simp only[Made.reckon,bind,Ik]at h;let⟨j,_,h⟩:=h;split at h;{cases h};{split at h;{exact A4};.exact Z7};.exact Z7|slice e=>simp only[Made.reckon,bind,Ik,pure]at h;let⟨_,_,_,_,h⟩:=h;cases h;rfl|map k e=>simp only[Made.reckon,bind,Ik,pure]at h;let⟨_,_,_,_,_,_,_,_,h⟩:=h;cases h;rfl|chan dir e=>simp only[Made.reckon,bind,Ik,pure]at h;let⟨_,_,_,_,h⟩:=h;cases h;rfl|func p rs v=>simp only[Made.reckon,bind,Ik,pure]at h;let⟨_,_,h⟩:=h;cases h;rfl|array n e=>simp only[Made.reckon,bind,Ik,pure]at h;grind|_=>simp[Made.reckon]at h
def Jx {P:zZ}{t i m s}(hi:P.info? t=aA i)(a:i.methods.find? (·.name==s)=aA m):t<P.types.size:=by by_cases h:t<P.types.size;{exact h};.exfalso;unfold Tables.info? at hi;rw[AF h]at hi;unfold Made.depth at hi;unfold Made.infoAt at hi;rw[AF h]at hi;let⟨d,_,b⟩:=Ik.1 hi;grind[zFg]
end Go.Ren
namespace Go.Proofs
open Go.Ren
def Qz.uf (t:zD):Bool:=t==5||t==178
def Qz.ck (k:Nat->Bool):Ck:=⟨λf=>bif decide (f<254)then Qz.al f else(f==900219||k f),Qz.uf,Qz.met,aF⟩
def Qm.ck (k:Nat->Bool):Ck:=⟨λf=>bif decide (f<254)then Qm.al f else(f==900219||k f),Qz.uf,Qz.met,aF⟩
def Qw.ck:Ck:=⟨λf=>decide (f<254)&&Qw.al f,Qz.uf,λ_=>aG,aG⟩
def MR (P:zZ)(C:Ck):Bool:=(List.range 254).all λf=> !C.al f||(match P.funcs[f]? with|some fn=>(fn.name != "runtime.NumGoroutine")&&(match fn.body with|some c=>pD P C c|none=>f==103||f==131||f==132||f==177)|none=>aF)
def sX (P:zZ)(C:Ck)(s:String):Bool:=(List.range P.types.size).all λt=>match P.info? t with|some i=>(match i.methods.find? (·.name==s)with|some m=>m.path.isEmpty&&(match m.func with|some (f,aF)=>C.al f|_=>aG)|none=>aF)|none=>aF
def UI (P:zZ):Bool:=(List.range P.types.size).all λt=>(match P.info? t with|some i=>(match i.zero with|some z=>Rs 8 z|none=>aF)|none=>aF)&& (match P.underlying t with|some (.slice e)=>decide (e<P.types.size)|some (.pointer e)=>decide (e<P.types.size)|some (.array _ e)=>decide (e<P.types.size)|_=>aF)
theorem zDo {P C s}(h:sX P C s=aF):yF P (λf=>C.al f=aF) s:=λt i m hi a=>by have b:=Jx hi a;have:=Ej.1 h t ji;exact ji
def uW {P C}(h:MR P C=aF)(hlt:P.funcs.size=254){f fn}(b:C.al f=aF)(a:P.funcs[f]? =aA fn):fn.name≠ "runtime.NumGoroutine"/\(∀c,fn.body=aA c->pD P C c=aF)/\(fn.body=aB->f=103\/f=131\/f=132\/f=177):=by have:=Ej.1 h f ji;exact ji
def wF {P:zZ}{C:Ck}{F:Kp}(a:UI P=aF)(h:MR P C=aF)(hlt:P.funcs.size=254)(r:P.types.size<=1000000)(j:∀e,C.uf e=aF->mA P e)(l:∀m,C.mt m=aF->yF P (λf=>C.al f=aF) m)(n:C.mark=aF->∀b,¬F b)(o:C.mark=aG->¬F.cmp) (p:∀f fn,C.al f=aF->P.funcs[f]? =aA fn->f=103\/f=131\/f=132\/f=177->Extern.findNext fn=aB/\∃e,Extern.find fn=aA e/\∀(π:Rn) xs x,Ok P π->bB (λf=>C.al f=aF) π xs x->bY P (λf=>C.al f=aF) F (VR (λf=>C.al f=aF)) π (e xs) (e x)):cN P (λf=>C.al f=aF) F:= ⟨⟨(by have k:=λt (q:t<P.types.size)=>Bool.and_eq_true_iff.1 (Ej.1 a t ji);refine⟨λt i z q hi v=> ?_,ji,ji,ji⟩;{have:=(k t q).1;grind[AY]};all_goals grind),λi hi=>by cases hm:i.methods.find? (·.name== "")with|none=>rfl|some m=>exact absurd (Jx hi hm) (by grind),λf fn g d=>(uW h hlt g d).1,λf fn g d u=>p f fn g d ((uW h hlt g d).2.2 u)⟩,λf fn c g d s=>zFq j l n o ((uW h hlt g d).2.1 c s)⟩
def JL:zq.funcs.size=254/\zq.types.size<=1000000:=⟨c9,aMg c9⟩
def jk:Qm.prog.funcs.size=254/\Qm.prog.types.size<=1000000:=⟨c9,aMg c9⟩
def Xb:UI zq=aF:=c9
def aAc:UI Qm.prog=aF:=c9
def ik (P:zZ)(C:Ck):Bool:=sX P C "Next"&&sX P C "Root"&&sX P C "Prove"&&sX P C "Forget"&&sX P C "Entries"&&sX P C "Cells"
def xl (k):ik zq (Qz.ck k)=aF:=c9
def xn (k):ik Qm.prog (Qm.ck k)=aF:=c9
def qs (k):MR Qm.prog (Qm.ck k)=aF:=c9
def aBN {P}(h:P.underlying 5=aA (.int aQ)):mA P 5:=λd off x a Al b=>by cases d with|zero=>cases a|succ d=>simp only[plainCell,h]at a;split at a;{cases a;exact .int _ _};{cases a}
def my {P f0 f1}(h:P.underlying 178=aA (.struct #[f0,f1]))(b:∃e,P.underlying f0.type=aA (.pointer e))(a:∃e,P.underlying f1.type=aA (.slice e)):mA P 178:=λd off x c Al g=>by let⟨j,b⟩:=b;let⟨i,a⟩:=a;cases d with|zero=>cases c|succ d=>exfalso;have f:∀o,plainCell P d f0.type o=aB:=λo=>by{cases d<;>simp[plainCell,b]};have n:∀o,plainCell P d f1.type o=aB:=λo=>by{cases d<;>simp[plainCell,a]};simp[plainCell,h,f,n]at c
def vl (fs)(e)(h:Qz.uf e=aF):mA ⟨Tryz.prog.toTables,fs⟩ e:=by unfold Qz.uf at h;rw[JJ,Hc,Hc]at h;obtain rfl|rfl:=h;{exact aBN c9};.exact my (f0:={name:= "addr",type:=176,offset:=0,embedded:=aG,tag:= "",pkgPath:= "strings",byteOffset:=0}) (f1:={name:= "buf",type:=50,offset:=1,embedded:=aG,tag:= "",pkgPath:= "strings",byteOffset:=8}) c9 ⟨178,c9⟩ ⟨5,c9⟩
def Qz.vm (e)(h:Qz.uf e=aF):mA zq e:=vl _ e h
def Qm.vm (e)(h:Qz.uf e=aF):mA Qm.prog e:=vl _ e h
def IL:Extern.findNext f103=aB/\Extern.find f103=aA Extern.BytealgCompare.compare:=⟨by kernel_rfl,by kernel_rfl⟩
def IK:Extern.findNext f131=aB/\Extern.find f131=aA Extern.AbiNoEscape.same:=⟨by kernel_rfl,by kernel_rfl⟩
def IJ:Extern.findNext f132=aB/\Extern.find f132=aA (Extern.BytealgMakeNoZero.makeNoZero #[3] #[50]):=⟨by kernel_rfl,by kernel_rfl⟩
def II:Extern.findNext f177=aB/\Extern.find f177=aA (Extern.SlicesOverlaps.overlaps #[48,48] #[4]):=⟨by kernel_rfl,by kernel_rfl⟩
instance (f:zN):Decidable (Qz.kP f):=by unfold Qz.kP;infer_instance
def Qm.Jm {f}(h:¬Qz.kP f):Qm.prog.funcs[f]? =Tryz.prog.funcs[f]? :=(Qm.same (λe=>h N9) λe=>h N9).trans (Qz.same h)
def Qz.sA {C:Ck}{F}(hF:C.al 177=aF->∀b,¬F b)(f)(fn)(g:C.al f=aF)(a:zq.funcs[f]? =aA fn)(h:f=103\/f=131\/f=132\/f=177):Extern.findNext fn=aB/\∃e,Extern.find fn=aA e/\∀(c) d x,Ok zq c->bB (λf=>C.al f=aF) c d x->bY zq (λf=>C.al f=aF) F (VR (λf=>C.al f=aF)) c (e d) (e x):=by obtain rfl|rfl|rfl|rfl:=h;{rw[Qz.same j2,Tryz.func103]at a;cases a;exact⟨IL.1,_,IL.2,λc d x ok h=>FL h⟩};{rw[Qz.same j2,Tryz.func131]at a;cases a;exact⟨IK.1,_,IK.2,λc d x ok h=>WL h⟩};{rw[Qz.same j2,Tryz.func132]at a;cases a;exact⟨IJ.1,_,IJ.2,by grind[uE]⟩};.rw[Qz.same j2,Tryz.func177]at a;cases a;exact⟨II.1,_,II.2,by grind[zM]⟩
abbrev Qz.Ak (k:Nat->Bool):zF:=λf=>(Qz.ck k).al f=aF
abbrev Qz.Al:zF:=Qz.Ak (·==1000001)
abbrev Qz.Aj (vb:Nat):zF:=Qz.Ak λf=>f==1000000||f==1000002+vb
abbrev Qz.Ab (N:Nat):zF:=Qz.Ak λf=>f==1000001||f==1000002+N
abbrev Qm.Al:zF:=λf=>(Qm.ck (·==1000001)).al f=aF
abbrev Qw.Al:zF:=λf=>Qw.ck.al f=aF
def kr {m:zN->Bool}(f)(h:(decide (f<254)&&m f)=aF):f<254:=ji
def aAl {m k:Nat->Bool}{f}(h:(bif decide (f<254)then m f else k f)=aF):(f<254/\m f=aF)\/(254<=f/\k f=aF):=ji
def aAm {m k:Nat->Bool}{f}(h:f<254):(bif decide (f<254)then m f else k f)=m f:=ji
def aGc {m k:Nat->Bool}{f}(h:254<=f):(bif decide (f<254)then m f else k f)=k f:=ji
def ju {P C}(h:ik P C=aF)(m)(a:Qz.met m=aF):yF P (λf=>C.al f=aF) m:=by unfold ik at h;simp only[De]at h;let⟨⟨⟨⟨⟨i,g⟩,e⟩,d⟩,c⟩,b⟩:=h;unfold Qz.met at a;simp only[JJ,Hc]at a;grind[zDo]
def Qz.CK (k)(K)(a:∀b,¬K b):cN zq (Qz.Ak k) K:=wF Xb c9 JL.1 JL.2 (λe h=>Qz.vm e h) (λm h=>ju (xl k) m h) (λ_=>a) (λh=>A4) λf fn d c h=>Qz.sA (λ_=>a) f fn d c h
def Qz.jW (K)(h:∀b,¬K b):cN zq Qz.Al K:=Qz.CK _ K h
def Qm.jW (K)(g:∀b,¬K b):cN Qm.prog Qm.Al K:=wF aAc (qs _) jk.1 jk.2 (λe h=>Qm.vm e h) (λm h=>ju (xn _) m h) (λ_=>g) (λh=>A4) λf fn i a h=>by obtain rfl|rfl|rfl|rfl:=h;{rw[Qm.Jm j2,Tryz.func103]at a;cases a;exact⟨IL.1,_,IL.2,λc d x ok h=>FL h⟩};{rw[Qm.Jm j2,Tryz.func131]at a;cases a;exact⟨IK.1,_,IK.2,λc d x ok h=>WL h⟩};{rw[Qm.Jm j2,Tryz.func132]at a;cases a;exact⟨IJ.1,_,IJ.2,by grind[uE]⟩};{rw[Qm.Jm j2,Tryz.func177]at a;cases a;exact⟨II.1,_,II.2,by grind[zM]⟩}
theorem Qw.xg:Qw.ck.al 177=aG:=c9
theorem Qw.jW (K)(c:¬K.cmp):cN zq Qw.Al K:=wF Xb c9 JL.1 JL.2 (λe h=>Qz.vm e h) (λm h=>A4) (λh=>A4) (λ_=>c) λf fn b a h=>Qz.sA (by grind[xg]) f fn b a h
def Qw.ck0:Ck:=⟨λf=>decide (f<254)&&Qw.al f,Qz.uf,λ_=>aG,aF⟩
def Qw.UL (K)(a:∀b,¬K b):cN zq Qw.Al K:=wF (C:=Qw.ck0) Xb c9 JL.1 JL.2 (λe h=>Qz.vm e h) (λm h=>A4) (λ_=>a) (λh=>A4) λf fn d c h=>Qz.sA (C:=Qw.ck0) (λ_=>a) f fn d c h
def Qw.plain:((List.range 254).all λf=> !Qw.ck.al f||(f !=219&&f !=233&&f !=170&&f !=149&&f !=150&&f !=151&&f !=152&&f !=153&&f !=154))=aF:=c9
def Qm.sub {f}(h:Qm.Al f):Qz.Al f:=by have a:((List.range 254).all λf=> !Qm.al f||Qz.al f)=aF:=by{kernel_rfl};show(bif decide (f<254)then Qz.al f else(f==900219||f==1000001))=aF;obtain⟨b,h⟩|⟨b,h⟩:=aAl (k:=λf=>f==900219||f==1000001) h;all_goals grind
def Qz.flag {k}(f:Nat)(h:254<=f):Qz.Ak k f↔(f==900219||k f)=aF:=by show(bif decide (f<254)then Qz.al f else(f==900219||k f))=aF↔_;exact ji
def Qz.other {k k'}{f:Nat}(a:f<254)(h:Qz.Ak k f):Qz.Ak k' f:=by have h:(bif decide (f<254)then Qz.al f else(f==900219||k f))=aF:=h;show(bif decide (f<254)then Qz.al f else(f==900219||k' f))=aF;exact ji
def Qm.flag (f:Nat)(h:254<=f):Qm.Al f↔f=900219\/f=1000001:=by show(bif decide (f<254)then Qm.al f else(f==900219||f==1000001))=aF↔_;exact ji
def Qz.Ah (f:Nat)(h:254<=f):Qz.Al f↔f=900219\/f=1000001:=(Qz.flag f h).trans j0
def Qz.Ai (vb f:Nat)(h:254<=f):Qz.Aj vb f↔f=900219\/f=1000000\/f=1000002+vb:=(Qz.flag f h).trans j0
def Qz.Ki (N f:Nat)(h:254<=f):Qz.Ab N f↔f=900219\/f=1000001\/f=1000002+N:=(Qz.flag f h).trans j0
def Qz.nj:¬Qz.Al 1000000/\∀k,¬Qz.Al (1000002+k):=by refine⟨λh=> ?_,λk h=> ?_⟩;{have:=(Qz.Ah 1000000 bm).1 h;exact bm};.have:=(Qz.Ah (1000002+k) bm).1 h;exact bm
def Qm.nj:¬Qm.Al 1000000/\∀k,¬Qm.Al (1000002+k):=by refine⟨λh=> ?_,λk h=> ?_⟩;{have:=(Qm.flag 1000000 bm).1 h;exact bm};.have:=(Qm.flag (1000002+k) bm).1 h;exact bm
def Qz.ns {vb}:¬Qz.Aj vb 1000001:=λh=>by have:=(Qz.Ai vb 1000001 bm).1 h;exact bm
def Qz.VP {vb k:Nat}(h:Qz.Aj vb (1000002+k)):k=vb:=by have:=(Qz.Ai vb (1000002+k) bm).1 h;exact bm
def Qz.vj {N k:Nat}(h:Qz.Ab N (1000002+k)):N<=k:=by have:=(Qz.Ki N (1000002+k) bm).1 h;exact bm
def Qz.nbj {N}:¬Qz.Ab N 1000000:=λh=>by have:=(Qz.Ki N 1000000 bm).1 h;exact bm
theorem Qw.nf (k:Nat)(hk:254<=k):¬Qw.Al k:=λh=>by have:=kr k h;exact ji
def Qw.nv:¬Qw.Al 1000000/\∀k,¬Qw.Al (1000002+k):=by grind[nf]
def Qz.qm:Qz.Al 1000001:=(Qz.Ah 1000001 bm).2 (aI rfl)
def Qz.jo {f}(b:Qz.Al f)(h:Qz.Al (900000+f)):f=219:=by have a:=(Qz.Ah (900000+f) bm).1 h;obtain a|a:=a;{exact ji};.exfalso;have e:f=100001:=ji;subst e;have:=(Qz.Ah 100001 bm).1 b;exact bm
def Qz.aDn {vb}:Qz.Aj vb 1000000:=(Qz.Ai vb 1000000 bm).2 bm
def Qz.ql {vb}:Qz.Aj vb (1000002+vb):=(Qz.Ai vb (1000002+vb) bm).2 bm
def Qz.hasB {N}:Qz.Ab N 1000001/\Qz.Ab N (1000002+N):=⟨(Qz.Ki N 1000001 bm).2 bm,(Qz.Ki N (1000002+N) bm).2 bm⟩
def Qm.qm:Qm.Al 1000001:=(Qm.flag 1000001 bm).2 (aI rfl)
def Qm.jr:¬Qm.Al 170:=by have:(Qm.ck (·==1000001)).al 170=aG:=by{kernel_rfl};exact ji
end Go.Proofs
namespace Go.Ren
open Go.Conc (G)
section
variable {P:zZ}{Al:zF}{F:Kp}{π:Rn}{cs cs' own own':zL}{v w:zW}
def vU {fn es e}(h:e∈seen P fn es):e∈es:=Go.Conc.mem_seen h
def cV.LQ {fr fr':zC}(h:cV P Al F π fr fr'){m a:FrameMode}(b:UT Al π m a):cV P Al F π {fr with mode:=m} {fr' with mode:=a}:= ⟨h.fn,h.al,h.tmps,h.todo,h.items,h.defers,b,h.kind,h.kinds,h.round,h.qX⟩
def cV.raise {fr fr'}(h:cV P Al F π fr fr'){l b}(hl:gZ (Lh Al π) l b):cV P Al F π (fr.raise l) (fr'.raise b):=by have a:=h.mode;unfold Frame.raise;revert a;cases fr.mode<;>cases fr'.mode<;>intro a<;>cases a;{exact h.LQ (.panicking hl)};{exact h.LQ (.panicking hl)};.rename_i c;exact h.LQ (.panicking (hl.append c))
def cV.finish {fr fr'}(h:cV P Al F π fr fr'){x A}(B:bM Al π x A):cV P Al F π (fr.finish x) (fr'.finish A):=by let⟨fn,tmps,todo,defers,mode,kind,round⟩:=fr;let⟨G,p,t,f,q,u,qX⟩:=fr';let⟨E,o,e,D,c,n,m,C,g,z,y⟩:=h;dsimp only at*;subst E;subst D;subst C;subst z;subst y;unfold Frame.finish;cases t with|nil=>exact⟨rfl,o,e,rfl,c,n,m,rfl,g,rfl,rfl⟩|cons i k=>cases i with|inRegion ops l=>{cases l with|nil=>exact⟨rfl,o,e,rfl,c,n,m,rfl,g,rfl,rfl⟩|cons j rest=>refine⟨rfl,o,?_,rfl,λi hi=> ?_,n,m,rfl,g,rfl,rfl⟩;{dsimp only;cases(ops[j]?).bind (·.dst)with|none=>exact e|some d=>exact e.set B d};.obtain rfl|hi:=Bb.1 hi;{exact c (aN ops (j::rest)) ji};exact ji}|inRangeFunc l=>exact(c _ (EJ)).elim|beginRound=>exact(c _ (EJ)).elim|call d b r s=>exact(c _ (EJ)).elim|extern r a=>exact(c _ (EJ)).elim|_=>exact⟨rfl,o,e,rfl,c,n,m,rfl,g,rfl,rfl⟩
theorem cV.enter (B:cN P Al F){f}(b:Al f){a x}(d:bB Al π a x){k}(hk:k= .normal\/k= .deferred):cV P Al F π (Frame.enter P f a k) (Frame.enter P f x k):=by unfold Frame.enter;refine⟨rfl,b,?_,rfl,λi hi=> ?_,.nil,.run,rfl,hk,rfl,rfl⟩;{dsimp only;rw[d.size];exact d.append (bB.replicate eK _)};.simp only[Cy]at hi;subst hi;cases h:P.funcs[f]? with|none=>trivial|some fn=>cases hb:fn.body with|none=>simp only[OF,hb,Option.getD_none];trivial|some c=>simp only[OF,hb,Gu];exact B.body f fn c b h hb
def Rd (B:cN P Al F)(K:bV P Al F π v w){fr fr'}(z:cV P Al F π fr fr')(L:gZ (cV P Al F π) own own'){s s'}(hs:bY P Al F (NA Al) π s s'): Stepped P Al F π cs cs' v w (stepG.apply P aF fr (own++cs) aB s v) (stepG.apply P aF fr' (own'++cs') aB s' w):=by have M:(fr'.kind== .early)=aG:=by{rw[z.kind];grind[cV.kinds]};have A:=z.items;unfold stepG.apply;rw[z.todo];simp only[Cx];obtain(⟨hl,V,p,e,q⟩|⟨f,C⟩)|⟨m,j,w1,p,d,h1,o,R,Q⟩:=hs.runT v w #[] #[] K;{rw[e];obtain⟨I,rfl⟩|⟨u,rfl,hu⟩:=q;{exact U8};.cases u with|initOrder g=>grind|_=>exact U8};{obtain⟨a,b,m,j,p,r1,n⟩|⟨x,j,p,r1⟩:=C;{rw[r1]at f⊢;cases n with|value E=>exact aI (aH ⟨_,own,j,_,rfl,f⟩)|skip=>exact aI (aH ⟨_,own,j,_,rfl,f⟩)|enter t H=>exact aI (aH ⟨_,fr::own,j,_,rfl,f⟩)|defer G=>exact aI (aH ⟨_,own,j,_,rfl,f⟩)};.rw[r1]at f⊢;exact aI (aH ⟨_,own,j,_,rfl,f⟩)};.have N:∀e∈seen P fr'.fn d,pP F m e:=λe O=>R e (vU O);have l:=L.imp λa b (h:cV P Al F π a b)=>h.mono o.sub;have c:=z.mono o.sub;obtain⟨a,b,r1,r2,n⟩|⟨x,U,r1,r2,J⟩:=Q;{rw[r1,r2];simp only[JO];cases n with| @value y T E=>exact aI (aI ⟨m,_,j,_,_,w1,_,rfl,rfl,⟨_,_,own,own',rfl,rfl,c.finish E,l⟩,h1,o,ji⟩)|skip=>exact aI (aI ⟨m,_,j,_,_,w1,_,rfl,rfl,⟨_,_,own,own',rfl,rfl,c.finish eK,l⟩,h1,o,ji⟩)|enter t H=>{refine aI (aI ⟨m,_,j,_,_,w1,_,rfl,rfl,⟨_,_,fr::own,fr'::own',rfl,rfl,cV.enter B t H ?_,.cons c l⟩,h1,o,ji⟩);left;cases W:fr.todo with|nil=>rfl|cons i k=>cases i with|call d b r s=>exact False.elim (A (.call d b r s) ji)|_=>rfl}| @defer S D G=>refine aI (aI ⟨m,_,j,_,_,w1,_,rfl,rfl,⟨_,_,own,own',rfl,rfl,cV.finish (fr:={fr with defers:=S::fr.defers}) (fr':={fr' with todo:=fr.todo,defers:=D::fr'.defers}) ⟨c.fn,c.al,c.tmps,rfl,c.items,.cons G c.defers,c.mode,c.kind,c.kinds,c.round,c.qX⟩ eK,l⟩,h1,o,ji⟩)};.rw[r1,r2];simp only[JO];exact aI (aI ⟨m,_,j,_,_,w1,_,rfl,rfl,⟨_,_,own,own',rfl,rfl,c.raise (.cons ⟨J,rfl,rfl⟩ .nil),l⟩,h1,o,ji⟩)
def pU {t b}(h:bB Al π t b)(ops)(j):yielded ops b j=yielded ops t j:=by unfold yielded;cases(ops[j]?).bind (·.dst)with|none=>rfl|some d=>simp only[OF];obtain⟨a,e⟩|⟨x,c,a,e,g⟩:=h.get d;{rw[a,e]};{rw[a,e];cases g<;>first|rfl|(rename_i f;cases c<;>first|exact f.elim|rfl)}
theorem Xh (B:cN P Al F)(r:bV P Al F π v w){fr fr':zC}(L:cV P Al F π fr fr')(K:fr.mode= .run)(A:gZ (cV P Al F π) own own')(X C:Bool)(hq:tD P F fr:=by first|assumption|exact BY (λ_ h=>h))(hs:rJ Al fr:=by first|assumption|exact kM (by assumption)): Stepped P Al F π cs cs' v w (stepG P X (G fr (own++cs)) v) (stepG P C (G fr' (own'++cs')) w):=by have R:=r.ok;have E:=λx hx=>L.eval R x hx;have U:=λ{s s':Sem Next} (h:bY P Al F (NA Al) π s s')=>Rd (cs:=cs) (cs':=cs') B r L A h;have D:=λ{x W:zY} (h:bM Al π x W)=>L.finish h;let⟨fn,tmps,todo,defers,mode,kind,round⟩:=fr;let⟨f,q,p,g,N,e,qX⟩:=fr';let⟨h1,h2,V,h4,M,h6,h7,Z,Y,I,H⟩:=L;dsimp only at h1 h2 V h4 M h6 h7 Z Y I H K;subst h1;subst h4;subst Z;subst I;subst H;subst K;cases h7;have mk:∀(k:zI),(∀i∈k,mF P Al F i)->∀m O,UT Al π m O->cV P Al F π ⟨f,tmps,k,defers,m,e,aB⟩ ⟨f,q,k,g,O,e,aB⟩:= λk n m O K=>⟨rfl,h2,V,rfl,n,h6,K,rfl,Y,rfl,rfl⟩;show Stepped P Al F π cs cs' v w (stepG.exec P X aF ⟨f,tmps,p,defers,.run,e,aB⟩ (own++cs) aB v) (stepG.exec P C aF ⟨f,q,p,g,.run,e,aB⟩ (own'++cs') aB w);cases p with|nil=>exact Stepped.same r (mk [] M _ _ .returning) A|cons i k=>have n:∀j∈k,mF P Al F j:=ji;have hi:=M i EJ;have c1:∀{i:Item}{l:zI},mF P Al F i->(∀j∈l,mF P Al F j)->∀j∈i::l,mF P Al F j:=by{grind};have to:∀(y:zI),(∀i∈y,mF P Al F i)->Stepped P Al F π cs cs' v w (.go (G ⟨f,tmps,y,defers,.run,e,aB⟩ (own++cs)) v) (.go (G ⟨f,q,y,g,.run,e,aB⟩ (own'++cs')) w):= λy S=>Stepped.same r (mk y S _ _ .run) A;cases i with|code c=>{cases c with|ret=>exact Stepped.same r (mk _ M _ _ .returning) A|seq a b=>exact to _ (c1 hi.1 (c1 hi.2 n))|cond c a b=>{have T:=E c hi.1;unfold stepG.exec;dsimp only;generalize Frame.eval _ c=x at T⊢;generalize Frame.eval _ c=W at T⊢;cases T with|bool t=>exact to _ (c1 (by cases t;exact hi.2.2;exact hi.2.1) n)|_=>exact Stepped.ended}|block id b=>exact to _ (c1 hi (c1 trivial n))|loop b=>exact to _ (c1 hi (c1 hi n))|scope b=>exact to _ (c1 hi (c1 hi n))|exit id=>{unfold stepG.exec;dsimp only;cases he:exitTo id k with|none=>exact Stepped.ended|some y=>exact to y λj hj=>n j (zDz he j hj)}|goto l=>{unfold stepG.exec;dsimp only;cases he:gotoIn l k with|none=>exact Stepped.ended|some y=>exact to y (Ph n he)}|region id ops draw=>{cases draw with|false=>exact to _ (c1 hi n)|true=>have J:∀(u:zW)(c:zL)(t:zA)(d:List Deferred)(m:Bool),stepG.exec P m aF ⟨f,t,.code (.region id ops aF)::k,d,.run,e,aB⟩ c aB u= .go (G ⟨f,t,aN ops (Region.schedule (P.follows .mixedOrders) ops (Question.cut (.order f id) (u.tape u.drawn (.order f id))))::k,d,.run,e,aB⟩ c) {u with drawn:=u.drawn+1}:=λu c t d m=>rfl;rw[J,J];by_cases hl:F.upto v.drawn;{refine aI (aI ⟨π,_,_,_,_,_,_,rfl,rfl,⟨_,_,own,own',rfl,?_,mk _ ?_ _ _ .run,A⟩,⟨r.ok,r.blk,λk n=>by have:=r.tape (k+1) ji;exact ji,r.fresh,r.low,r.os,r.rows⟩,⟨λ_ _ x=>x,je _,je _,λ_ _ _=>rfl,ji,rfl,rfl,rfl,rfl,rfl,rfl,ji,ji,λ_ _ _=>rfl,ji⟩,j0⟩);{have e0:w.tape w.drawn=v.tape v.drawn:=r.tape 0 hl;rw[e0]};.exact c1 hi n};.obtain⟨u,hu⟩:=Mj.1 hl;let⟨Q,hu2⟩:=Classical.not_imp.1 hu;exact aI (aH ⟨_,own,_,_,rfl,u,Q,ji⟩)}|_=>first|exact hi.elim|exact to k n|exact Stepped.ended}|inLoop b=>exact to _ (c1 hi (c1 hi n))|inRegion ops l=>{cases l with|nil=>exact to k n|cons j rest=>have J:∀(u:zW)(c:zL)(t:zA)(d:List Deferred)(m:Bool),stepG.exec P m aF ⟨f,t,aN ops (j::rest)::k,d,.run,e,aB⟩ c aB u=if(((ops[j]?).map (Region.wanted · (yielded ops t))).getD aG)=aF then stepG.oper P aF ⟨f,t,aN ops (j::rest)::k,d,.run,e,aB⟩ c aB u else .go (G (Frame.finish ⟨f,t,aN ops (j::rest)::k,d,.run,e,aB⟩ undef) c) u:=λu c t d m=>rfl;rw[J,J];have ey:=funext (pU V ops);rw[ey];split;{rename_i hwt;cases z:ops[j]? with|none=>grind|some o=>have e2:∀(u:zW)(c:zL)(t:zA)(d:List Deferred),stepG.oper P aF ⟨f,t,aN ops (j::rest)::k,d,.run,e,aB⟩ c aB u=stepG.apply P aF ⟨f,t,aN ops (j::rest)::k,d,.run,e,aB⟩ c aB (execOp (Frame.eval ⟨f,t,aN ops (j::rest)::k,d,.run,e,aB⟩) o) u:=λu c t d=>by{unfold stepG.oper;simp only[Frame.oper?,z]};rw[e2,e2];exact U (JV B.met (hi o ji) (hq rfl _ _ _ _ _ rfl z) (hs rfl _ _ _ _ _ rfl z ji) E)};.exact Stepped.same r (D eK) A}|_=>first|exact hi.elim|exact to k n
def MC {t b}(h:bB Al π t b)(i):bM Al π (t.getD i undef) (b.getD i undef):=by obtain⟨c,e⟩|⟨a,f,c,e,d⟩:=h.get i;{simp only[Ez,c,e];exact eK};exact j1
def iV (fn){π} [ok:Ok P π] {t d}(h:bB Al π t d):bY P Al F (VR Al) π (results fn t) (results fn d):=by
 refine aZ (VsR Al) ?_ ?_
 .rw[Nc,Nc];have k:∀(l:List ResultVar){π:Rn} [Ok P π] {t d:zA},bB Al π t d->bY P Al F (λe (a b:zV)=>bB Al e (zAL a) (zAL b)) π
    (l.mapM λ| .tmp x=>pure (t.getD x undef)| .cell a ty=>do loadVar ty (<-asAddr (t.getD a undef)))
    (l.mapM λ| .tmp x=>pure (d.getD x undef)| .cell a ty=>do loadVar ty (<-asAddr (d.getD a undef))):=by
   intro l
   induction l with
   |nil=>grind[aS,bB.nil]
   |cons r l n=>
    intro π ok t d h;rw[List.mapM_cons,List.mapM_cons];refine aZ (VR Al) ?_ ?_
    .cases r with
     |tmp x=>exact aS (MC h x)
     |cell a ty=>refine aZ _ (JY (MC h a)) ?_;grind[FG]
    .intro e x q ok j s;refine aZ _ (n (h.mono j)) ?_;intro p l m ok o hl;refine aS ⟨by have:=hl.size;exact ji,λi a b y u=> ?_⟩;cases i with
     |zero=>grind[bM.mono]
     |succ i=>exact hl.at' i a b ji ji
  refine aZ _ (k (zAM fn.results) h) ?_;intro e l m ok j hl;exact aS hl
 .intro e a b ok j c;refine aS ?_;have g:=c.size;by_cases f:a.size=1
  .rw[dif_pos f,dif_pos (by rw[g,f])];exact c.at' 0 _ _ (by simp[f]) ji
  .rw[dif_neg f,dif_neg bm];exact .tuple c.size c.at'
def CE (K:bV P Al F π v w){fr fr' c c'}(u:cV P Al F π fr fr')(d:cV P Al F π c c')(M:gZ (cV P Al F π) own own')(A i){x q}(D:bM Al π x q): ∃f y,doReturn P A fr (c::(own++cs)) aB x v= .go (G f (own++cs)) v/\doReturn P i fr' (c'::(own'++cs')) aB q w= .go (G y (own'++cs')) w/\cV P Al F π f y:=by unfold doReturn;rw[u.kind];obtain h|h:=u.kinds;{rw[h];exact⟨_,_,rfl,rfl,d.finish D⟩};.rw[h];refine⟨_,_,rfl,rfl,?_⟩;have j:=d.mode;revert j;generalize n:c.mode=m;generalize e:c'.mode=B;intro j;cases j with|run=>exact d|returning=>exact d|panicking hl=>cases hl with|nil=>exact d| @cons a J l t h1 E=>let⟨O,Q,R⟩:=a;let⟨H,p,I⟩:=J;let⟨z,s,r⟩:=h1;dsimp only at z s r;subst s;subst r;cases p with|false=>exact d|true=>dsimp only;clear n e;have k:gZ (Lh Al π) (l.dropWhile (!·.goexit)) (t.dropWhile (!·.goexit)):=by{induction E with|nil=>exact .nil| @cons b N m B g o C=>simp only[List.dropWhile_cons];rw[g.goexit];split;{exact C};{exact .cons g o}};generalize l.dropWhile (!·.goexit)=L at k;generalize t.dropWhile (!·.goexit)=S at k;cases k with|nil=>exact d.LQ .returning|cons g o=>exact d.LQ (.panicking (.cons g o))
def zBl (B:cN P Al F)(y:bV P Al F π v w){fr fr':zC}(z:cV P Al F π fr fr')(H:gZ (cV P Al F π) own own'){d C:Deferred}(A:NH Al π d C): Stepped P Al F π cs cs' v w (callDeferred P fr (own++cs) aB d v) (callDeferred P fr' (own'++cs') aB C w):=by have G:=y.ok;have p:=(JR B.met A).runT v w #[] #[] y;cases A;rotate_left;have c:=z.mode;generalize j:fr.mode=m at c;generalize q:fr'.mode=R at c;unfold callDeferred;rw[j,q];cases c;rotate_left 2;exact Stepped.ended;unfold callDeferred;all_goals simp only[Md,Bool.and_false,Dj,↓reduceIte];obtain(⟨hl,Q,n,e,r⟩|⟨f,j⟩)|⟨o,g,w1,n,N,h1,s,M,L⟩:=p;{rw[e];obtain⟨D,rfl⟩|⟨u,rfl,hu⟩:=r<;>exact aH ⟨_,_,_,rfl⟩};{obtain⟨a,b,o,g,n,r1,l⟩|⟨x,g,n,r1⟩:=j<;>rw[r1]at f⊢;{cases l<;>first|exact aI (aH ⟨_,own,g,_,rfl,f⟩)|exact aI (aH ⟨_,fr::own,g,_,rfl,f⟩)};.exact aI (aH ⟨_,own,g,_,rfl,f⟩)};.have I:∀e∈seen P fr'.fn N,pP F o e:=λe J=>M e (vU J);have i:=H.imp λa b (h:cV P Al F π a b)=>h.mono s.sub;have k:=z.mono s.sub;obtain⟨a,b,r1,r2,l⟩|⟨x,O,r1,r2,E⟩:=L<;>rw[r1,r2]<;>simp only[JO];{cases l with|enter t K=>exact aI (aI ⟨o,_,g,_,_,w1,_,rfl,rfl,⟨_,_,fr::own,fr'::own',rfl,rfl,cV.enter B t K (aI rfl),.cons k i⟩,h1,s,j5⟩)|_=>exact aI (aI ⟨o,_,g,_,_,w1,_,rfl,rfl,⟨_,_,own,own',rfl,rfl,k,i⟩,h1,s,j5⟩)};.exact aI (aI ⟨o,_,g,_,_,w1,_,rfl,rfl,⟨_,_,own,own',rfl,rfl,k.raise (.cons ⟨E,rfl,rfl⟩ .nil),i⟩,h1,s,j5⟩)
def mS {fr:zC}(h:∀i∈fr.todo,mF P Al F i):fr.catches P=aG:=by unfold Frame.catches;cases P.funcs[fr.fn]? with|some fn=>rfl|none=>cases a:fr.todo with|nil=>rfl|cons i k=>cases i with|call d b r s=>exact False.elim (h (.call d b r s) ji)|_=>rfl
def zGf (B:cN P Al F)(y:bV P Al F π v w){fr fr'}(g:cV P Al F π fr fr')(U:fr.mode≠.run)(k:gZ (cV P Al F π) own own')(p:fr.defers≠[]\/own≠[])(H n):
  Stepped P Al F π cs cs' v w (unwind P H fr (own++cs) aB v) (unwind P n fr' (own'++cs') aB w):=by
 have T:=y.ok;have K:=g.defers;unfold unwind;generalize Z:fr.defers=l at K p;generalize Y:fr'.defers=l' at K;cases K with
 | @cons d d' ds O r q=>have J:cV P Al F π {fr with defers:=ds} {fr' with defers:=O}:=⟨g.fn,g.al,g.tmps,g.todo,g.items,q,g.mode,g.kind,g.kinds,g.round,g.qX⟩;have:=zBl (cs:=cs) (cs':=cs') B y J k r.rel;let⟨r,_⟩:=r;cases r<;>assumption
 |nil=>
  cases k with
  |nil=>grind
  | @cons c c' o j L k=>
   have i:=g.mode;generalize A:fr.mode=m at i U;generalize Q:fr'.mode=m' at i;cases i with
   |run=>grind
   |panicking hl=>dsimp only;rw[mS g.items,mS (by rw[g.todo];exact g.items)];exact Stepped.same y (L.raise hl) k
   |returning=>
    dsimp only;rw[g.fn];cases V:P.funcs[fr.fn]? with
    |none=>obtain⟨f,R,E,N,M⟩:=CE y g L k H n (MC g.tmps 0);dsimp only;rw[Fo,Fo,E,N];exact Stepped.same y M k
    |some fn=>
     dsimp only;obtain(⟨hl,v',s,e,C⟩|⟨z,A⟩)|⟨I,t,w1,s,d,r,q,h3,h4⟩:=(iV fn g.tmps).runT v w #[] #[] y
     .rw[e];obtain⟨S,rfl⟩|⟨u,rfl,hu⟩:=C
      .exact U8
      .exact U8
     .obtain⟨a,b,I,t,s,r1,D⟩|⟨x,t,s,r1⟩:=A
      .rw[r1]at z⊢;obtain⟨f,E⟩:∃f,doReturn P H fr (c::(o++cs)) aB a t= .go (G f (o++cs)) t:=by
         unfold doReturn;obtain h|h:=g.kinds<;>rw[h]<;>exact⟨_,rfl⟩
       simp only[Fo,E];exact aI (aH ⟨f,o,t,_,rfl,z⟩)
      .rw[r1];exact U8
     .have W:∀e∈seen P fr.fn d,pP F I e:=λe X=>h3 e (vU X);obtain⟨a,b,r1,r2,D⟩|⟨x,x',r1,r2,hx⟩:=h4
      .rw[r1,r2];simp only[JO,Fo];obtain⟨f,R,E,N,M⟩:=CE r (g.mono q.sub) (L.mono q.sub) (k.imp λa b (h:cV P Al F π a b)=>h.mono q.sub) H n D;rw[E,N];exact aI (aI ⟨I,_,t,_,_,w1,_,rfl,rfl,⟨f,R,o,j,rfl,rfl,M,k.imp λa b (h:cV P Al F π a b)=>h.mono q.sub⟩,r,q,j5⟩)
      .rw[r1];exact U8
def yT (B:cN P Al F)(j:bV P Al F π v w){fr fr':zC}(i:cV P Al F π fr fr')(k:gZ (cV P Al F π) own own')(d:fr.mode= .run\/fr.defers≠[]\/own≠[])(e b:Bool)(p:tD P F fr:=by first|assumption|exact BY (λ_ h=>h))(hs:rJ Al fr:=by first|assumption|exact kM (by assumption)): Stepped P Al F π cs cs' v w (stepG P e (G fr (own++cs)) v) (stepG P b (G fr' (own'++cs')) w):=by by_cases g:fr.mode= .run;{grind[Xh]};.have hs:=d.resolve_left g;have:=zGf (cs:=cs) (cs':=cs') B j i g k hs e b;have a:=i.mode;generalize f:fr.mode=m at a g;generalize c:fr'.mode=o at a;cases a with|run=>grind|returning=>have n:stepG P e (G fr (own++cs)) v=unwind P e fr (own++cs) aB v:=by{simp only[stepG,G,f]};have l:stepG P b (G fr' (own'++cs')) w=unwind P b fr' (own'++cs') aB w:=by{simp only[stepG,G,c]};grind|panicking hl=>have n:stepG P e (G fr (own++cs)) v=unwind P e fr (own++cs) aB v:=by{simp only[stepG,G,f]};have l:stepG P b (G fr' (own'++cs')) w=unwind P b fr' (own'++cs') aB w:=by{simp only[stepG,G,c]};exact ji
end
end Go.Ren
namespace Go
def World.re (w:zW)(a:zT)(d:Nat):zW:={w with tape:=a,drawn:=d}
end Go
namespace Go.Ren
open Go.Conc (G)
def cO (D:zP):Rn:=λb a=>b=a/\D b
def K0:Kp:=⟨λ_=>False,aB,False⟩
def ai (n:Nat):Kp:=⟨λ_=>False,aA n,False⟩
section
variable {P:zZ}{Al:zF}
def MY {R:zY->zY->Prop}{a b:zA}(hs:b.size=a.size)(h:∀(i:Nat)(v v'),a[i]? =aA v->b[i]? =aA v'->v=v'):a=b:=by apply GI;exact ji
def IQ {ρ}(c:∀b d,ρ b d->b=d){a a'}(h:bW ρ a a'):a=a':=by let⟨e,g,f⟩:=h;have:=c _ _ e;cases a;cases a';exact j1
theorem RY (o:¬Al 1000000/\∀k,¬Al (1000002+k)){ρ}(a:∀b f,ρ b f->b=f){x e}(h:bM Al ρ x e):x=e:=by induction h with|pointer y=>{cases y with|none=>rfl|some y=>rw[IQ a y]}|slice y n c=>{cases y with|none=>rfl|some y=>rw[IQ a y]}|func j d g _ _ _ i3 i4=>rw[MY (R:=λ_ _=>True) d i3,MY (R:=λ_ _=>True) g i4]|iface t _ i=>rw[i]|agg d _ i=>rw[MY (R:=λ_ _=>True) d i]|tuple d _ i=>rw[MY (R:=λ_ _=>True) d i]|junk m _=>grind|void l _=>grind|_=>rfl
theorem JB (j:¬Al 1000000/\∀k,¬Al (1000002+k)){ρ}(a:∀b e,ρ b e->b=e){x d}(h:bB Al ρ x d):x=d:=MY (R:=λ_ _=>True) h.size λi v f g c=>RY j a (h.at' i v f g c)
def BG {α:Type}{R:α->α->Prop}(h:∀a b,R a b->a=b):∀{l c:List α},gZ R l c->l=c
 |_,_,.nil=>rfl|_,_,.cons x y=>by rw[h _ _ x,BG h y]
def IG (o:¬Al 1000000/\∀k,¬Al (1000002+k)){F ρ}(g:∀b l,ρ b l->b=l){f f'}(h:cV P Al F ρ f f'):f=f':=by let⟨v,E,u,s,D,r,q,p,C,j,i⟩:=h;let⟨fn,tmps,todo,defers,mode,kind,round⟩:=f;let⟨w,c,t,d,m,e,qX⟩:=f';dsimp only at*;subst v;subst s;subst p;subst j;subst i;have I:=JB o g u;have H:=BG (λa b (h:GH Al ρ a b)=>by let⟨h,_⟩:=h;cases h with|fn A B n=>grind[JB]|nil n=>grind) r;have G:mode=m:=by{cases q with|run=>rfl|returning=>rfl|panicking hl=>congr 1;exact BG (λa b (h:Lh Al ρ a b)=>by let⟨L,M,N⟩:=a;let⟨bv,J,K⟩:=b;let⟨z,y,x⟩:=h;grind[RY]) hl};exact ji
theorem go_inj {a b:zC}{l k:zL}{u w:zW}{es fs:zE}(h:GStep.go (Go.Conc.G a l) u es= .go (Go.Conc.G b k) w fs):a=b/\l=k/\u=w:=by injection h with e h _;exact⟨congrArg Goroutine.frame e,congrArg Goroutine.callers e,h⟩
structure Closed (P:zZ)(Al:zF)(D:zP)(fr:zC)(own:zL)(v:zW):Prop where
 frame:cV P Al K0 (cO D) fr fr
 own:gZ (cV P Al K0 (cO D)) own own
 world:bV P Al K0 (cO D) v v
 nj:¬Al 1000000/\∀k,¬Al (1000002+k)
def YL {o:Oper}{n:Nat}(h:UQ P Al K0 o):UQ P Al (ai n) o:=by
 let⟨e,d⟩:=h;refine⟨e,?_⟩;revert d;cases o.op<;>intro d<;>first|exact d|skip
 cases d with
 |int a b=>exact .int a b
 |tob a b c _=>exact .tob a b c j5
 |ofb a b c=>exact .ofb a b c
 |up h=>exact .up h
def xZ {n}:∀{c},mY P Al K0 c->mY P Al (ai n) c:=by intro c;induction c with|region id ops d=>intro h o j;exact YL (h o j)|seq a b e i=>intro h;exact⟨e h.1,i h.2⟩|cond c a b e i=>intro h;exact⟨h.1,e h.2.1,i h.2.2⟩|block id b g=>assumption|loop b g=>assumption|scope b g=>assumption|rangeFunc f p a b=>intro h;exact h.elim|_=>intro _;trivial
def Ad {n:Nat}{π:Rn}{f f':zC}(h:cV P Al K0 π f f'):cV P Al (ai n) π f f':= ⟨h.fn,h.al,h.tmps,h.todo,λi hi=>(by have a:=(h.items i hi);cases i with|code c=>exact xZ a|inLoop c=>exact xZ a|inScope c=>exact xZ a|inBlock _=>trivial|inRegion ops l=>exactλo b=>YL (a o b)|_=>exact a.elim),h.defers,h.mode,h.kind,h.kinds,h.round,h.qX⟩
def gU {F D v}(h:bV P Al K0 (cO D) v v)(hF:∀b,¬F b)(e a)(d i)(j:∀k,F.upto (d+k)->a (i+k)=e (d+k)): bV P Al F (cO D) (v.re e d) (v.re a i):=by refine⟨h.ok,λb p l=> ?_,j,ji,h.low,rfl,ji⟩;obtain⟨c,c',ty,fr,f,o,n,m,g4,g5⟩|g|g:=h.blk b p l;{left;exact⟨c,c',ty,fr,f,o,n,m,ji,λ_=>g5.1 (λx=>x),ji⟩};{exact aI (aH g)};.exact aI (aI g)
end
section
variable {P:zZ}{Al:zF}{D:zP}{fr:zC}{own cs:zL}{v:zW}
def xy {ρ}(c:∀b a,ρ b a->b=a):ρ=cO (λb=>ρ b b):=by funext b a;apply propext;constructor;{intro h;have:=c b a h;subst this;exact⟨rfl,h⟩};.rintro⟨rfl,h⟩;exact h
def Ux (j:¬Al 1000000/\∀k,¬Al (1000002+k)){F ρ}(a:∀b f,ρ b f->b=f)(hF:∀b,¬F b){v w}(h:bV P Al F ρ v w){b}(i:ρ b b):v.heap[b]? =w.heap[b]? :=by obtain⟨c,c',ty,fr,m,d,g,e,g4,g5⟩|⟨_,o,d,g,_⟩|⟨y,n,d,g,e⟩:=h.blk b b i;{rw[d,g,JB j a e,g5.1 (hF b)]};{rw[d,g]};.rw[d,g];cases e with|view h1 u hu=>rw[IQ a h1]|number h1 l=>rw[IQ a h1]
def iC (hB:∀K:Kp,(∀b,¬K b)->cN P Al K)(j:Closed P Al D fr own v)(m:fr.mode= .run\/fr.defers≠[]\/own≠[])(C)(w)(d): (∃o u N,stepG P C (G fr (own++cs)) (v.re w d)= .ended o u N)\/ ∃l e c N D1,stepG P C (G fr (own++cs)) (v.re w d)= .go (G l (e++cs)) c N/\Closed P Al D1 l e c/\d<=c.drawn/\c.tape=w/\(∀b,D b->D1 b)/\ ∀(i)(s)(t)(y),(∀k,d+k<c.drawn->i (s+k)=w (d+k))-> ∃M,stepG P y (G fr (own++t)) (v.re i s)= .go (G l (e++t)) (c.re i (s+(c.drawn-d))) M:=by have J:∀b,¬K0 b:=λb h=>h;have hw:=gU j.world J w w d d (λ_ _=>rfl);obtain h|⟨_,_,_,_,_,n,B,_⟩|⟨Q,g1,c,N,g1',w1,M,O,e2,hg,U,hm,_⟩:=yT (cs:=cs) (cs':=cs) (hB K0 J) hw j.frame j.own m C C (hs:=kM j.nj.2);{exact aH h};{cases B};.right;have hid:∀b q,cO D b q->b=q:=λb q h=>h.1;let⟨LR,z⟩:=hm.same rfl hid;let⟨l,aJ3,e,S,q1,q2,q3,q4⟩:=hg;subst q1;subst q2;have e3:=IG j.nj z q3;have e4:=BG (λa b (h:cV P Al K0 Q a b)=>IG j.nj z h) q4;subst e3;subst e4;rw[O]at e2;cases e2;have hD:Q=cO (λb=>Q b b):=xy z;let⟨k,k1,k2⟩:=hm.drawn;have k1:c.drawn=d+k:=k1;refine⟨l,e,c,N,λb=>Q b b,O,⟨by rw[<-hD];exact q3,by rw[<-hD];exact q4,by rw[<-hD];exact U,j.nj⟩,bm,hm.Iw,λb x=>hm.sub b b ⟨rfl,x⟩,?_⟩;intro i s t y Z;have A:∀b,¬(ai c.drawn) b:=λb h=>h;have V:bV P Al (ai c.drawn) (cO D) (v.re w d) (v.re i s):=gU j.world A w i d s (λk hk=>Z k (hk c.drawn rfl));obtain⟨o,u,uo,h⟩|⟨_,_,v2,_,h,n,B,hlt⟩|⟨σ,g2,v2,uo,g2',w2,L,f1,f2,Y,T,f,_⟩:=yT (cs:=cs) (cs':=t) (hB (ai c.drawn) A) V (Ad j.frame) (j.own.imp λ_ _ h=>Ad h) m C y (hs:=kM j.nj.2);{rw[O]at h;exact A4};{rw[O]at h;have hv:c=v2:=by{injection h};subst hv;have W:c.drawn=n:=by{injection B};subst W;exact absurd hlt (Io _)};.rw[O]at f1;cases f1;let⟨I,r⟩:=f.same rfl hid;let⟨um,aDW,nS,R,r1,r2,r3,r4⟩:=Y;subst r2;have e5:=IG j.nj r r3;have e6:=BG (λa b (h:cV P Al (ai c.drawn) σ a b)=>IG j.nj r h) r4;subst e5;subst e6;have e7:l=um:=congrArg (λg:zH=>g.frame) r1;have e8:e++cs=nS++cs:=congrArg (λg:zH=>g.callers) r1;have e9:e=nS:=Lo e8;subst e7;subst e9;let⟨k',F,E⟩:=f.drawn;have F:c.drawn=d+k':=F;have E:w2.drawn=s+k':=E;have p:w2.heap=c.heap:=by{apply GI;intro b;by_cases x:∃q,σ b q;{let⟨q,x⟩:=x;have:=r b q x;subst this;exact(Ux j.nj r A T x).symm};.have B:∀q,¬cO D b q:=λq h=>x ⟨q,f.sub _ _ h⟩;obtain hlt|X:=Gn b v.heap.size;{rw[f.still b hlt (λb0 h0=>absurd h0 (by rintro⟨rfl,hx⟩;exact B b0 ⟨rfl,hx⟩)),f.JA b hlt B];rfl};.obtain h1|h1:=Gn b c.heap.size;{exact absurd (f.full b X h1) x};.rw[JZ (by rw[<-I];exact h1),JZ h1]};have H:w2=c.re i (s+(c.drawn-d)):=by{have t1:w2.tape=i:=f.tape;have t2:w2.os=c.os:=f.os.trans f.vos.symm;have t3:w2.output=c.output:=f.out.trans f.au.symm;have t4:w2.drawn=s+(c.drawn-d):=bm;let⟨x1,x2,x3,x4,x5⟩:=w2;dsimp only at t1 t2 t3 t4 p;subst t1;subst t2;subst t3;subst t4;subst p;rfl};rw[H]at f2;exact⟨L,f2⟩
end
inductive Lone (P:zZ)(cs:zL)(S:zS):zS
 |stop {fr:zC} {own:zL} {v:zW} (h:S fr own v):Lone P cs S fr own v
 |step {fr fr1:zC} {own own1:zL} {v v1:zW} {es:zE} (jy:fr.mode= .run\/fr.defers≠[]\/own≠[]) (hs:stepG P aF (G fr (own++cs)) v= .go (G fr1 (own1++cs)) v1 es) (h:Lone P cs S fr1 own1 v1):Lone P cs S fr own v
inductive Ends (P:zZ)(Al:zF)(S:zS):zS
 |stop {fr:zC} {own:zL} {v:zW} (h:S fr own v):Ends P Al S fr own v
 |step {fr:zC} {own:zL} {v:zW} (jy:fr.mode= .run\/fr.defers≠[]\/own≠[]) (nx:(zT)->Nat->zC×zL×zW)
   (h1:∀τ d,∃D,Closed P Al D (nx τ d).1 (nx τ d).2.1 (nx τ d).2.2) (h2:∀τ d cs mn,∃es,stepG P mn (G fr (own++cs)) (v.re τ d)= .go (G (nx τ d).1 ((nx τ d).2.1++cs)) (nx τ d).2.2 es)
   (h3:∀τ d,Ends P Al S (nx τ d).1 (nx τ d).2.1 (nx τ d).2.2):Ends P Al S fr own v
section
variable {P:zZ}{Al:zF}{cs:zL}{S:zS}
def Ends.of {fr own v}(a:fr.mode= .run\/fr.defers≠[]\/own≠[]) (h:∀b d,∃fr1 own1 v1,(∃D,Closed P Al D fr1 own1 v1)/\(∀cs m,∃es,stepG P m (G fr (own++cs)) (v.re b d)= .go (G fr1 (own1++cs)) v1 es)/\Ends P Al S fr1 own1 v1):Ends P Al S fr own v:=by have c:∀p:(zT)×Nat,∃y:zC×zL×zW,(∃D,Closed P Al D y.1 y.2.1 y.2.2)/\(∀cs m,∃es,stepG P m (G fr (own++cs)) (v.re p.1 p.2)= .go (G y.1 (y.2.1++cs)) y.2.2 es)/\Ends P Al S y.1 y.2.1 y.2.2:=λp=>let⟨fr1,own1,v1,hh⟩:=h p.1 p.2;⟨(fr1,own1,v1),hh⟩;exact .step a (λb d=>DJ (c (b,d))) ji (λb d=>(Dl (c (b,d))).2.1) ji
def Lone.shift (E:∀K:Kp,(∀b,¬K b)->cN P Al K)(C:∀fr own v f d,S fr own v->S fr own (v.re f d)): ∀{fr own u},Lone P cs S fr own u->∀(v)(D)(f)(d)(a)(j),u=v.re f d->Closed P Al D fr own v->(∀k,a (j+k)=f (d+k))->Lone P cs S fr own (v.re a j):=by intro fr own u h;induction h with|stop h=>intro v D f d a j e z p;subst e;exact .stop (by have:=C _ _ _ a j h;exact this)| @step fr t own l u u1 es c y h A=>intro v D f d a j e z p;subst e;obtain⟨o,u,w,i⟩|⟨s,nS,v2,w,D2,i,r,B,m,_,n⟩:=iC E z c aF f d;{rw[y]at i;cases i};{rw[y]at i;have G:t=s:=by{injection i with x;exact R9};have a2:l=nS:=by{injection i with x;exact N4};have a3:u1=v2:=by{injection i};subst G;subst a2;subst a3;let⟨F,q⟩:=n a j cs aF (λk _=>p k);refine .step c q ?_;refine A u1 D2 f u1.drawn a (j+(u1.drawn-d)) (by cases u1;simp only[World.re]at m⊢;rw[m]) r (λk=> ?_);have:=p (u1.drawn-d+k);grind}
structure Bad (P:zZ)(Al:zF)(cs:zL)(S:zS)(x:zC×zL×zW):Prop where
 closed:∃D,Closed P Al D x.1 x.2.1 x.2.2
 lone:∀τ d,Lone P cs S x.1 x.2.1 (x.2.2.re τ d)
 not:¬Ends P Al S x.1 x.2.1 x.2.2
structure Zf (P:zZ)(cs:zL)(x y:zC×zL×zW)(τ:zT)(d c:Nat):Prop where
 stay:x.1.mode= .run\/x.1.defers≠[]\/x.2.1≠[]
 step:∀(τ':zT)(d':Nat),(∀k,k<c->τ' (d'+k)=τ (d+k))->∃es,stepG P aF (G x.1 (x.2.1++cs)) (x.2.2.re τ' d')= .go (G y.1 (y.2.1++cs)) (y.2.2.re τ' (d'+c)) es
def Yn (T:∀K:Kp,(∀b,¬K b)->cN P Al K)(R:∀fr own v a d,S fr own v->S fr own (v.re a d)){x}(X:Bad P Al cs S x):∃y a d c,Bad P Al cs S y/\Zf P cs x y a d c:=by let⟨fr,own,v⟩:=x;let⟨⟨D,hc⟩,hl,Q⟩:=X;dsimp only at*;have F:¬S fr own v:=λh=>Q (.stop h);have O:∀a d,¬S fr own (v.re a d):=λa d h=>F (by have:=R _ _ _ v.tape v.drawn h;exact this);have f:fr.mode= .run\/fr.defers≠[]\/own≠[]:=by{cases hl v.tape v.drawn<;>grind};have:∃a d,∀m e s,(∃D,Closed P Al D m e s)->(∀cs W,∃es,stepG P W (G fr (own++cs)) (v.re a d)= .go (G m (e++cs)) s es)->¬Ends P Al S m e s:=by{apply Dv;intro h;apply Q;refine .of f λa d=> ?_;apply Dv;intro B;apply h;refine⟨a,d,λm e s L Y Z=>B ⟨m,e,s,L,Y,Z⟩⟩};let⟨a,d,H⟩:=this;obtain⟨o,u,M,B⟩|⟨q,nS,v2,M,D2,B,p,hd2,z,_,l⟩:=iC T hc f aF a d;{cases hl a d with|stop h=>grind|step _ n _=>rw[B]at n;cases n};.have E:v2.re a v2.drawn=v2:=by{cases v2;simp only[World.re]at z⊢;rw[z]};have I:=H q nS v2 ⟨D2,p⟩ (λN C=>by let⟨A,h⟩:=l a d N C (λ_ _=>rfl);exact ji);refine⟨(q,nS,v2),a,d,v2.drawn-d,⟨⟨D2,p⟩,λr U=> ?_,I⟩,⟨f,λj d' ht=> ?_⟩⟩;{let j:zT:=λi=>if i<v2.drawn then a i else r (i-v2.drawn+U);let⟨A,h⟩:=l j d cs aF ji;have hlt:=hl j d;cases hlt with|stop h=>grind| @step _ xF _ t _ v3 es3 _ n J=>rw[h]at n;have a1:q=xF:=by{injection n with x;exact R9};have a2:nS=t:=by{injection n with x;exact N4};have a3:v2.re j (d+(v2.drawn-d))=v3:=by{injection n};subst a1;subst a2;refine Lone.shift T R J v2 D2 j (d+(v2.drawn-d)) r U a3.symm p (λk=> ?_);exact ji};.obtain⟨A,h⟩:=l j d' cs aF ji;exact ji
def BZ (Q:∀K:Kp,(∀b,¬K b)->cN P Al K)(H:∀fr own v q d,S fr own v->S fr own (v.re q d)){fr own v D}(O:Closed P Al D fr own v) (h:∀q d,Lone P cs S fr own (v.re q d)):Ends P Al S fr own v:=by apply Dv;intro I;let T:={x:zC×zL×zW//Bad P Al cs S x};have t:∀x:T,∃(y:T)(q:zT)(d c:Nat),Zf P cs x.1 y.1 q d c:=λx=>by{let⟨y,q,d,c,o,R⟩:=Yn Q H x.2;exact⟨⟨y,o⟩,q,d,c,R⟩};let f:T->T:=λx=>DJ (t x);let w:T->zT:=λx=>DJ (Dl (t x));let st:T->Nat:=λx=>DJ (Dl (Dl (t x)));let s:T->Nat:=λx=>DJ (Dl (Dl (Dl (t x))));have M:∀x:T,Zf P cs x.1 (f x).1 (w x) (st x) (s x):=by{grind};let seq:Nat->T:=λn=>aMh ⟨(fr,own,v),⟨⟨D,O⟩,h,I⟩⟩ (λ_ x=>f x) n;let j:Nat->Nat:=λn=>aMh 0 (λm k=>k+s (seq m)) n;have N:∀n,j (n+1)=j n+s (seq n):=λn=>rfl;have l:∀m n,m<=n->j m<=j n:=by{intro m n J;induction n with|zero=>grind|succ n F=>obtain o|o:=Gn m (n+1);{grind};{have:m=n+1:=bm;simp_all}};let pQ:zT:=λi=>by{classical exact if p:∃n,j n<=i/\i<j (n+1)then w (seq (DJ p)) (st (seq (DJ p))+(i-j (DJ p)))elseλ_=>0};have G:∀n k,k<s (seq n)->pQ (j n+k)=w (seq n) (st (seq n)+k):=by{intro n k W;have p:∃m,j m<=j n+k/\j n+k<j (m+1):=⟨n,bm,ji⟩;have L:=Dl p;have e:DJ p=n:=by{generalize DJ p=m at L;obtain o|o|o:=Nat.lt_trichotomy m n;{have:=l (m+1) n o;omega};{exact o};{have:=l (n+1) m o;grind}};simp only[pQ];rw[dif_pos p,e];exact j1};have never:∀{a b u},Lone P cs S a b u->∀n,a=(seq n).1.1->b=(seq n).1.2.1->u=(seq n).1.2.2.re pQ (j n)->False:=by{intro a b u hl;induction hl with|stop r=>intro n C B A;subst C;subst B;subst A;exact(seq n).2.not (.stop (by have:=H _ _ _ (seq n).1.2.2.tape (seq n).1.2.2.drawn r;exact this))| @step a E b V u u1 es _ r _ F=>intro n C B A;subst C;subst B;subst A;let⟨U,z⟩:=(M (seq n)).step pQ (j n) j1;rw[z]at r;have E:(f (seq n)).1.1=E:=by{injection r with x;exact R9};have a2:(f (seq n)).1.2.1=V:=by{injection r with x;exact N4};have a3:(f (seq n)).1.2.2.re pQ (j n+s (seq n))=u1:=by{injection r};exact F (n+1) E.symm a2.symm a3.symm};exact never (h pQ 0) 0 rfl rfl rfl
end
section
variable {P:zZ}{Al:zF}
theorem iS (v:zW):v.re v.tape v.drawn=v:=rfl
def jS (P:zZ)(R:zR)(fr:zC)(own:zL)(v:zW):Prop:=own=[]/\∃x,(∀a d,fr.leaving P (v.re a d) (aM x))/\∀a d,R x (v.re a d)
def jS.re {R:zR}{fr:zC}{own:zL}{v:zW}(c:zT)(d:Nat)(h:jS P R fr own v):jS P R fr own (v.re c d):= ⟨h.1,let⟨x,h1,e⟩:=h.2;⟨x,λa b=>h1 a b,λa b=>e a b⟩⟩
def zBu (fn){D fr own v}(q:Closed P Al D fr own v){x}(h:(results fn fr.tmps).run P v= .ok x v)(l)(d): (results fn fr.tmps).run P (v.re l d)= .ok x (v.re l d):=by have m:∀b,¬(ai v.drawn) b:=λb h=>h;have z:bV P Al (ai v.drawn) (cO D) v (v.re l d):=by{have:=gU q.world m v.tape l v.drawn d (λk A=>absurd (A v.drawn rfl) bm);exact this};have G:=z.ok;have g:((results fn fr.tmps).runT P v #[]).1= .ok x v:=by{rw[Sem.runT_fst];exact h};obtain(⟨hl,S,w,e,_⟩|⟨⟨n,t,hlt⟩,_⟩)|⟨B,v1,w1,w,V,h1,j,U,H⟩:=(iV (P:=P) (Al:=Al) (F:=ai v.drawn) fn q.frame.tmps).runT v (v.re l d) #[] #[] z;{rw[e]at g;cases g};{cases t;have:cq ((results fn fr.tmps).runT P v #[])=v:=by{generalize(results fn fr.tmps).runT P v #[]=r at g;let⟨r1,r2⟩:=r;dsimp only at g;subst g;rfl};rw[this]at hlt;exact absurd hlt (Io _)};.obtain⟨a,b,r1,r2,u⟩|⟨y,L,r1,r2,T⟩:=H;{rw[r1]at g;cases g;have hid:∀b f,cO D b f->b=f:=λb f h=>h.1;let⟨s,i⟩:=j.same rfl hid;have J:=RY q.nj i u;subst J;have E:(results fn fr.tmps).run P (v.re l d)= .ok x w1:=by{rw[<-Sem.runT_fst P _ _ #[],r2]};rw[E];let⟨k,k1,k2⟩:=j.drawn;have A:k=0:=by{omega};have c:w1.heap=v.heap:=by{apply GI;intro b;by_cases p:∃f,B b f;{let⟨f,p⟩:=p;have:=i b f p;subst this;exact(Ux q.nj i m h1 p).symm};.have t:∀f,¬cO D b f:=λf h=>p ⟨f,j.sub _ _ h⟩;obtain hlt|o:=Gn b v.heap.size;{rw[j.still b hlt (λK I=>absurd I (by rintro⟨rfl,C⟩;exact t K ⟨rfl,C⟩))];rfl};.rw[JZ (by rw[<-s];exact o),JZ o]};congr 1;have t1:=j.tape;have t2:=j.os;have t3:=j.out;have t4:w1.drawn=d:=by{have:w1.drawn=d+k:=k2;exact bm};let⟨R,Q,O,N,M⟩:=w1;dsimp only at t1 t2 t3 t4 c;subst t1;subst t2;subst t3;subst t4;subst c;rfl};.rw[r1]at g;cases g
def bK:zC:={fn:=0,tmps:= #[],todo:=[.code (.refuse "")],defers:=[⟨.nil,#[]⟩],mode:= .run,kind:= .normal}
def yS (u):∃o w,step P (lone bK [] u)= .ended o w:=⟨_,_,step_lone_ended rfl⟩
def xM (l)(u):∃o w,step P (lone (bK.raise l) [] u)= .ended o w:=⟨_,_,step_lone_ended rfl⟩
def qB (N:∀K:Kp,(∀b,¬K b)->cN P Al K){S fr' w'}(M:∀D,Closed P Al D fr' [] w'->S fr' [] w'): ∀(n){fr own u D},Closed P Al D fr own u->runN P n (lone fr (own++[bK]) u)= .next (lone fr' [bK] w')->Lone P [bK] S fr own u:=by intro n;induction n with|zero=>intro fr own u D v h;have h:=h;have x:lone fr (own++[bK]) u=lone fr' [bK] w':=by{injection h};have U:=congrArg Machine.world x;have k:({frame:=fr,callers:=own++[bK],status:= .running,dying:=aB}:zH)={frame:=fr',callers:=[bK],status:= .running,dying:=aB}:=by{have:=congrArg Machine.gs x;simpa [lone]using this};have T:fr=fr':=by{grind};have R:=congrArg Goroutine.callers k;have Q:own=[]:=by{have:=congrArg zAH R;simp at this;exact this};subst U;subst T;subst Q;exact .stop (M D v)|succ n V=>intro fr own u D v h;have q:∀m1,step P (lone fr (own++[bK]) u)= .next m1->runN P n m1= .next (lone fr' [bK] w'):=λm1 e=>by{simpa only[runN,e]using h};have i:∀o w1,step P (lone fr (own++[bK]) u)≠.ended o w1:=λo w1 e=>by{simp only[runN,e]at h;cases h};have dead:∀(f:zC)(w1:zW),(∃o w,step P (lone f [] w1)= .ended o w)->runN P n (lone f [] w1)≠.next (lone fr' [bK] w'):=by{rintro f w1 ⟨o,w2,he⟩ s;cases n with|zero=>have s:=s;have x:lone f [] w1=lone fr' [bK] w':=by{injection s};have:=congrArg Machine.gs x;have k:({frame:=f,callers:=[],status:= .running,dying:=aB}:zH)={frame:=fr',callers:=[bK],status:= .running,dying:=aB}:=by{simpa [lone]using this};have:=congrArg Goroutine.callers k;cases this|succ n=>simp only[runN,he]at s;cases s};by_cases a:fr.mode= .run\/fr.defers≠[]\/own≠[];{obtain⟨o,w1,j,p⟩|⟨O,nS,v2,d,D2,p,L,J,F,_,E⟩:=iC N v a aF u.tape u.drawn;{rw[iS]at p;exact absurd (step_lone_ended F0) (i o w1)};.rw[iS]at p;have C:=step_lone_go (cs':=nS++[bK]) (w':=v2) F0;exact .step a p ji};.exfalso;have I:fr.mode≠.run:=by{grind};have m:fr.defers=[]:=Dv λe=>a (aI (aH e));have H:own=[]:=Dv λe=>a (aI (aI e));subst H;have z:=v.frame.kinds;have t:=mS v.frame.items;have ret:∀(y:zY)(w1:zW),doReturn P aF fr [bK] aB y w1= .go (G bK []) w1:=λy w1=>by{unfold doReturn;obtain h|h:=z<;>rw[h]<;>rfl};have goes:∀(f:zC)(w1:zW)(j:zE),stepG P aF (G fr ([]++[bK])) u= .go (G f []) w1 j->(∃o w,step P (lone f [] w1)= .ended o w)->False:=λf w1 j k m=>by{have C:=step_lone_go (P:=P) (fr:=fr) (cs:=[]++[bK]) (w:=u) (fr':=f) (cs':=[]) (w':=w1) F6;exact dead f w1 m (q _ C)};have ended:∀(o:Outcome)(w1:zW)(j:zE),stepG P aF (G fr ([]++[bK])) u= .ended o w1 j->False:=λo w1 j k=>i o w1 (step_lone_ended F6);cases c:fr.mode with|run=>exact I c|panicking chain=>have e:stepG P aF (G fr ([]++[bK])) u= .go (G (bK.raise chain) []) u:=by{simp only[stepG,G,c,unwind,m,t,Gs,Dj,Dh]};exact goes _ _ _ e (xM chain u)|returning=>have A:stepG P aF (G fr ([]++[bK])) u=unwind P aF fr [bK] aB u:=by{simp only[stepG,G,c,Gs]};cases l:P.funcs[fr.fn]? with|none=>have e:stepG P aF (G fr ([]++[bK])) u= .go (G bK []) u:=by{rw[A];simp only[unwind,m,c,l,ret]};exact goes _ _ _ e (yS u)|some fn=>cases g:(results fn fr.tmps).runT P u #[]with|mk r j=>cases r with|ok y w1=>have e:stepG P aF (G fr ([]++[bK])) u= .go (G bK []) w1 (seen P fr.fn j++ #[]):=by{rw[A];unfold unwind;rw[m];dsimp only;rw[c];dsimp only;rw[l];dsimp only;rw[g];dsimp only;rw[ret];rfl};exact goes _ _ _ e (yS w1)|halt hl w1=>have e:∃o w2 d,stepG P aF (G fr ([]++[bK])) u= .ended o w2 d:=by{rw[A];unfold unwind;rw[m];dsimp only;rw[c];dsimp only;rw[l];dsimp only;rw[g];dsimp only;cases hl<;>exact⟨_,_,_,rfl⟩};let⟨o,w2,d,e⟩:=e;exact ended o w2 d e
def jS.of {R}(j:∀x u a d,R x u->R x (u.re a d)){fr u x}(h:fr.leaving P u (aM x))(g:R x u){D}(i:Closed P Al D fr [] u):jS P R fr [] u:=by refine⟨rfl,x,λa d=> ?_,λa d=>j x u a d g⟩;let⟨f,e,c,fn,b,q⟩:=h;exact⟨f,e,c,fn,b,zBu fn i q a d⟩
def AtEnd (P:zZ)(R:zR)(E:List PanicEntry->zW->Prop)(fr:zC)(own:zL)(v:zW):Prop:=jS P R fr own v\/(own=[]/\fr.defers=[]/\∃chain,fr.mode= .panicking chain/\∀a d,E chain (v.re a d))
def AtEnd.re {R:zR}{E:List PanicEntry->zW->Prop}{fr:zC}{own:zL}{v:zW}(b:zT)(d:Nat)(h:AtEnd P R E fr own v):AtEnd P R E fr own (v.re b d):=h.imp (·.re b d) λ⟨i,g,c,f,e⟩=>⟨i,g,c,f,λa j=>e a j⟩
def aMm (r:¬Al 1000000/\∀k,¬Al (1000002+k))(o:∀K:Kp,(∀b,¬K b)->cN P Al K){f}(s:Al f){args w D}(t:bB Al (cO D) args args)(q:bV P Al K0 (cO D) w w) {R E} (y:∀x u a d,R x u->R x (u.re a d)) (z:∀x u a d,E x u->E x (u.re a d)) (h:∀a d,Calls P f args (w.re a d) λe w'=>(∃x,e=aM x/\R x w')\/∃c,e= .panicked c/\E c w'): Ends P Al (AtEnd P R E) (Frame.enter P f args .normal) [] w:=by have j:∀b,¬K0 b:=λb h=>h;have m:Closed P Al D (Frame.enter P f args .normal) [] w:=⟨cV.enter (o K0 j) s t (aH rfl),.nil,q,r⟩;refine BZ (cs:=[bK]) o (λfr own v a d h=>h.re a d) m λa d=> ?_;have l:Closed P Al D (Frame.enter P f args .normal) [] (w.re a d):=⟨m.frame,.nil,gU q j a a d d (λ_ _=>rfl),r⟩;let⟨e,w',fr,i,g,_,hl⟩:=h a d [bK];obtain⟨x,rfl,i⟩|⟨c,rfl,i⟩:=i;{obtain⟨n,p⟩:Steps P _ _:=g;exact qB o (λD m=>aH (jS.of y hl i m)) n l p};.obtain⟨n,p⟩:Steps P _ _:=g;exact qB o (λD m=>aI ⟨rfl,hl.2.1,c,hl.1,λa d=>z c _ a d i⟩) n l p
def ends_of_calls (o:¬Al 1000000/\∀k,¬Al (1000002+k))(l:∀K:Kp,(∀b,¬K b)->cN P Al K){f}(r:Al f){args w D}(s:bB Al (cO D) args args)(m:bV P Al K0 (cO D) w w) {R} (t:∀x u a d,R x u->R x (u.re a d)) (h:∀a d,Calls P f args (w.re a d) λe w'=>∃x,e=aM x/\R x w'): Ends P Al (jS P R) (Frame.enter P f args .normal) [] w:=by have g:∀b,¬K0 b:=λb h=>h;have i:Closed P Al D (Frame.enter P f args .normal) [] w:=⟨cV.enter (l K0 g) r s (aH rfl),.nil,m,o⟩;refine BZ (cs:=[bK]) l (λfr own v a d h=>h.re a d) i λa d=> ?_;obtain⟨e,w',fr,⟨x,rfl,p⟩,c,_,hl⟩:=h a d [bK];obtain⟨n,q⟩:Steps P _ _:=c;have j:Closed P Al D (Frame.enter P f args .normal) [] (w.re a d):=⟨i.frame,.nil,gU m g a a d d (λ_ _=>rfl),o⟩;exact qB l (λD i=>jS.of t hl p i) n j q
end
structure CQ (P:zZ)(Al:zF)(K:Kp)(π:Rn)(fr:zC)(own:zL)(v:zW)(fr':zC)(own':zL)(w:zW):Prop where
 frame:cV P Al K π fr fr'
 own:gZ (cV P Al K π) own own'
 world:bV P Al K π (v.re w.tape w.drawn) w
structure aD7 (π:Rn)(w w₁:zW):Prop where
 cY:∀b b',π b b'->w₁.heap[b']? =w.heap[b']?
 size:w.heap.size<=w₁.heap.size
 os:w₁.os=w.os
section
variable {P:zZ}{Al:zF}{K:Kp}{π:Rn}{fr fr':zC}{own own' cs:zL}{v w w₁:zW}
def CQ.rely (a:K.pQ=aB)(h:CQ P Al K π fr own v fr' own' w)(r:aD7 π w w₁):CQ P Al K π fr own v fr' own' w₁:=by refine⟨h.frame,h.own,⟨h.world.ok,λb d c=> ?_,λk _=>rfl,h.world.fresh,⟨h.world.low.1,Ao h.world.low.2 r.size⟩,r.os.trans h.world.os,h.world.rows⟩⟩;have:=h.world.blk b d c;rw[r.cY b d c];exact this
def CQ.step (r:K.pQ=aB)(B:cN P Al K)(h:CQ P Al K π fr own v fr' own' w)(c:fr.mode= .run\/fr.defers≠[]\/own≠[]){y:zC×zL×zW}
  (j:∃es,stepG P aF (G fr (own++[])) (v.re w.tape w.drawn)= .go (G y.1 (y.2.1++[])) y.2.2 es) (p:Bool) (cs:zL) (A:tD P K fr:=by first|assumption|exact BY (λ_ h=>h)) (hs:rJ Al fr:=by first|assumption|exact kM (by assumption)):
  ∃d f a w1 es,stepG P p (G fr' (own'++cs)) w= .go (G f (a++cs)) w1 es/\CQ P Al K d y.1 y.2.1 y.2.2 f a w1/\fL K π d (v.re w.tape w.drawn) y.2.2 w w1/\∀e∈es,pP K d e:=by
 let⟨es,j⟩:=j;obtain⟨o,u,F,e⟩|⟨_,_,_,_,_,n,L,_⟩|⟨d,g1,v1,H,D,w1,m,s,I,C,b,hm,l⟩:=yT B h.world h.frame h.own c aF p A hs
 .rw[j]at e;cases e
 .exact ji
 .rw[j]at s;cases s;obtain⟨E,f,i,a,q,z,x,t⟩:=C;have J:=congrArg (λg:zH=>g.frame) q;have a2:y.2.1=i:=by
   have:=congrArg (λg:zH=>g.callers) q;simpa [G]using this
  subst J;subst a2;subst z;exact⟨d,f,a,w1,m,I,⟨x,t,⟨b.ok,b.blk,λk _=>rfl,b.fresh,b.low,b.os,b.rows⟩⟩,hm,l⟩
def iQ {α:Type}(P:zZ)(s:Sem α):Prop:=∀u b a u1 e,s.runT P u b=(.ok a u1,e)->u1=u
theorem iQ.bind {α β s}{f:α->Sem β}(h:iQ P s)(j:∀a,iQ P (f a)):iQ P (s>>=f):=by intro u i b u1 d e;rw[bI]at e;cases g:s.runT P u i with|mk r c=>rw[g]at e;cases r with|ok a u2=>have k:=h u i a u2 c g;subst k;exact j a u2 c b u1 d e|halt hl u2=>cases e
theorem eL {α}(a:α):iQ P (pure a:Sem α):=λu d b u1 c e=>by cases e;rfl
def qE {α}(h:Halt):iQ P (.halt h:Sem α):=λu c b u1 a e=>by cases e
def pL:iQ P program:=λu c b u1 a e=>by cases e;rfl
def GB (a)(m):iQ P (load a m):=λu d b u1 c e=>by unfold load at e;simp only[Sem.runT]at e;exact ji
def aMT (t):iQ P (typeInfo t):=by refine pL.bind λp=> ?_;split;{exact eL _};.exact qE _
theorem zAr (t):iQ P (underlying t):=by refine pL.bind λp=> ?_;split;{exact eL _};.exact qE _
def rY (a:Addr):∀(n i:Nat)(acc:zA),iQ P (loadCellsFrom a i n acc)
 |0,_,_=>eL _|n+1,i,acc=>(GB _ _).bind λv=>rY a n (i+1) (acc.push v)
def uY (fn)(t):iQ P (results fn t):=by refine iQ.bind ?_ λe=>eL _;rw[Nc];refine iQ.bind ?_ λl=>eL _;induction (zAM fn.results) with|nil=>exact eL _|cons r l d=>rw[List.mapM_cons];refine iQ.bind ?_ λx=>d.bind λl=>eL _;cases r with|tmp x=>exact eL _|cell a ty=>refine iQ.bind ?_ λx=>by{refine iQ.bind ?_ λb=> ?_;{unfold isAgg;grind[iQ.bind,eL,zAr]};.split;{refine((aMT ty).bind λi=>eL _).bind λn=> ?_;exact(rY x n 0 #[]).bind λc=>eL _};.exact GB _ _};unfold asAddr;split;{exact eL _};{unfold runtimePanic;exact pL.bind λp=>qE _};{exact qE _}
end
end Go.Ren
end
