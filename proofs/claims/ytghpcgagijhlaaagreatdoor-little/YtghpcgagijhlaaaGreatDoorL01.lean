import Derived.Test.YtghpcgagijhlaaaGreatDoorChecked
import Derived.KernelRfl
import Derived.Calls
import Derived.Test.YtghpcgagijhlaaaGreatDoorL00
set_option linter.all false
set_option maxRecDepth 100000
set_option maxHeartbeats 16000000
open Option renaming some->aA,none->aB
open Bool renaming true->aF,false->aG
open Or renaming inl->aH,inr->aI
open Go.Ending renaming returned->aM
open Go.Item renaming inRegion->aN
open Go.IntKind renaming i64->aD,u32->aP,u8->aQ
open Classical renaming choose->aEi
open Nat renaming testBit->aEj,le_of_ble_eq_true->aEk,add_left_cancel->aEl,rec->aEm
open Go.Proofs.Tryz
namespace Go.Proofs
open Go.Ren
noncomputable def uw:Oper:={dst:=aA 20,op:= .makeFunc (.func 158) #[.tmp 2,.tmp 3,.tmp 4,.tmp 5,.tmp 6,.tmp 7,.tmp 8,.tmp 9,.tmp 10] #[],type:=1,pos:= "q",after:= #[],guard:=aB}
noncomputable def uv:Oper:={dst:=aA 21,op:= .makeFunc (.func 158) #[.tmp 11,.tmp 12,.tmp 13,.tmp 14,.tmp 15,.tmp 16,.tmp 17,.tmp 18,.tmp 19] #[],type:=1,pos:= "q",after:= #[],guard:=aB}
noncomputable def uu:Oper:={dst:=aA 22,op:= .makeFunc (.func 158) #[.tmp 0,.tmp 1,.tmp 20,.tmp 21] #[],type:=224,pos:= "q",after:= #[],guard:=aB}
noncomputable def qoD:Oper:={dst:=aA 23,op:= .alloc 4,type:=0,pos:= "q",after:= #[],guard:=aB}
noncomputable def cm:Oper:={dst:=aB,op:= .store 4 (.tmp 23) (.const (.bool aF)),type:=0,pos:= "q",after:= #[],guard:=aB}
noncomputable def cn:Oper:={dst:=aA 24,op:= .load 4 (.tmp 23),type:=4,pos:= "q",after:= #[],guard:=aB}
noncomputable def jo:Oper:={dst:=aA 25,op:= .makeInterface 224 (.tmp 22),type:=0,pos:= "q",after:= #[],guard:=aB}
noncomputable def jm:Oper:={dst:=aB,op:= .panic (.tmp 25),type:=0,pos:= "q",after:= #[],guard:=aB}
noncomputable def jq:Oper:={dst:=aA 26,op:= .call {callee:= .value (.func 170),args:= #[.tmp 0,.tmp 1],argTypes:= #[146,166]},type:=82,pos:= "q",after:= #[],guard:=aB}
noncomputable def qr0:zQ:= #[uw,uv,uu,qoD]
noncomputable def Ut:zQ:= #[cm,cn]
noncomputable def jl:Oper:={dst:=aA 27,op:= .waits 0,type:=4,pos:= "q",after:= #[],guard:=aB}
noncomputable def cg:Oper:={dst:=aA 28,op:= .load 135 (.global 0),type:=135,pos:= "q",after:= #[],guard:=aB}
noncomputable def Uu:Oper:={dst:=aA 29,op:= .binOp .leq 135 (.tmp 28) (.const (.int aP 1779033703)) 135,type:=4,pos:= "q",after:= #[],guard:=aB}
noncomputable def jk:Oper:={dst:=aA 30,op:= .binOp .geq 135 (.tmp 28) (.const (.int aP 1779033703)) 135,type:=4,pos:= "q",after:= #[],guard:=aB}
noncomputable def cf:Oper:={dst:=aB,op:= .store 135 (.global 0) (.const (.int aP 0)),type:=0,pos:= "q",after:= #[],guard:=aB}
noncomputable def ji:zQ:= #[jl]
noncomputable def Ku:zQ:= #[cg,Uu,jk]
noncomputable def Us:zQ:= #[cf,jo,jm]
noncomputable def XM:zQ:= #[jq]
noncomputable def Bb:Code:= .seq (.region 3 XM aG) .ret
noncomputable def Qf:Code:= .refuse "not met"
noncomputable def jr:Code:= .cond (.tmp 30) (.region 2 Us aG) Qf
noncomputable def Uv:Code:= .cond (.tmp 29) jr Qf
noncomputable def mv:Code:= .seq (.region 5 Ku aG) Uv
noncomputable def ux:Code:= .cond (.tmp 27) Qf mv
noncomputable def cq:Code:= .seq (.region 4 ji aG) ux
noncomputable def Xf:Code:= .cond (.tmp 24) cq .skip
noncomputable def uy:Code:= .seq Xf Bb
noncomputable def qc2:Code:= .seq (.region 1 Ut aF) uy
noncomputable def nm:Oper:={dst:=aA 35,op:= .alloc 4,type:=0,pos:= "q",after:= #[],guard:=aB}
noncomputable def Xt:Oper:={dst:=aB,op:= .store 4 (.tmp 35) (.const (.bool aF)),type:=0,pos:= "q",after:= #[],guard:=aB}
noncomputable def Xu:Oper:={dst:=aA 36,op:= .load 4 (.tmp 35),type:=4,pos:= "q",after:= #[],guard:=aB}
noncomputable def Zu:Oper:={dst:=aA 35,op:= .move (.const undef),type:=0,pos:= "q",after:= #[],guard:=aB}
noncomputable def Zt:Oper:={dst:=aA 36,op:= .move (.const undef),type:=0,pos:= "q",after:= #[],guard:=aB}
noncomputable def ni:zQ:= #[nm]
noncomputable def Qh:zQ:= #[Xt,Xu]
noncomputable def Zs:zQ:= #[Zu,Zt]
noncomputable def Fx:Code:=f219.body.getD .skip
noncomputable def Zw:Code:= .seq (.region 92 Zs aG) Fx
noncomputable def Zv:Oper:={dst:=aA 35,op:= .load 135 (.global 0),type:=135,pos:= "q",after:= #[],guard:=aB}
noncomputable def Xv:Oper:={dst:=aA 36,op:= .binOp .leq 135 (.tmp 35) (.const (.int aP 0)) 135,type:=4,pos:= "q",after:= #[],guard:=aB}
noncomputable def Xq:zQ:= #[Zv,Xv]
noncomputable def ju:Code:= .cond (.tmp 36) .ret .skip
noncomputable def dw:Code:= .seq (.region 93 Xq aG) ju
noncomputable def Mc:Code:= .cond (.tmp 36) dw .skip
noncomputable def jv:Code:= .seq Mc Zw
noncomputable def nn:Code:= .seq (.region 91 Qh aF) jv
noncomputable def Qz.qX:Code:=
 .seq (.region 0 qr0 aG) qc2
noncomputable def Qz.ON:Code:=
 .seq (.region 90 ni aG) nn
noncomputable def Qz.ZP:Code:=
 (.seq (.region 0 #[{dst:=aA 26,op:= .call {callee:= .builtin .len,args:= #[.tmp 1],argTypes:= #[166]},type:=3,pos:= "q",after:= #[],guard:=aB}] aG) (.seq (.region 1 #[{dst:=aA 27,op:= .makeSlice 287 (.tmp 26) (.tmp 26),type:=287,pos:= "q",after:= #[],guard:=aB}] aG) (.seq (.region 2 #[{dst:=aA 28,op:= .move (.const (.int aD 0)),type:=3,pos:= "q",after:= #[],guard:=aB}] aG) (.seq (.block 0 (.loop (.seq (.region 3 #[{dst:=aA 29,op:= .binOp .lss 3 (.tmp 28) (.tmp 26) 3,type:=0,pos:= "q",after:= #[],guard:=aB}] aG) (.seq (.cond (.tmp 29) .skip (.exit 0)) (.seq (.region 4 #[{dst:=aA 30,op:= .indexAddr 166 (.tmp 1) (.tmp 28),type:=0,pos:= "q",after:= #[],guard:=aB},{dst:=aA 31,op:= .load 264 (.tmp 30),type:=264,pos:= "q",after:= #[],guard:=aB}] aG) (.seq (.region 5 #[{dst:=aA 32,op:= .call {callee:= .value (.func 236),args:= #[.tmp 0,.tmp 31],argTypes:= #[146,264]},type:=283,pos:= "q",after:= #[],guard:=aB}] aG) (.seq (.region 6 #[{dst:=aA 33,op:= .indexAddr 287 (.tmp 27) (.tmp 28),type:=0,pos:= "q",after:= #[],guard:=aB},{dst:=aB,op:= .store 283 (.tmp 33) (.tmp 32),type:=0,pos:= "q",after:= #[],guard:=aB}] aG) (.region 7 #[{dst:=aA 34,op:= .binOp .add 3 (.tmp 28) (.const (.int aD 1)) 3,type:=3,pos:= "q",after:= #[],guard:=aB},{dst:=aA 28,op:= .move (.tmp 34),type:=3,pos:= "q",after:= #[],guard:=aB}] aG)))))))) (.seq (.region 8 #[{dst:=aA 35,op:= .move (.const (.int aD 0)),type:=3,pos:= "q",after:= #[],guard:=aB}] aG) (.seq (.block 1 (.loop (.seq (.region 9 #[{dst:=aA 36,op:= .binOp .lss 3 (.tmp 35) (.tmp 26) 3,type:=0,pos:= "q",after:= #[],guard:=aB}] aG) (.seq (.cond (.tmp 36) .skip (.exit 1)) (.seq (.region 10 #[{dst:=aA 37,op:= .indexAddr 287 (.tmp 27) (.tmp 35),type:=0,pos:= "q",after:= #[],guard:=aB},{dst:=aA 38,op:= .load 283 (.tmp 37),type:=283,pos:= "q",after:= #[],guard:=aB}] aG) (.seq (.region 11 #[{dst:=aA 39,op:= .call {callee:= .value (.func 235),args:= #[.tmp 38],argTypes:= #[283]},type:=0,pos:= "q",after:= #[],guard:=aB}] aG) (.region 12 #[{dst:=aA 40,op:= .binOp .add 3 (.tmp 35) (.const (.int aD 1)) 3,type:=3,pos:= "q",after:= #[],guard:=aB},{dst:=aA 35,op:= .move (.tmp 40),type:=3,pos:= "q",after:= #[],guard:=aB}] aG))))))) .ret))))))
noncomputable def Qz.f233:Func:={Tryz.f233 with ntmps:=43,body:=aA Qz.qX}
noncomputable def Qz.f219:Func:={Tryz.f219 with body:=aA Qz.ON}
noncomputable def Qz.f170:Func:={Tryz.f170 with body:=aA Qz.ZP}
noncomputable def Qz.no (f:Func):Func:={f with body:=aA (.refuse "not met")}
@[irreducible]noncomputable def seven (fs:Array Func):Array Func:=(((((((((fs.setIfInBounds 219 Qz.f219).setIfInBounds 233 Qz.f233).setIfInBounds 170 Qz.f170).setIfInBounds 149 (Qz.no f149)).setIfInBounds 150 (Qz.no f150)).setIfInBounds 151 (Qz.no f151)).setIfInBounds 152 (Qz.no f152)).setIfInBounds 153 (Qz.no f153)).setIfInBounds 154 (Qz.no f154))
@[irreducible]noncomputable def yX (fs:Array Func):Array Func:=(fs.setIfInBounds 233 (Qz.no f233)).setIfInBounds 170 (Qz.no f170)
noncomputable def zq:zZ:={toTables:=Tryz.prog.toTables,funcs:=seven Tryz.prog.funcs}
noncomputable def Qm.prog:zZ:={toTables:=Tryz.prog.toTables,funcs:=yX (seven Tryz.prog.funcs)}
noncomputable def Qz.al:zN->Bool:=λf=>aEj 139580918110910343807797178301084320957570851558200199008155464778716806392 f
noncomputable def Qm.al:zN->Bool:=λf=>aEj 139580918110910343807795681358032284780256881434010289355272582189809663224 f
noncomputable def Qw.al:zN->Bool:=λf=>aEj 127378954095726651068573390198365847081352342459166239694769917287058112512 f
noncomputable def Qz.met (s:String):Bool:=s== "Next"||s== "Root"||s== "Prove"||s== "Forget"||s== "Entries"||s== "Cells"
def Qz.iS (f:zN):Prop:=f=219\/f=233\/f=170\/f=149\/f=150\/f=151\/f=152\/f=153\/f=154
def Jy (fs){f}(h:¬Qz.iS f):(seven fs)[f]? =fs[f]? :=by simp only[Qz.iS,not_or]at h;obtain⟨b,a,c,k,j,i,g,e,d⟩:=h;unfold seven;rw[zAe (zDj d),zAe (zDj e),zAe (zDj g),zAe (zDj i),zAe (zDj j),zAe (zDj k),zAe (zDj c),zAe (zDj a),zAe (zDj b)]
def Rm (fs:Array Func)(b x c i h g f e d)(hs:233<fs.size):(λa:Array Func=>a[219]? =aA b/\a[233]? =aA x/\a[170]? =aA c/\a[149]? =aA i/\a[150]? =aA h/\a[151]? =aA g/\a[152]? =aA f/\a[153]? =aA e/\a[154]? =aA d) (((((((((fs.setIfInBounds 219 b).setIfInBounds 233 x).setIfInBounds 170 c).setIfInBounds 149 i).setIfInBounds 150 h).setIfInBounds 151 g).setIfInBounds 152 f).setIfInBounds 153 e).setIfInBounds 154 d):=by refine⟨?_,?_,?_,?_,?_,?_,?_,?_,?_⟩<;>simp[zBt]<;>omega
def Jz (fs)(hs:233<fs.size):(seven fs)[219]? =aA Qz.f219/\(seven fs)[233]? =aA Qz.f233/\(seven fs)[170]? =aA Qz.f170/\(seven fs)[149]? =aA (Qz.no f149)/\(seven fs)[150]? =aA (Qz.no f150)/\(seven fs)[151]? =aA (Qz.no f151)/\(seven fs)[152]? =aA (Qz.no f152)/\(seven fs)[153]? =aA (Qz.no f153)/\(seven fs)[154]? =aA (Qz.no f154):=by unfold seven;exact Rm fs _ _ _ _ _ _ _ _ _ hs
def Qz.lt {f:zN}{x}(h:Tryz.prog.funcs[f]? =aA x):f<Tryz.prog.funcs.size:=(zAa.1 h).1
def Qz.tG:zq.funcs=seven Tryz.prog.funcs:=by unfold zq;rfl
def Qm.tG:Qm.prog.funcs=yX zq.funcs:=by unfold Qm.prog zq;rfl
def Qz.iH:zq.toTables=Tryz.prog.toTables:=by unfold zq;rfl
def Qm.iH:Qm.prog.toTables=Tryz.prog.toTables:=by unfold Qm.prog;rfl
def Qz.same {f}(h:¬Qz.iS f):zq.funcs[f]? =Tryz.prog.funcs[f]? :=by rw[Qz.tG];exact Jy Tryz.prog.funcs h
def Qm.same {f:zN}(h:f≠233)(a:f≠170):Qm.prog.funcs[f]? =zq.funcs[f]? :=by rw[Qm.tG];unfold yX;rw[zAe (zDj a),zAe (zDj h)]
def Qz.all:zq.funcs[219]? =aA Qz.f219/\zq.funcs[233]? =aA Qz.f233/\zq.funcs[170]? =aA Qz.f170/\zq.funcs[149]? =aA (Qz.no Tryz.f149)/\zq.funcs[150]? =aA (Qz.no Tryz.f150)/\zq.funcs[151]? =aA (Qz.no Tryz.f151)/\zq.funcs[152]? =aA (Qz.no Tryz.f152)/\zq.funcs[153]? =aA (Qz.no Tryz.f153)/\zq.funcs[154]? =aA (Qz.no Tryz.f154):=by rw[Qz.tG];exact Jz Tryz.prog.funcs (Qz.lt Tryz.func233)
def Qz.func219:zq.funcs[219]? =aA Qz.f219:=Qz.all.1
def Qz.func233:zq.funcs[233]? =aA Qz.f233:=Qz.all.2.1
def Qz.func170:zq.funcs[170]? =aA Qz.f170:=Qz.all.2.2.1
def Qz.func149:zq.funcs[149]? =aA (Qz.no Tryz.f149):=Qz.all.2.2.2.1
def Qz.func150:zq.funcs[150]? =aA (Qz.no Tryz.f150):=Qz.all.2.2.2.2.1
def Qz.func151:zq.funcs[151]? =aA (Qz.no Tryz.f151):=Qz.all.2.2.2.2.2.1
def Qz.func152:zq.funcs[152]? =aA (Qz.no Tryz.f152):=Qz.all.2.2.2.2.2.2.1
def Qz.func153:zq.funcs[153]? =aA (Qz.no Tryz.f153):=Qz.all.2.2.2.2.2.2.2.1
def Qz.func154:zq.funcs[154]? =aA (Qz.no Tryz.f154):=Qz.all.2.2.2.2.2.2.2.2
def LV (fs)(a:233<fs.size)(h:170<fs.size):(yX fs)[233]? =aA (Qz.no f233)/\(yX fs)[170]? =aA (Qz.no f170):=by unfold yX;generalize Qz.no f233=x;generalize Qz.no f170=y;constructor<;>simp[zBt]<;>omega
def Qm.func233:Qm.prog.funcs[233]? =aA (Qz.no Tryz.f233):=by rw[Qm.tG];exact(LV _ (zAa.1 Qz.func233).1 (zAa.1 Qz.func170).1).1
def Qm.func170:Qm.prog.funcs[170]? =aA (Qz.no Tryz.f170):=by rw[Qm.tG];exact(LV _ (zAa.1 Qz.func233).1 (zAa.1 Qz.func170).1).2
def Qz.AO {f}(h:Qz.iS f):∃a,Tryz.prog.funcs[f]? =aA a/\∃b,zq.funcs[f]? =aA b/\b.name=a.name/\b.norace=a.norace/\b.results=a.results/\∃d c,a.body=aA d/\b.body=aA c:=by
 obtain rfl|rfl|rfl|rfl|rfl|rfl|rfl|rfl|rfl:=h
 .exact⟨_,Tryz.func219,_,Qz.func219,rfl,rfl,rfl,_,_,rfl,rfl⟩
 .exact⟨_,Tryz.func233,_,Qz.func233,rfl,rfl,rfl,_,_,rfl,rfl⟩
 .exact⟨_,Tryz.func170,_,Qz.func170,rfl,rfl,rfl,_,_,rfl,rfl⟩
 .exact⟨_,Tryz.func149,_,Qz.func149,rfl,rfl,rfl,_,_,rfl,rfl⟩
 .exact⟨_,Tryz.func150,_,Qz.func150,rfl,rfl,rfl,_,_,rfl,rfl⟩
 .exact⟨_,Tryz.func151,_,Qz.func151,rfl,rfl,rfl,_,_,rfl,rfl⟩
 .exact⟨_,Tryz.func152,_,Qz.func152,rfl,rfl,rfl,_,_,rfl,rfl⟩
 .exact⟨_,Tryz.func153,_,Qz.func153,rfl,rfl,rfl,_,_,rfl,rfl⟩
 .exact⟨_,Tryz.func154,_,Qz.func154,rfl,rfl,rfl,_,_,rfl,rfl⟩
def Qz.back:(⟨zq.toTables,Tryz.prog.funcs⟩:zZ)=Tryz.prog:=by rw[Qz.iH]
def Qz.Vn:(⟨zq.toTables,Qm.prog.funcs⟩:zZ)=Qm.prog:=by rw[Qz.iH,<-Qm.iH]
def Qz.shape:Shape zq Tryz.prog.funcs:=λf=>by
 by_cases h:Qz.iS f
 .obtain⟨a,g,b,e,j,i,_,l,k,d,c⟩:=Qz.AO h;exact aI ⟨b,a,e,g,j.symm,by rw[c];rfl,by rw[d];rfl,i.symm⟩
 .exact aH (Qz.same h).symm
def Qz.res (f:zN):(Tryz.prog.funcs[f]?).map (·.results)=(zq.funcs[f]?).map (·.results):=by
 by_cases h:Qz.iS f
 .obtain⟨a,d,b,c,_,_,e,_⟩:=Qz.AO h;rw[d,c];simp[e]
 .rw[Qz.same h]
def Qz.mq (f:zN):(Qm.prog.funcs[f]?).map (·.results)=(zq.funcs[f]?).map (·.results):=by
 by_cases a:f=233
 .subst a;rw[Qm.func233,Qz.func233];rfl
 .by_cases h:f=170
  .subst h;rw[Qm.func170,Qz.func170];rfl
  .rw[Qm.same a h]
def Qz.Wz:Shape zq Qm.prog.funcs:=λf=>by
 by_cases a:f=233
 .subst a;exact aI ⟨_,_,Qz.func233,Qm.func233,rfl,rfl,rfl,rfl⟩
 .by_cases h:f=170
  .subst h;exact aI ⟨_,_,Qz.func170,Qm.func170,rfl,rfl,rfl,rfl⟩
  .exact aH (Qm.same a h)
def Qz.dk:Tryz.prog.funcs[233]?≠zq.funcs[233]? :=by
 rw[Tryz.func233,Qz.func233];intro h;injection h with h;have:Tryz.f233.ntmps=Qz.f233.ntmps:=by rw[h]
 cases this
def Qz.dm:Tryz.prog.funcs[170]?≠zq.funcs[170]? :=by
 rw[Tryz.func170,Qz.func170];intro h;injection h with h;have:Tryz.f170.body=Qz.f170.body:=by rw[h]
 cases this
end Go.Proofs
namespace Go.Ren
def EN {info d i}(h:Made.reckon info d=aA i):i.methods= #[]:=by
 cases d with
 |struct f=>unfold Made.reckon Made.reckonStruct at h;simp only[bind,zCo,pure]at h;obtain⟨_,_,h⟩:=h;split at h<;>(cases h;rfl)
 |pointer e=>
  simp only[Made.reckon,bind,zCo]at h;obtain⟨j,_,h⟩:=h;split at h;{cases h}
  .split at h
   .cases h
   .simp only[zCo,pure]at h;obtain⟨_,_,h⟩:=h;cases h;rfl
  .simp only[zCo,pure]at h;obtain⟨_,_,h⟩:=h;cases h;rfl
 |slice e=>simp only[Made.reckon,bind,zCo,pure]at h;obtain⟨_,_,_,_,h⟩:=h;cases h;rfl
 |map k e=>simp only[Made.reckon,bind,zCo,pure]at h;obtain⟨_,_,_,_,_,_,_,_,h⟩:=h;cases h;rfl
 |chan dir e=>simp only[Made.reckon,bind,zCo,pure]at h;obtain⟨_,_,_,_,h⟩:=h;cases h;rfl
 |func p rs v=>simp only[Made.reckon,bind,zCo,pure]at h;obtain⟨_,_,h⟩:=h;cases h;rfl
 |array n e=>simp only[Made.reckon,bind,zCo,pure]at h;obtain⟨_,_,_,_,h⟩:=h;cases h;rfl
 |_=>simp[Made.reckon]at h
def Bm {P:zZ}{t i m s}(hi:P.info? t=aA i)(a:i.methods.find? (·.name==s)=aA m):t<P.types.size:=by
 by_cases h:t<P.types.size
 .exact h
 .exfalso;unfold Tables.info? at hi;rw[zAv h]at hi;unfold Made.depth at hi;unfold Made.infoAt at hi;rw[zAv h]at hi;obtain⟨d,_,b⟩:=zCo.1 hi;rw[EN b]at a;cases a
end Go.Ren
namespace Go.Proofs
open Go.Ren
noncomputable def Qz.uf (t:zD):Bool:=t==5||t==178
noncomputable def Qz.ck (k:Nat->Bool):Ck:=⟨λf=>bif decide (f<254)then Qz.al f else(f==900219||k f),Qz.uf,Qz.met,aF⟩
noncomputable def Qm.ck (k:Nat->Bool):Ck:=⟨λf=>bif decide (f<254)then Qm.al f else(f==900219||k f),Qz.uf,Qz.met,aF⟩
noncomputable def Qw.ck:Ck:=⟨λf=>decide (f<254)&&Qw.al f,Qz.uf,λ_=>aG,aG⟩
def pX (P:zZ)(C:Ck):Bool:=
 (List.range 254).all λf=> !C.al f||(match P.funcs[f]? with
  |some fn=>(fn.name != "runtime.NumGoroutine")&&(match fn.body with|some c=>nO P C c|none=>f==103||f==131||f==132||f==177)
  |none=>aF)
def eS (P:zZ)(C:Ck)(s:String):Bool:=
 (List.range P.types.size).all λt=>match P.info? t with
  |some i=>(match i.methods.find? (·.name==s)with|some m=>m.path.isEmpty&&(match m.func with|some (f,aF)=>C.al f|_=>aG)|none=>aF)
  |none=>aF
def CP (P:zZ):Bool:=
 (List.range P.types.size).all λt=>(match P.info? t with|some i=>(match i.zero with|some z=>XT 8 z|none=>aF)|none=>aF)&&
  (match P.underlying t with|some (.slice e)=>decide (e<P.types.size)|some (.pointer e)=>decide (e<P.types.size)|some (.array _ e)=>decide (e<P.types.size)|_=>aF)
def ZK {P}(h:CP P=aF):IE P:=by
 have k:=λt (a:t<P.types.size)=>Bool.and_eq_true_iff.1 (zCb.1 h t (zCi.2 a));refine⟨λt i z a hi c=> ?_,λt e a b=> ?_,λt n e a b=> ?_,λt e a b=> ?_⟩
 .have:=(k t a).1;rw[hi]at this;dsimp only at this;rw[c]at this;exact wV 8 z this
 .have:=(k t a).2;rw[b]at this;exact of_decide_eq_true this
 .have:=(k t a).2;rw[b]at this;exact of_decide_eq_true this
 .have:=(k t a).2;rw[b]at this;exact of_decide_eq_true this
def lA {P C s}(h:eS P C s=aF):vH P (λf=>C.al f=aF) s:=λt i m hi c=>by
 have e:=Bm hi c;have:=zCb.1 h t (zCi.2 e);rw[hi]at this;dsimp only at this;rw[c]at this;dsimp only at this;rw[zBh]at this;refine⟨Array.isEmpty_iff.1 this.1,?_⟩;obtain⟨_,a⟩:=this;cases d:m.func with
 |none=>rw[d]at a;cases a
 |some p=>
  obtain⟨f,b⟩:=p;rw[d]at a;cases b with
  |true=>exact⟨f,rfl,a⟩
  |false=>cases a
def sV {P C}(h:pX P C=aF)(bT:P.funcs.size=254){f fn}(e:C.al f=aF)(d:P.funcs[f]? =aA fn):fn.name≠ "runtime.NumGoroutine"/\(∀c,fn.body=aA c->nO P C c=aF)/\(fn.body=aB->f=103\/f=131\/f=132\/f=177):=by
 have:=zCb.1 h f (zCi.2 (by have:=(zAa.1 d).1;omega));rw[e,d]at this;simp only[Bool.not_true,zFx,zBh,bne_iff_ne,ne_eq]at this;refine⟨this.1,λc b=> ?_,λb=> ?_⟩
 .have a:=this.2;rw[b]at a;exact a
 .have a:=this.2;rw[b]at a;simp only[zDs,zDq]at a;obtain((a|a)|a)|a:=a
  .exact aH a
  .exact aI (aH a)
  .exact aI (aI (aH a))
  .exact aI (aI (aI a))
def tR {P:zZ}{C:Ck}{F:Kp}(a:CP P=aF)(h:pX P C=aF)(bT:P.funcs.size=254)(k:P.types.size<=1000000)(j:∀e,C.uf e=aF->jH P e)(l:∀m,C.mt m=aF->vH P (λf=>C.al f=aF) m)(n:C.mark=aF->∀b,¬F b)(o:C.mark=aG->¬F.cmp)
  (p:∀f fn,C.al f=aF->P.funcs[f]? =aA fn->f=103\/f=131\/f=132\/f=177->Extern.findNext fn=aB/\∃e,Extern.find fn=aA e/\∀(π:Rn) xs x,Ok P π->aZ (λf=>C.al f=aF) π xs x->bN P (λf=>C.al f=aF) F (VR (λf=>C.al f=aF)) π (e xs) (e x)):cB P (λf=>C.al f=aF) F:=
 ⟨⟨ZK a,λi hi=>by
  cases hm:i.methods.find? (·.name== "")with
  |none=>rfl
  |some m=>exact absurd (Bm hi hm) (zEy.2 k),λf fn g d=>(sV h bT g d).1,λf fn g d r=>p f fn g d ((sV h bT g d).2.2 r)⟩,λf fn c g d q=>Ez j l n o ((sV h bT g d).2.1 c q)⟩
def DN:zq.funcs.size=254/\zq.types.size<=1000000:=⟨by kernel_rfl,aEk (by kernel_rfl)⟩
def Ur:Qm.prog.funcs.size=254/\Qm.prog.types.size<=1000000:=⟨by kernel_rfl,aEk (by kernel_rfl)⟩
def Nb:CP zq=aF:=by kernel_rfl
def gk:CP Qm.prog=aF:=by kernel_rfl
def dp (k):(eS zq (Qz.ck k) "Next"&&eS zq (Qz.ck k) "Root"&&eS zq (Qz.ck k) "Prove"&&eS zq (Qz.ck k) "Forget"&&eS zq (Qz.ck k) "Entries"&&eS zq (Qz.ck k) "Cells")=aF:=by kernel_rfl
def dq (k):(eS Qm.prog (Qm.ck k) "Next"&&eS Qm.prog (Qm.ck k) "Root"&&eS Qm.prog (Qm.ck k) "Prove"&&eS Qm.prog (Qm.ck k) "Forget"&&eS Qm.prog (Qm.ck k) "Entries"&&eS Qm.prog (Qm.ck k) "Cells")=aF:=by kernel_rfl
def Yi (k):pX zq (Qz.ck k)=aF:=by kernel_rfl
def Yj (k):pX Qm.prog (Qm.ck k)=aF:=by kernel_rfl
def Yh:pX zq Qw.ck=aF:=by kernel_rfl
def ay {P}(h:P.underlying 5=aA (.int aQ)):jH P 5:=λd off x a Al b=>by
 cases d with
 |zero=>cases a
 |succ d=>simp only[plainCell,h]at a;split at a;{cases a;exact .int _ _};{cases a}
def Jc {P f0 f1}(h:P.underlying 178=aA (.struct #[f0,f1]))(b:∃e,P.underlying f0.type=aA (.pointer e))(a:∃e,P.underlying f1.type=aA (.slice e)):jH P 178:=λd off x c Al g=>by
 obtain⟨j,b⟩:=b;obtain⟨i,a⟩:=a;cases d with
 |zero=>cases c
 |succ d=>exfalso;have f:∀o,plainCell P d f0.type o=aB:=λo=>by{cases d<;>simp[plainCell,b]};have n:∀o,plainCell P d f1.type o=aB:=λo=>by{cases d<;>simp[plainCell,a]};simp[plainCell,h,f,n]at c
def Qz.az (e)(h:Qz.uf e=aF):jH zq e:=by
 unfold Qz.uf at h;rw[zDs,zDq,zDq]at h;obtain rfl|rfl:=h
 .exact ay (by kernel_rfl)
 .exact Jc (f0:={name:= "addr",type:=176,offset:=0,embedded:=aG,tag:= "",pkgPath:= "strings",byteOffset:=0}) (f1:={name:= "buf",type:=50,offset:=1,embedded:=aG,tag:= "",pkgPath:= "strings",byteOffset:=8}) (by kernel_rfl) ⟨178,by kernel_rfl⟩ ⟨5,by kernel_rfl⟩
def Qm.az (e)(h:Qz.uf e=aF):jH Qm.prog e:=by
 unfold Qz.uf at h;rw[zDs,zDq,zDq]at h;obtain rfl|rfl:=h
 .exact ay (by kernel_rfl)
 .exact Jc (f0:={name:= "addr",type:=176,offset:=0,embedded:=aG,tag:= "",pkgPath:= "strings",byteOffset:=0}) (f1:={name:= "buf",type:=50,offset:=1,embedded:=aG,tag:= "",pkgPath:= "strings",byteOffset:=8}) (by kernel_rfl) ⟨178,by kernel_rfl⟩ ⟨5,by kernel_rfl⟩
def CN:Extern.findNext f103=aB/\Extern.find f103=aA Extern.BytealgCompare.compare:=⟨by kernel_rfl,by kernel_rfl⟩
def CM:Extern.findNext f131=aB/\Extern.find f131=aA Extern.AbiNoEscape.same:=⟨by kernel_rfl,by kernel_rfl⟩
def CL:Extern.findNext f132=aB/\Extern.find f132=aA (Extern.BytealgMakeNoZero.makeNoZero #[3] #[50]):=⟨by kernel_rfl,by kernel_rfl⟩
def CK:Extern.findNext f177=aB/\Extern.find f177=aA (Extern.SlicesOverlaps.overlaps #[48,48] #[4]):=⟨by kernel_rfl,by kernel_rfl⟩
instance (f:zN):Decidable (Qz.iS f):=by unfold Qz.iS;infer_instance
def Qm.Az {f}(h:¬Qz.iS f):Qm.prog.funcs[f]? =Tryz.prog.funcs[f]? :=(Qm.same (λe=>h (by rw[e];decide)) λe=>h (by rw[e];decide)).trans (Qz.same h)
def Qz.lW {C:Ck}{F}(hF:C.al 177=aF->∀b,¬F b)(f)(fn)(g:C.al f=aF)(a:zq.funcs[f]? =aA fn)(h:f=103\/f=131\/f=132\/f=177):Extern.findNext fn=aB/\∃e,Extern.find fn=aA e/\∀(c) d x,Ok zq c->aZ (λf=>C.al f=aF) c d x->bN zq (λf=>C.al f=aF) F (VR (λf=>C.al f=aF)) c (e d) (e x):=by
 obtain rfl|rfl|rfl|rfl:=h
 .rw[Qz.same (by decide),Tryz.func103]at a;cases a;exact⟨CN.1,_,CN.2,λc d x ok h=>AZ h⟩
 .rw[Qz.same (by decide),Tryz.func131]at a;cases a;exact⟨CM.1,_,CM.2,λc d x ok h=>QV h⟩
 .rw[Qz.same (by decide),Tryz.func132]at a;cases a;exact⟨CL.1,_,CL.2,λc d x ok h=>sC _ _ h⟩
 .rw[Qz.same (by decide),Tryz.func177]at a;cases a;exact⟨CK.1,_,CK.2,λc d x ok h=>wA (hF g) _ _ h⟩
def Qm.lW {C:Ck}{F}(hF:C.al 177=aF->∀b,¬F b)(f)(fn)(g:C.al f=aF)(a:Qm.prog.funcs[f]? =aA fn)(h:f=103\/f=131\/f=132\/f=177):Extern.findNext fn=aB/\∃e,Extern.find fn=aA e/\∀(c) d x,Ok Qm.prog c->aZ (λf=>C.al f=aF) c d x->bN Qm.prog (λf=>C.al f=aF) F (VR (λf=>C.al f=aF)) c (e d) (e x):=by
 obtain rfl|rfl|rfl|rfl:=h
 .rw[Qm.Az (by decide),Tryz.func103]at a;cases a;exact⟨CN.1,_,CN.2,λc d x ok h=>AZ h⟩
 .rw[Qm.Az (by decide),Tryz.func131]at a;cases a;exact⟨CM.1,_,CM.2,λc d x ok h=>QV h⟩
 .rw[Qm.Az (by decide),Tryz.func132]at a;cases a;exact⟨CL.1,_,CL.2,λc d x ok h=>sC _ _ h⟩
 .rw[Qm.Az (by decide),Tryz.func177]at a;cases a;exact⟨CK.1,_,CK.2,λc d x ok h=>wA (hF g) _ _ h⟩
abbrev Qz.Ak (k:Nat->Bool):zF:=λf=>(Qz.ck k).al f=aF
abbrev Qz.Al:zF:=Qz.Ak (·==1000001)
abbrev Qz.Aj (vb:Nat):zF:=Qz.Ak λf=>f==1000000||f==1000002+vb
abbrev Qz.Ab (N:Nat):zF:=Qz.Ak λf=>f==1000001||f==1000002+N
abbrev Qm.Al:zF:=λf=>(Qm.ck (·==1000001)).al f=aF
abbrev Qw.Al:zF:=λf=>Qw.ck.al f=aF
def Vm {m:zN->Bool}(f)(h:(decide (f<254)&&m f)=aF):f<254:=of_decide_eq_true (Bool.and_eq_true_iff.1 h).1
def gv {m k:Nat->Bool}{f}(h:(bif decide (f<254)then m f else k f)=aF):(f<254/\m f=aF)\/(254<=f/\k f=aF):=by
 by_cases a:f<254
 .rw[zDd a]at h;exact aH ⟨a,h⟩
 .rw[zBv a]at h;exact aI ⟨zEy.1 a,h⟩
def Ch {m k:Nat->Bool}{f}(h:f<254):(bif decide (f<254)then m f else k f)=m f:=by rw[zDd h];rfl
def Oe {m k:Nat->Bool}{f}(h:254<=f):(bif decide (f<254)then m f else k f)=k f:=by rw[zBv (zEy.2 h)];rfl
def Uz {P C}(h:(eS P C "Next"&&eS P C "Root"&&eS P C "Prove"&&eS P C "Forget"&&eS P C "Entries"&&eS P C "Cells")=aF)(m)(a:Qz.met m=aF):vH P (λf=>C.al f=aF) m:=by
 simp only[zBh]at h;obtain⟨⟨⟨⟨⟨i,g⟩,e⟩,d⟩,c⟩,b⟩:=h;unfold Qz.met at a;simp only[zDs,zDq]at a;obtain((((rfl|rfl)|rfl)|rfl)|rfl)|rfl:=a
 .exact lA i
 .exact lA g
 .exact lA e
 .exact lA d
 .exact lA c
 .exact lA b
def Qz.xV (k)(K)(a:∀b,¬K b):cB zq (Qz.Ak k) K:=tR Nb (Yi k) DN.1 DN.2 (λe h=>Qz.az e h) (λm h=>Uz (dp k) m h) (λ_=>a) (λh=>by cases h) λf fn d c h=>Qz.lW (λ_=>a) f fn d c h
def Qz.iU (K)(h:∀b,¬K b):cB zq Qz.Al K:=Qz.xV _ K h
def Qm.iU (K)(a:∀b,¬K b):cB Qm.prog Qm.Al K:=tR gk (Yj _) Ur.1 Ur.2 (λe h=>Qm.az e h) (λm h=>Uz (dq _) m h) (λ_=>a) (λh=>by cases h) λf fn d c h=>Qm.lW (λ_=>a) f fn d c h
def Qw.di:Qw.ck.al 177=aG:=by kernel_rfl
def Qw.iU (K)(c:¬K.cmp):cB zq Qw.Al K:=tR Nb Yh DN.1 DN.2 (λe h=>Qz.az e h) (λm h=>by cases h) (λh=>by cases h) (λ_=>c) λf fn b a h=>Qz.lW (λh=>by rw[Qw.di]at h;cases h) f fn b a h
noncomputable def Qw.ta:Ck:=⟨λf=>decide (f<254)&&Qw.al f,Qz.uf,λ_=>aG,aF⟩
def Tq:pX zq Qw.ta=aF:=by kernel_rfl
def Qw.OO (K)(a:∀b,¬K b):cB zq Qw.Al K:=tR (C:=Qw.ta) Nb Tq DN.1 DN.2 (λe h=>Qz.az e h) (λm h=>by cases h) (λ_=>a) (λh=>by cases h) λf fn d c h=>Qz.lW (C:=Qw.ta) (λ_=>a) f fn d c h
def Qw.plain:((List.range 254).all λf=> !Qw.ck.al f||(f !=219&&f !=233&&f !=170&&f !=149&&f !=150&&f !=151&&f !=152&&f !=153&&f !=154))=aF:=by kernel_rfl
def Qw.XW {f}(h:Qw.Al f):¬Qz.iS f:=λb=>by have a:=zCb.1 Qw.plain f (zCi.2 (Vm f h));rw[show Qw.ck.al f=aF from h]at a;simp only[Bool.not_true,zFx,zBh,bne_iff_ne,ne_eq]at a;unfold Qz.iS at b;obtain rfl|rfl|rfl|rfl|rfl|rfl|rfl|rfl|rfl:=b<;>simp at a
def Qm.sub {f}(h:Qm.Al f):Qz.Al f:=by
 have b:((List.range 254).all λf=> !Qm.al f||Qz.al f)=aF:=by kernel_rfl
 show(bif decide (f<254)then Qz.al f else(f==900219||f==1000001))=aF;obtain⟨a,h⟩|⟨a,h⟩:=gv (k:=λf=>f==900219||f==1000001) h
 .have c:=zCb.1 b f (zCi.2 a);rw[h]at c;rw[Ch (k:=λf=>f==900219||f==1000001) a];simpa using c
 .rw[Oe (k:=λf=>f==900219||f==1000001) a];exact h
def Qz.flag {k}(f:Nat)(h:254<=f):Qz.Ak k f↔(f==900219||k f)=aF:=by show(bif decide (f<254)then Qz.al f else(f==900219||k f))=aF↔_;rw[Oe (k:=λf=>f==900219||k f) h]
def Qz.other {k k'}{f:Nat}(a:f<254)(h:Qz.Ak k f):Qz.Ak k' f:=by have h:(bif decide (f<254)then Qz.al f else(f==900219||k f))=aF:=h;show(bif decide (f<254)then Qz.al f else(f==900219||k' f))=aF;rw[Ch (k:=λf=>f==900219||k f) a]at h;rw[Ch (k:=λf=>f==900219||k' f) a];exact h
def Qm.flag (f:Nat)(h:254<=f):Qm.Al f↔f=900219\/f=1000001:=by show(bif decide (f<254)then Qm.al f else(f==900219||f==1000001))=aF↔_;rw[Oe (k:=λf=>f==900219||f==1000001) h];simp
def Qz.UC (f:Nat)(h:254<=f):Qz.Al f↔f=900219\/f=1000001:=(Qz.flag f h).trans (by simp)
def Qz.UD (vb f:Nat)(h:254<=f):Qz.Aj vb f↔f=900219\/f=1000000\/f=1000002+vb:=(Qz.flag f h).trans (by simp)
def Qz.Br (N f:Nat)(h:254<=f):Qz.Ab N f↔f=900219\/f=1000001\/f=1000002+N:=(Qz.flag f h).trans (by simp)
def Qz.nj:¬Qz.Al 1000000/\∀k,¬Qz.Al (1000002+k):=by
 refine⟨λh=> ?_,λk h=> ?_⟩
 .have:=(Qz.UC 1000000 (by omega)).1 h;omega
 .have:=(Qz.UC (1000002+k) (by omega)).1 h;omega
def Qm.nj:¬Qm.Al 1000000/\∀k,¬Qm.Al (1000002+k):=by
 refine⟨λh=> ?_,λk h=> ?_⟩
 .have:=(Qm.flag 1000000 (by omega)).1 h;omega
 .have:=(Qm.flag (1000002+k) (by omega)).1 h;omega
def Qz.ns {vb}:¬Qz.Aj vb 1000001:=λh=>by have:=(Qz.UD vb 1000001 (by omega)).1 h;omega
def Qz.QB {vb k:Nat}(h:Qz.Aj vb (1000002+k)):k=vb:=by have:=(Qz.UD vb (1000002+k) (by omega)).1 h;omega
def Qz.aw {N k:Nat}(h:Qz.Ab N (1000002+k)):N<=k:=by have:=(Qz.Br N (1000002+k) (by omega)).1 h;omega
def Qz.nbj {N}:¬Qz.Ab N 1000000:=λh=>by have:=(Qz.Br N 1000000 (by omega)).1 h;omega
def Qw.nf (k:Nat)(a:254<=k):¬Qw.Al k:=λh=>by have:=Vm k h;exact zEy.2 a this
def Qw.nv:¬Qw.Al 1000000/\∀k,¬Qw.Al (1000002+k):=⟨Qw.nf 1000000 (by omega),λk=>Qw.nf (1000002+k) (by omega)⟩
def Qz.Yd:Qz.Al 1000001:=(Qz.UC 1000001 (by omega)).2 (aI rfl)
def Qz.Uw {f}(b:Qz.Al f)(h:Qz.Al (900000+f)):f=219:=by
 have a:=(Qz.UC (900000+f) (zBb (by decide) (zDn _ _))).1 h;obtain a|a:=a
 .exact aEl a
 .exfalso;have e:f=100001:=aEl a;subst e;have:=(Qz.UC 100001 (by omega)).1 b;omega
def Qz.ri {vb}:Qz.Aj vb 1000000:=(Qz.UD vb 1000000 (by omega)).2 (aI (aH rfl))
def Qz.Yc {vb}:Qz.Aj vb (1000002+vb):=(Qz.UD vb (1000002+vb) (by omega)).2 (aI (aI rfl))
def Qz.hasB {N}:Qz.Ab N 1000001/\Qz.Ab N (1000002+N):=⟨(Qz.Br N 1000001 (by omega)).2 (aI (aH rfl)),(Qz.Br N (1000002+N) (by omega)).2 (aI (aI rfl))⟩
def Qm.Yd:Qm.Al 1000001:=(Qm.flag 1000001 (by omega)).2 (aI rfl)
def Qm.Ux:¬Qm.Al 170:=by
 have:(Qm.ck (·==1000001)).al 170=aG:=by kernel_rfl
 intro h;rw[show(Qm.ck (·==1000001)).al 170=aF from h]at this;cases this
def Qm.dj:¬Qm.Al 158:=by
 have:(Qm.ck (·==1000001)).al 158=aG:=by kernel_rfl
 intro h;rw[show(Qm.ck (·==1000001)).al 158=aF from h]at this;cases this
end Go.Proofs
namespace Go.Ren
open Go.Conc (G)
section
variable {P:zZ}{Al:zF}{F:Kp}{π:Rn}{cs cs' own own':zL}{v w:zW}
def nA {fn es e}(h:e∈seen P fn es):e∈es:=Go.Conc.mem_seen h
def cJ.FP {fr fr':zC}(h:cJ P Al F π fr fr'){m a:FrameMode}(b:OZ Al π m a):cJ P Al F π {fr with mode:=m} {fr' with mode:=a}:=
 ⟨h.fn,h.al,h.tmps,h.todo,h.items,h.defers,b,h.kind,h.kinds,h.round,h.pD⟩
def cJ.raise {fr fr'}(h:cJ P Al F π fr fr'){l b}(hl:fZ (Cu Al π) l b):cJ P Al F π (fr.raise l) (fr'.raise b):=by
 have a:=h.mode;unfold Frame.raise;revert a;cases fr.mode<;>cases fr'.mode<;>intro a<;>cases a
 .exact h.FP (.panicking hl)
 .exact h.FP (.panicking hl)
 .rename_i c;exact h.FP (.panicking (hl.append c))
def cJ.finish {fr fr'}(h:cJ P Al F π fr fr'){x A}(B:bG Al π x A):cJ P Al F π (fr.finish x) (fr'.finish A):=by
 obtain⟨fn,tmps,todo,defers,mode,kind,round⟩:=fr;obtain⟨G,p,t,f,q,u,pD⟩:=fr';obtain⟨E,o,e,D,c,n,m,C,g,z,y⟩:=h;dsimp only at*;subst E;subst D;subst C;subst z;subst y;unfold Frame.finish;cases t with
 |nil=>exact⟨rfl,o,e,rfl,c,n,m,rfl,g,rfl,rfl⟩
 |cons i k=>
  cases i with
  |inRegion ops l=>
   cases l with
   |nil=>exact⟨rfl,o,e,rfl,c,n,m,rfl,g,rfl,rfl⟩
   |cons j rest=>
    refine⟨rfl,o,?_,rfl,λi hi=> ?_,n,m,rfl,g,rfl,rfl⟩
    .dsimp only;cases(ops[j]?).bind (·.dst)with
     |none=>exact e
     |some d=>exact e.set B d
    .obtain rfl|hi:=zAg.1 hi
     .exact c (aN ops (j::rest)) (zAy)
     .exact c i (zBc _ hi)
  |inRangeFunc l=>exact(c _ (zAy)).elim
  |beginRound=>exact(c _ (zAy)).elim
  |call d b r s=>exact(c _ (zAy)).elim
  |extern r a=>exact(c _ (zAy)).elim
  |_=>exact⟨rfl,o,e,rfl,c,n,m,rfl,g,rfl,rfl⟩
def cJ.enter (B:cB P Al F){f}(b:Al f){a x}(d:aZ Al π a x){k}(e:k= .normal\/k= .deferred):cJ P Al F π (Frame.enter P f a k) (Frame.enter P f x k):=by
 unfold Frame.enter;refine⟨rfl,b,?_,rfl,λi hi=> ?_,.nil,.run,rfl,e,rfl,rfl⟩
 .dsimp only;rw[d.size];exact d.append (aZ.replicate dU _)
 .simp only[zAm]at hi;subst hi;cases h:P.funcs[f]? with
  |none=>trivial
  |some fn=>
   cases hb:fn.body with
   |none=>simp only[zEb,hb,Option.getD_none];trivial
   |some c=>simp only[zEb,hb,zCv];exact B.body f fn c b h hb
def Hx (B:cB P Al F)(N:bQ P Al F π v w){fr fr'}(D:cJ P Al F π fr fr')(Q:fZ (cJ P Al F π) own own'){s s'}(hs:bN P Al F (HU Al) π s s'):
  Stepped P Al F π cs cs' v w (stepG.apply P aF fr (own++cs) aB s v) (stepG.apply P aF fr' (own'++cs') aB s' w):=by
 have m:(fr'.kind== .early)=aG:=by rw[D.kind];obtain h|h:=D.kinds<;>rw[h]<;>rfl
 have E:=D.items;unfold stepG.apply;rw[D.todo];simp only[zCs];obtain(⟨hl,W,z,e,A⟩|⟨f,G⟩)|⟨p,j,w1,z,d,h1,t,S,R⟩:=hs.runT v w #[] #[] N
 .rw[e];obtain⟨L,rfl⟩|⟨u,rfl,hu⟩:=A
  .exact aH ⟨_,_,_,rfl⟩
  .cases u with
   |initOrder g=>exact absurd rfl (hu g)
   |_=>exact aH ⟨_,_,_,rfl⟩
 .obtain⟨a,b,p,j,z,r1,q⟩|⟨x,j,z,r1⟩:=G
  .rw[r1]at f⊢;cases q with
   |value I=>exact aI (aH ⟨_,own,j,_,rfl,f⟩)
   |skip=>exact aI (aH ⟨_,own,j,_,rfl,f⟩)
   |enter C K=>exact aI (aH ⟨_,fr::own,j,_,rfl,f⟩)
   |defer J=>exact aI (aH ⟨_,own,j,_,rfl,f⟩)
  .rw[r1]at f⊢;exact aI (aH ⟨_,own,j,_,rfl,f⟩)
 .have n:∀e∈seen P fr'.fn d,mC F p e:=λe o=>S e (nA o);have l:=Q.imp λa b (h:cJ P Al F π a b)=>h.mono t.sub;have c:=D.mono t.sub;obtain⟨a,b,r1,r2,q⟩|⟨x,V,r1,r2,M⟩:=R
  .rw[r1,r2];simp only[zCe];cases q with
   | @value y U I=>exact aI (aI ⟨p,_,j,_,_,w1,_,rfl,rfl,⟨_,_,own,own',rfl,rfl,c.finish I,l⟩,h1,t,λe o=>n e (by simpa [m]using o)⟩)
   |skip=>exact aI (aI ⟨p,_,j,_,_,w1,_,rfl,rfl,⟨_,_,own,own',rfl,rfl,c.finish dU,l⟩,h1,t,λe o=>n e (by simpa [m]using o)⟩)
   |enter C K=>
    refine aI (aI ⟨p,_,j,_,_,w1,_,rfl,rfl,⟨_,_,fr::own,fr'::own',rfl,rfl,cJ.enter B C K ?_,.cons c l⟩,h1,t,λe o=>n e (by simpa [m]using o)⟩);left;cases O:fr.todo with
    |nil=>rfl
    |cons i k=>
     cases i with
     |call d b r s=>exact False.elim (E (.call d b r s) (by rw[O];exact zAy))
     |_=>rfl
   | @defer T H J=>refine aI (aI ⟨p,_,j,_,_,w1,_,rfl,rfl,⟨_,_,own,own',rfl,rfl,cJ.finish (fr:={fr with defers:=T::fr.defers}) (fr':={fr' with todo:=fr.todo,defers:=H::fr'.defers}) ⟨c.fn,c.al,c.tmps,rfl,c.items,.cons J c.defers,c.mode,c.kind,c.kinds,c.round,c.pD⟩ dU,l⟩,h1,t,λe o=>n e (by simpa [m]using o)⟩)
  .rw[r1,r2];simp only[zCe];exact aI (aI ⟨p,_,j,_,_,w1,_,rfl,rfl,⟨_,_,own,own',rfl,rfl,c.raise (.cons ⟨M,rfl,rfl⟩ .nil),l⟩,h1,t,λe o=>n e (by simpa [m]using o)⟩)
def oE {t b}(h:aZ Al π t b)(ops)(j):yielded ops b j=yielded ops t j:=by
 unfold yielded;cases(ops[j]?).bind (·.dst)with
 |none=>rfl
 |some d=>simp only[zEb];obtain⟨a,e⟩|⟨x,c,a,e,g⟩:=h.get d;{rw[a,e]};{rw[a,e];cases g<;>first|rfl|(rename_i f;cases c<;>first|exact f.elim|rfl)}
def Nh (B:cB P Al F)(D:bQ P Al F π v w){fr fr':zC}(S:cJ P Al F π fr fr')(R:fr.mode= .run)(I:fZ (cJ P Al F π) own own')(mn J:Bool)(hq:rE P F fr:=by first|assumption|exact xO (λ_ h=>h))(hs:nZ Al fr:=by first|assumption|exact jG (by assumption)):
  Stepped P Al F π cs cs' v w (stepG P mn (G fr (own++cs)) v) (stepG P J (G fr' (own'++cs')) w):=by
 have Z:=D.ok;have L:=λx hx=>S.eval Z x hx;have hap:=λ{s s':Sem Next} (h:bN P Al F (HU Al) π s s')=>Hx (cs:=cs) (cs':=cs') B D S I h;have K:=λ{x x':zY} (h:bG Al π x x')=>S.finish h;obtain⟨fn,tmps,todo,defers,mode,kind,round⟩:=fr;obtain⟨n,C,A,q,V,e,pD⟩:=fr';obtain⟨U,T,h3,h4,M,h6,h7,h8,h9,O,N⟩:=S;dsimp only at U T h3 h4 M h6 h7 h8 h9 O N R;subst U;subst h4;subst h8;subst O;subst N;subst R;cases h7;have mk:∀(k:zI),(∀i∈k,kM P Al F i)->∀m W,OZ Al π m W->cJ P Al F π ⟨n,tmps,k,defers,m,e,aB⟩ ⟨n,C,k,q,W,e,aB⟩:=
  λk z m W R=>⟨rfl,T,h3,rfl,z,h6,R,rfl,h9,rfl,rfl⟩
 show Stepped P Al F π cs cs' v w (stepG.exec P mn aF ⟨n,tmps,A,defers,.run,e,aB⟩ (own++cs) aB v) (stepG.exec P J aF ⟨n,C,A,q,.run,e,aB⟩ (own'++cs') aB w);cases A with
 |nil=>exact Stepped.same D (mk [] M _ _ .returning) I
 |cons i k=>
  have z:∀j∈k,kM P Al F j:=λj g=>M j (zBc _ g);have hi:=M i zAy;have to:∀(H:zI),(∀i∈H,kM P Al F i)->Stepped P Al F π cs cs' v w (.go (G ⟨n,tmps,H,defers,.run,e,aB⟩ (own++cs)) v) (.go (G ⟨n,C,H,q,.run,e,aB⟩ (own'++cs')) w):=
   λH hk'=>Stepped.same D (mk H hk' _ _ .run) I
  cases i with
  |code c=>
   cases c with
   |ret=>exact Stepped.same D (mk _ M _ _ .returning) I
   |skip=>exact to k z
   |label l=>exact to k z
   |seq a b=>exact to _ (by intro j g;obtain rfl|g:=zAg.1 g;exact hi.1;obtain rfl|g:=zAg.1 g;exact hi.2;exact z j g)
   |cond c a b=>
    have hc:=L c hi.1;unfold stepG.exec;dsimp only;generalize Frame.eval _ c=x at hc⊢;generalize Frame.eval _ c=x' at hc⊢;cases hc with
    |bool t=>
     refine to _ ?_;intro j g;obtain rfl|g:=zAg.1 g
     .cases t
      .exact hi.2.2
      .exact hi.2.1
     .exact z j g
    |_=>exact Stepped.ended
   |block id b=>exact to _ (by intro j g;obtain rfl|g:=zAg.1 g;exact hi;obtain rfl|g:=zAg.1 g;trivial;exact z j g)
   |loop b=>exact to _ (by intro j g;obtain rfl|g:=zAg.1 g;exact hi;obtain rfl|g:=zAg.1 g;exact hi;exact z j g)
   |scope b=>exact to _ (by intro j g;obtain rfl|g:=zAg.1 g;exact hi;obtain rfl|g:=zAg.1 g;exact hi;exact z j g)
   |exit id=>
    unfold stepG.exec;dsimp only;cases he:exitTo id k with
    |none=>exact Stepped.ended
    |some H=>exact to H λj g=>z j (YY he j g)
   |goto l=>
    unfold stepG.exec;dsimp only;cases he:gotoIn l k with
    |none=>exact Stepped.ended
    |some H=>exact to H (Gm z he)
   |rangeFunc f p a b=>exact hi.elim
   |refuse zv=>exact Stepped.ended
   |region id ops draw=>
    cases draw with
    |false=>exact to _ (by intro j g;obtain rfl|g:=zAg.1 g;exact hi;exact z j g)
    |true=>
     have Q:∀(u:zW)(c:zL)(t:zA)(d:List Deferred)(m:Bool),stepG.exec P m aF ⟨n,t,.code (.region id ops aF)::k,d,.run,e,aB⟩ c aB u=
       .go (G ⟨n,t,aN ops (Region.schedule (P.follows .mixedOrders) ops (Question.cut (.order n id) (u.tape u.drawn (.order n id))))::k,d,.run,e,aB⟩ c) {u with drawn:=u.drawn+1}:=λu c t d m=>rfl
     rw[Q,Q];by_cases hl:F.upto v.drawn
     .refine aI (aI ⟨π,_,_,_,_,_,_,rfl,rfl,⟨_,_,own,own',rfl,?_,mk _ ?_ _ _ .run,I⟩,⟨D.ok,D.blk,λk z=>by have:=D.tape (k+1) (by rw[zGd k 1,<-zCh];exact z);rw[zGd k 1,<-zCh,<-zCh]at this;exact this,D.fresh,D.low,D.os,D.rows⟩,⟨λ_ _ x=>x,zAb _,zAb _,λ_ _ _=>rfl,λ_ _ x=>aH x,rfl,rfl,rfl,rfl,rfl,rfl,⟨1,rfl,rfl⟩,λx y=>⟨x,y⟩,λ_ _ _=>rfl,λb U T=>absurd T (zEy.2 U)⟩,by simp⟩)
      .have e0:w.tape w.drawn=v.tape v.drawn:=D.tape 0 hl;rw[e0]
      .intro j g;obtain rfl|g:=zAg.1 g
       .exact hi
       .exact z j g
     .obtain⟨u,hu⟩:=zFb.1 hl;obtain⟨Y,hu2⟩:=Classical.not_imp.1 hu;exact aI (aH ⟨_,own,_,_,rfl,u,Y,by show u<v.drawn+1;omega⟩)
  |inBlock id=>exact to k z
  |inScope b=>exact to k z
  |inLoop b=>exact to _ (by intro j g;obtain rfl|g:=zAg.1 g;exact hi;obtain rfl|g:=zAg.1 g;exact hi;exact z j g)
  |inRegion ops l=>
   cases l with
   |nil=>exact to k z
   |cons j rest=>
    have Q:∀(u:zW)(c:zL)(t:zA)(d:List Deferred)(m:Bool),stepG.exec P m aF ⟨n,t,aN ops (j::rest)::k,d,.run,e,aB⟩ c aB u=
      if(((ops[j]?).map (Region.wanted · (yielded ops t))).getD aG)=aF then stepG.oper P aF ⟨n,t,aN ops (j::rest)::k,d,.run,e,aB⟩ c aB u
      else .go (G (Frame.finish ⟨n,t,aN ops (j::rest)::k,d,.run,e,aB⟩ undef) c) u:=λu c t d m=>rfl
    rw[Q,Q];have ey:=funext (oE h3 ops);rw[ey];split
    .rename_i X;cases E:ops[j]? with
     |none=>refine aH ?_;simp[stepG.oper,Frame.oper?,E]
     |some o=>
      have e2:∀(u:zW)(c:zL)(t:zA)(d:List Deferred),stepG.oper P aF ⟨n,t,aN ops (j::rest)::k,d,.run,e,aB⟩ c aB u=
        stepG.apply P aF ⟨n,t,aN ops (j::rest)::k,d,.run,e,aB⟩ c aB (execOp (Frame.eval ⟨n,t,aN ops (j::rest)::k,d,.run,e,aB⟩) o) u:=λu c t d=>by
       unfold stepG.oper
       simp only[Frame.oper?,E]
      rw[e2,e2];exact hap (DZ B.met (hi o (zBj E)) (hq rfl _ _ _ _ _ rfl E) (hs rfl _ _ _ _ _ rfl E (by simpa [E]using X)) L)
    .exact Stepped.same D (K dU) I
  |inRangeFunc l=>exact hi.elim
  |endRangeFunc l=>exact hi.elim
  |beginRound=>exact hi.elim
  |call d b r s=>exact hi.elim
  |extern r a=>exact hi.elim
end
section
variable {P:zZ}{Al:zF}{F:Kp}{π:Rn}{cs cs' own own':zL}{v w:zW}
def FW {t c}(h:aZ Al π t c)(i):bG Al π (t.getD i undef) (c.getD i undef):=by
 obtain⟨b,e⟩|⟨a,f,b,e,d⟩:=h.get i
 .simp only[zAu,b,e];exact dU
 .simp only[zAu,b,e];exact d
def gY (fn){π} [ok:Ok P π] {t d}(h:aZ Al π t d):bN P Al F (VR Al) π (results fn t) (results fn d):=by
 refine aS (aj Al) ?_ ?_
 .rw[zFc,zFc];have k:∀(l:List ResultVar){π:Rn} [Ok P π] {t d:zA},aZ Al π t d->bN P Al F (λg (a b:zV)=>aZ Al g a.toArray b.toArray) π
    (l.mapM λ| .tmp x=>pure (t.getD x undef)| .cell a ty=>do loadVar ty (<-asAddr (t.getD a undef)))
    (l.mapM λ| .tmp x=>pure (d.getD x undef)| .cell a ty=>do loadVar ty (<-asAddr (d.getD a undef))):=by
   intro l
   induction l with
   |nil=>intro π ok t d h;exact aT .nil
   |cons r l u=>
    intro π ok t d h;rw[List.mapM_cons,List.mapM_cons];refine aS (VR Al) ?_ ?_
    .cases r with
     |tmp x=>exact aT (FW h x)
     |cell a ty=>refine aS _ (EC (FW h a)) ?_;intro g x q ok j m;exact AU m ty
    .intro g x q ok j m;refine aS _ (u (h.mono j)) ?_;intro y l s ok n hl;refine aT ⟨by have:=hl.size;simp at this⊢;exact this,λi a b p o=> ?_⟩;cases i with
     |zero=>simp at p o;subst p;subst o;exact m.mono n
     |succ i=>exact hl.at' i a b (by simpa using p) (by simpa using o)
  refine aS _ (k fn.results.toList h) ?_;intro g l s ok j hl;exact aT hl
 .intro g a b ok j c;refine aT ?_;have e:=c.size;by_cases f:a.size=1
  .rw[dif_pos f,dif_pos (by rw[e,f])];exact c.at' 0 _ _ (by simp[f]) (by simp[e,f])
  .rw[dif_neg f,dif_neg (by rw[e];exact f)];exact .tuple c.size c.at'
def xR (K:bQ P Al F π v w){fr fr' c c'}(u:cJ P Al F π fr fr')(d:cJ P Al F π c c')(M:fZ (cJ P Al F π) own own')(A i){x q}(D:bG Al π x q):
  ∃f y,doReturn P A fr (c::(own++cs)) aB x v= .go (G f (own++cs)) v/\doReturn P i fr' (c'::(own'++cs')) aB q w= .go (G y (own'++cs')) w/\cJ P Al F π f y:=by
 unfold doReturn;rw[u.kind];obtain h|h:=u.kinds
 .rw[h];exact⟨_,_,rfl,rfl,d.finish D⟩
 .rw[h];refine⟨_,_,rfl,rfl,?_⟩;have j:=d.mode;revert j;generalize n:c.mode=m;generalize e:c'.mode=B;intro j;cases j with
  |run=>exact d
  |returning=>exact d
  |panicking hl=>
   cases hl with
   |nil=>exact d
   | @cons a J l t h1 E=>
    obtain⟨O,Q,R⟩:=a;obtain⟨H,p,I⟩:=J;obtain⟨z,s,r⟩:=h1;dsimp only at z s r;subst s;subst r;cases p with
    |false=>exact d
    |true=>
     dsimp only;clear n e;have k:fZ (Cu Al π) (l.dropWhile (!·.goexit)) (t.dropWhile (!·.goexit)):=by
      induction E with
      |nil=>exact .nil
      | @cons b N m B g o C=>simp only[List.dropWhile_cons];rw[g.goexit];split;{exact C};{exact .cons g o}
     generalize l.dropWhile (!·.goexit)=L at k;generalize t.dropWhile (!·.goexit)=S at k;cases k with
     |nil=>exact d.FP .returning
     |cons g o=>exact d.FP (.panicking (.cons g o))
def AD (B:cB P Al F)(R:bQ P Al F π v w){fr fr'}(L:cJ P Al F π fr fr')(N:fZ (cJ P Al F π) own own'){d S}(C:II Al π d S):
  Stepped P Al F π cs cs' v w (callDeferred P fr (own++cs) aB d v) (callDeferred P fr' (own'++cs') aB S w):=by
 have V:=R.ok;have z:=(DV B.met C).runT v w #[] #[] R;cases C;case fn f r xs U T M X A=>
  unfold callDeferred
  simp only[Bool.false_and,zBe,↓reduceIte]
  obtain(⟨hl,Q,q,e,s⟩|⟨c,y⟩)|⟨n,g,w1,q,K,h1,p,J,I⟩:=z
  .rw[e];obtain⟨D,rfl⟩|⟨u,rfl,hu⟩:=s
   .exact aH ⟨_,_,_,rfl⟩
   .exact aH ⟨_,_,_,rfl⟩
  .obtain⟨a,b,n,g,q,r1,o⟩|⟨x,g,q,r1⟩:=y
   .rw[r1]at c⊢;cases o with
    |value G=>exact aI (aH ⟨_,own,g,_,rfl,c⟩)
    |skip=>exact aI (aH ⟨_,own,g,_,rfl,c⟩)
    |enter r A=>exact aI (aH ⟨_,fr::own,g,_,rfl,c⟩)
    |defer C=>exact aI (aH ⟨_,own,g,_,rfl,c⟩)
   .rw[r1]at c⊢;exact aI (aH ⟨_,own,g,_,rfl,c⟩)
  .have k:∀e∈seen P fr'.fn K,mC F n e:=λe l=>J e (nA l);have i:=N.imp λa b (h:cJ P Al F π a b)=>h.mono p.sub;have j:=L.mono p.sub;obtain⟨a,b,r1,r2,o⟩|⟨x,O,r1,r2,E⟩:=I
   .rw[r1,r2];simp only[zCe];cases o with
    |value G=>exact aI (aI ⟨n,_,g,_,_,w1,_,rfl,rfl,⟨_,_,own,own',rfl,rfl,j,i⟩,h1,p,λe l=>k e (by simpa using l)⟩)
    |skip=>exact aI (aI ⟨n,_,g,_,_,w1,_,rfl,rfl,⟨_,_,own,own',rfl,rfl,j,i⟩,h1,p,λe l=>k e (by simpa using l)⟩)
    |enter r A=>exact aI (aI ⟨n,_,g,_,_,w1,_,rfl,rfl,⟨_,_,fr::own,fr'::own',rfl,rfl,cJ.enter B r A (aI rfl),.cons j i⟩,h1,p,λe l=>k e (by simpa using l)⟩)
    |defer C=>exact aI (aI ⟨n,_,g,_,_,w1,_,rfl,rfl,⟨_,_,own,own',rfl,rfl,j,i⟩,h1,p,λe l=>k e (by simpa using l)⟩)
   .rw[r1,r2];simp only[zCe];exact aI (aI ⟨n,_,g,_,_,w1,_,rfl,rfl,⟨_,_,own,own',rfl,rfl,j.raise (.cons ⟨E,rfl,rfl⟩ .nil),i⟩,h1,p,λe l=>k e (by simpa using l)⟩)
 case nil T M A=>
  have t:=L.mode
  generalize y:fr.mode=m at t
  generalize H:fr'.mode=W at t
  unfold callDeferred
  rw[y,H]
  cases t
  case run=>
   simp only[Bool.and_false,zBe,↓reduceIte]
   obtain(⟨hl,Q,q,e,s⟩|⟨c,y⟩)|⟨n,g,w1,q,K,h1,p,J,I⟩:=z
   .rw[e];obtain⟨D,rfl⟩|⟨u,rfl,hu⟩:=s
    .exact aH ⟨_,_,_,rfl⟩
    .exact aH ⟨_,_,_,rfl⟩
   .obtain⟨a,b,n,g,q,r1,o⟩|⟨x,g,q,r1⟩:=y
    .rw[r1]at c⊢;cases o with
     |value G=>exact aI (aH ⟨_,own,g,_,rfl,c⟩)
     |skip=>exact aI (aH ⟨_,own,g,_,rfl,c⟩)
     |enter r A=>exact aI (aH ⟨_,fr::own,g,_,rfl,c⟩)
     |defer C=>exact aI (aH ⟨_,own,g,_,rfl,c⟩)
    .rw[r1]at c⊢;exact aI (aH ⟨_,own,g,_,rfl,c⟩)
   .have k:∀e∈seen P fr'.fn K,mC F n e:=λe l=>J e (nA l);have i:=N.imp λa b (h:cJ P Al F π a b)=>h.mono p.sub;have j:=L.mono p.sub;obtain⟨a,b,r1,r2,o⟩|⟨x,O,r1,r2,E⟩:=I
    .rw[r1,r2];simp only[zCe];cases o with
     |value G=>exact aI (aI ⟨n,_,g,_,_,w1,_,rfl,rfl,⟨_,_,own,own',rfl,rfl,j,i⟩,h1,p,λe l=>k e (by simpa using l)⟩)
     |skip=>exact aI (aI ⟨n,_,g,_,_,w1,_,rfl,rfl,⟨_,_,own,own',rfl,rfl,j,i⟩,h1,p,λe l=>k e (by simpa using l)⟩)
     |enter r A=>exact aI (aI ⟨n,_,g,_,_,w1,_,rfl,rfl,⟨_,_,fr::own,fr'::own',rfl,rfl,cJ.enter B r A (aI rfl),.cons j i⟩,h1,p,λe l=>k e (by simpa using l)⟩)
     |defer C=>exact aI (aI ⟨n,_,g,_,_,w1,_,rfl,rfl,⟨_,_,own,own',rfl,rfl,j,i⟩,h1,p,λe l=>k e (by simpa using l)⟩)
    .rw[r1,r2];simp only[zCe];exact aI (aI ⟨n,_,g,_,_,w1,_,rfl,rfl,⟨_,_,own,own',rfl,rfl,j.raise (.cons ⟨E,rfl,rfl⟩ .nil),i⟩,h1,p,λe l=>k e (by simpa using l)⟩)
  case returning=>
   simp only[Bool.and_false,zBe,↓reduceIte]
   obtain(⟨hl,Q,q,e,s⟩|⟨c,y⟩)|⟨n,g,w1,q,K,h1,p,J,I⟩:=z
   .rw[e];obtain⟨D,rfl⟩|⟨u,rfl,hu⟩:=s
    .exact aH ⟨_,_,_,rfl⟩
    .exact aH ⟨_,_,_,rfl⟩
   .obtain⟨a,b,n,g,q,r1,o⟩|⟨x,g,q,r1⟩:=y
    .rw[r1]at c⊢;cases o with
     |value G=>exact aI (aH ⟨_,own,g,_,rfl,c⟩)
     |skip=>exact aI (aH ⟨_,own,g,_,rfl,c⟩)
     |enter r A=>exact aI (aH ⟨_,fr::own,g,_,rfl,c⟩)
     |defer C=>exact aI (aH ⟨_,own,g,_,rfl,c⟩)
    .rw[r1]at c⊢;exact aI (aH ⟨_,own,g,_,rfl,c⟩)
   .have k:∀e∈seen P fr'.fn K,mC F n e:=λe l=>J e (nA l);have i:=N.imp λa b (h:cJ P Al F π a b)=>h.mono p.sub;have j:=L.mono p.sub;obtain⟨a,b,r1,r2,o⟩|⟨x,O,r1,r2,E⟩:=I
    .rw[r1,r2];simp only[zCe];cases o with
     |value G=>exact aI (aI ⟨n,_,g,_,_,w1,_,rfl,rfl,⟨_,_,own,own',rfl,rfl,j,i⟩,h1,p,λe l=>k e (by simpa using l)⟩)
     |skip=>exact aI (aI ⟨n,_,g,_,_,w1,_,rfl,rfl,⟨_,_,own,own',rfl,rfl,j,i⟩,h1,p,λe l=>k e (by simpa using l)⟩)
     |enter r A=>exact aI (aI ⟨n,_,g,_,_,w1,_,rfl,rfl,⟨_,_,fr::own,fr'::own',rfl,rfl,cJ.enter B r A (aI rfl),.cons j i⟩,h1,p,λe l=>k e (by simpa using l)⟩)
     |defer C=>exact aI (aI ⟨n,_,g,_,_,w1,_,rfl,rfl,⟨_,_,own,own',rfl,rfl,j,i⟩,h1,p,λe l=>k e (by simpa using l)⟩)
    .rw[r1,r2];simp only[zCe];exact aI (aI ⟨n,_,g,_,_,w1,_,rfl,rfl,⟨_,_,own,own',rfl,rfl,j.raise (.cons ⟨E,rfl,rfl⟩ .nil),i⟩,h1,p,λe l=>k e (by simpa using l)⟩)
  case panicking=>exact Stepped.ended
end
section
variable {P:zZ}{Al:zF}{F:Kp}{π:Rn}{cs cs' own own':zL}{v w:zW}
def lB {fr:zC}(h:∀i∈fr.todo,kM P Al F i):fr.catches P=aG:=by
 unfold Frame.catches;cases P.funcs[fr.fn]? with
 |some fn=>rfl
 |none=>
  cases a:fr.todo with
  |nil=>rfl
  |cons i k=>
   cases i with
   |call d b r s=>exact False.elim (h (.call d b r s) (by rw[a];exact zAy))
   |_=>rfl
def UJ {fr}(a:fr.kind= .normal\/fr.kind= .deferred)(c)(rest)(m)(x)(u):∃f,doReturn P m fr (c::rest) aB x u= .go (G f rest) u:=by unfold doReturn;obtain h|h:=a<;>rw[h]<;>exact⟨_,rfl⟩
def VX (B:cB P Al F)(t:bQ P Al F π v w){fr fr'}(g:cJ P Al F π fr fr')(R:fr.mode≠.run)(n:fZ (cJ P Al F π) own own')(k:fr.defers≠[]\/own≠[])(G p):
  Stepped P Al F π cs cs' v w (unwind P G fr (own++cs) aB v) (unwind P p fr' (own'++cs') aB w):=by
 have V:=t.ok;have M:=g.defers;unfold unwind;generalize Z:fr.defers=l at M k;generalize Y:fr'.defers=l' at M;cases M with
 | @cons d d' ds Q r q=>
  have J:cJ P Al F π {fr with defers:=ds} {fr' with defers:=Q}:=⟨g.fn,g.al,g.tmps,g.todo,g.items,q,g.mode,g.kind,g.kinds,g.round,g.pD⟩;have:=AD (cs:=cs) (cs':=cs') B t J n r.rel;obtain⟨r,_⟩:=r;cases r with
  |fn X H ha=>exact this
  |nil ha=>exact this
 |nil=>
  cases n with
  |nil=>obtain h|h:=k<;>exact absurd rfl h
  | @cons c c' o j H n=>
   have i:=g.mode;generalize A:fr.mode=m at i R;generalize S:fr'.mode=m' at i;cases i with
   |run=>exact absurd rfl R
   |panicking hl=>dsimp only;rw[lB g.items,lB (by rw[g.todo];exact g.items)];exact Stepped.same t (H.raise hl) n
   |returning=>
    dsimp only;rw[g.fn];cases W:P.funcs[fr.fn]? with
    |none=>obtain⟨f,T,E,O,N⟩:=xR t g H n G p (FW g.tmps 0);dsimp only;rw[zBx,zBx,E,O];exact Stepped.same t N n
    |some fn=>
     dsimp only;obtain(⟨hl,v',s,e,C⟩|⟨z,A⟩)|⟨I,y,w1,s,d,r,q,h3,h4⟩:=(gY fn g.tmps).runT v w #[] #[] t
     .rw[e];obtain⟨U,rfl⟩|⟨u,rfl,hu⟩:=C
      .exact aH ⟨_,_,_,rfl⟩
      .exact aH ⟨_,_,_,rfl⟩
     .obtain⟨a,b,I,y,s,r1,D⟩|⟨x,y,s,r1⟩:=A
      .rw[r1]at z⊢;obtain⟨f,E⟩:=UJ (P:=P) g.kinds c (o++cs) G a y;simp only[zBx,E];exact aI (aH ⟨f,o,y,_,rfl,z⟩)
      .rw[r1];exact aH ⟨_,_,_,rfl⟩
     .have K:∀e∈seen P fr.fn d,mC F I e:=λe L=>h3 e (nA L);obtain⟨a,b,r1,r2,D⟩|⟨x,x',r1,r2,hx⟩:=h4
      .rw[r1,r2];simp only[zCe,zBx];obtain⟨f,T,E,O,N⟩:=xR r (g.mono q.sub) (H.mono q.sub) (n.imp λa b (h:cJ P Al F π a b)=>h.mono q.sub) G p D;rw[E,O];exact aI (aI ⟨I,_,y,_,_,w1,_,rfl,rfl,⟨f,T,o,j,rfl,rfl,N,n.imp λa b (h:cJ P Al F π a b)=>h.mono q.sub⟩,r,q,λe L=>K e (by simpa using L)⟩)
      .rw[r1];exact aH ⟨_,_,_,rfl⟩
def vS (B:cB P Al F)(l:bQ P Al F π v w){fr fr':zC}(i:cJ P Al F π fr fr')(n:fZ (cJ P Al F π) own own')(e:fr.mode= .run\/fr.defers≠[]\/own≠[])(d a:Bool)(o:rE P F fr:=by first|assumption|exact xO (λ_ h=>h))(hs:nZ Al fr:=by first|assumption|exact jG (by assumption)):
  Stepped P Al F π cs cs' v w (stepG P d (G fr (own++cs)) v) (stepG P a (G fr' (own'++cs')) w):=by
 by_cases f:fr.mode= .run
 .exact Nh B l i f n d a o hs
 .have hs:=e.resolve_left f;have:=VX (cs:=cs) (cs':=cs') B l i f n hs d a;have b:=i.mode;generalize g:fr.mode=m at b f;generalize c:fr'.mode=p at b;cases b with
  |run=>exact absurd rfl f
  |returning=>have k:stepG P d (G fr (own++cs)) v=unwind P d fr (own++cs) aB v:=by{simp only[stepG,G,g]};have j:stepG P a (G fr' (own'++cs')) w=unwind P a fr' (own'++cs') aB w:=by{simp only[stepG,G,c]};rw[k,j];exact this
  |panicking hl=>have k:stepG P d (G fr (own++cs)) v=unwind P d fr (own++cs) aB v:=by{simp only[stepG,G,g]};have j:stepG P a (G fr' (own'++cs')) w=unwind P a fr' (own'++cs') aB w:=by{simp only[stepG,G,c]};rw[k,j];exact this
end
end Go.Ren
namespace Go
def World.re (w:zW)(a:zT)(d:Nat):zW:={w with tape:=a,drawn:=d}
end Go
namespace Go.Ren
open Go.Conc (G)
def cC (D:zP):Rn:=λb a=>b=a/\D b
def K0:Kp:=⟨λ_=>False,aB,False⟩
def Pf (n:Nat):Kp:=⟨λ_=>False,aA n,False⟩
section
variable {P:zZ}{Al:zF}
def GV {R:zY->zY->Prop}{a b:zA}(hs:b.size=a.size)(h:∀(i:Nat)(v v'),a[i]? =aA v->b[i]? =aA v'->v=v'):a=b:=by
 apply zBz;intro i;by_cases hi:i<a.size
 .have c:i<b.size:=by{rw[hs];exact hi};have:=h i a[i] b[i] (by simp[hi]) (by simp[c]);simp[hi,c,this]
 .have c:¬i<b.size:=by{rw[hs];exact hi};simp[hi,c]
def CQ {ρ}(c:∀b b',ρ b b'->b=b'){a a'}(h:bU ρ a a'):a=a':=by obtain⟨d,f,e⟩:=h;have:=c _ _ d;cases a;cases a';simp_all
def MP (f:¬Al 1000000/\∀k,¬Al (1000002+k)){ρ}(a:∀b b',ρ b b'->b=b'){x e}(h:bG Al ρ x e):x=e:=by
 induction h with
 |pointer y=>cases y with
  |none=>rfl
  |some y=>rw[CQ a y]
 |slice y n c=>cases y with
  |none=>rfl
  |some y=>rw[CQ a y]
 |func m d l _ _ _ i3 i4=>rw[GV (R:=λ_ _=>True) d i3,GV (R:=λ_ _=>True) l i4]
 |iface t _ i=>rw[i]
 |agg d _ i=>rw[GV (R:=λ_ _=>True) d i]
 |tuple d _ i=>rw[GV (R:=λ_ _=>True) d i]
 |junk j _=>exact absurd j f.1
 |void g _=>exact absurd g (f.2 _)
 |_=>rfl
def rT (g:¬Al 1000000/\∀k,¬Al (1000002+k)){ρ}(a:∀b b',ρ b b'->b=b'){x d}(h:aZ Al ρ x d):x=d:=GV (R:=λ_ _=>True) h.size λi v e f c=>MP g a (h.at' i v e f c)
def xC {α:Type}{R:α->α->Prop}(h:∀a b,R a b->a=b):∀{l c:List α},fZ R l c->l=c
 |_,_,.nil=>rfl
 |_,_,.cons x y=>by rw[h _ _ x,xC h y]
def CJ (d:¬Al 1000000/\∀k,¬Al (1000002+k)){F ρ}(c:∀b b',ρ b b'->b=b'){f f'}(h:cJ P Al F ρ f f'):f=f':=by
 obtain⟨y,H,x,w,G,v,u,s,E,n,l⟩:=h;obtain⟨fn,tmps,todo,defers,mode,kind,round⟩:=f;obtain⟨z,g,t,e,m,i,pD⟩:=f';dsimp only at*;subst y;subst w;subst s;subst n;subst l;have C:=rT d c x;have B:=xC (λa b (h:IG Al ρ a b)=>by
  obtain⟨h,_⟩:=h;cases h with
  |fn D r j=>rw[rT d c r,rT d c j]
  |nil j=>rw[rT d c j]) v
 have A:mode=m:=by
  cases u with
  |run=>rfl
  |returning=>rfl
  |panicking hl=>
   congr 1;exact xC (λa b (h:Cu Al ρ a b)=>by obtain⟨K,L,M⟩:=a;obtain⟨bv,I,J⟩:=b;obtain⟨p,o,q⟩:=h;dsimp only at p o q;rw[MP d c p,o,q]) hl
 subst C;subst B;subst A;rfl
structure Closed (P:zZ)(Al:zF)(D:zP)(fr:zC)(own:zL)(v:zW):Prop where
 frame:cJ P Al K0 (cC D) fr fr
 own:fZ (cJ P Al K0 (cC D)) own own
 world:bQ P Al K0 (cC D) v v
 nj:¬Al 1000000/\∀k,¬Al (1000002+k)
def SK {o n}(h:OW P Al K0 o):OW P Al (Pf n) o:=by
 obtain⟨d,a⟩:=h;refine⟨d,?_⟩;revert a;cases o.op<;>intro a<;>first|exact a|skip
 exact⟨a.ptr,λ_=>aH λb c=>c,a.float,a.complex,a.dh,a.rune⟩
def vD {n}:∀{c},lE P Al K0 c->lE P Al (Pf n) c:=by
 intro c;induction c with
 |region id ops d=>intro h o j;exact SK (h o j)
 |seq a b e i=>intro h;exact⟨e h.1,i h.2⟩
 |cond c a b e i=>intro h;exact⟨h.1,e h.2.1,i h.2.2⟩
 |block id b g=>intro h;exact g h
 |loop b g=>intro h;exact g h
 |scope b g=>intro h;exact g h
 |rangeFunc f p a b=>intro h;exact h.elim
 |_=>intro _;trivial
def YN {n i}(h:kM P Al K0 i):kM P Al (Pf n) i:=by
 cases i with
 |code c=>exact vD h
 |inLoop c=>exact vD h
 |inScope c=>exact vD h
 |inBlock _=>trivial
 |inRegion ops l=>exactλo a=>SK (h o a)
 |_=>exact h.elim
def TY {n:Nat}{π:Rn}{f f':zC}(h:cJ P Al K0 π f f'):cJ P Al (Pf n) π f f':=
 ⟨h.fn,h.al,h.tmps,h.todo,λi hi=>YN (h.items i hi),h.defers,h.mode,h.kind,h.kinds,h.round,h.pD⟩
def fW {F D v}(h:bQ P Al K0 (cC D) v v)(hF:∀b,¬F b)(i a)(d j)(m:∀k,F.upto (d+k)->a (j+k)=i (d+k)):
  bQ P Al F (cC D) (v.re i d) (v.re a j):=by
 refine⟨h.ok,λb q e=> ?_,m,λb e=>absurd e (hF b),h.low,rfl,λb e=>absurd e (hF b)⟩;obtain⟨c,c',ty,fr,f,p,o,n,g4,g5⟩|g|g:=h.blk b q e
 .left;exact⟨c,c',ty,fr,f,p,o,n,λx=>absurd x (hF b),λ_=>g5.1 (λx=>x),λ⟨_,x,l⟩=>absurd l (hF x)⟩
 .exact aI (aH g)
 .exact aI (aI g)
end
section
variable {P:zZ}{Al:zF}{D:zP}{fr:zC}{own cs:zL}{v:zW}
def dy {ρ}(a:∀b b',ρ b b'->b=b'):ρ=cC (λb=>ρ b b):=by
 funext b b';apply propext;constructor
 .intro h;have:=a b b' h;subst this;exact⟨rfl,h⟩
 .rintro⟨rfl,h⟩;exact h
def Lk (i:¬Al 1000000/\∀k,¬Al (1000002+k)){F ρ}(a:∀b b',ρ b b'->b=b')(hF:∀b,¬F b){v w}(h:bQ P Al F ρ v w){b}(f:ρ b b):v.heap[b]? =w.heap[b]? :=by
 obtain⟨c,c',ty,fr,j,d,g,e,g4,g5⟩|⟨_,o,d,g,_⟩|⟨y,m,d,g,e⟩:=h.blk b b f
 .rw[d,g,rT i a e,g5.1 (hF b)]
 .rw[d,g]
 .rw[d,g];cases e with
  |view h1 u hu=>rw[CQ a h1]
  |number h1 l=>rw[CQ a h1]
def gF (hB:∀K:Kp,(∀b,¬K b)->cB P Al K)(j:Closed P Al D fr own v)(m:fr.mode= .run\/fr.defers≠[]\/own≠[])(C)(w)(d):
  (∃o u N,stepG P C (G fr (own++cs)) (v.re w d)= .ended o u N)\/
  ∃l e c N D1,stepG P C (G fr (own++cs)) (v.re w d)= .go (G l (e++cs)) c N/\Closed P Al D1 l e c/\d<=c.drawn/\c.tape=w/\(∀b,D b->D1 b)/\
   ∀(i)(s)(t)(y),(∀k,d+k<c.drawn->i (s+k)=w (d+k))->
    ∃M,stepG P y (G fr (own++t)) (v.re i s)= .go (G l (e++t)) (c.re i (s+(c.drawn-d))) M:=by
 have J:∀b,¬K0 b:=λb h=>h;have hw:=fW j.world J w w d d (λ_ _=>rfl);obtain h|⟨_,_,_,_,_,n,B,_⟩|⟨Q,g1,c,N,g1',w1,M,O,e2,hg,U,hm,_⟩:=vS (cs:=cs) (cs':=cs) (hB K0 J) hw j.frame j.own m C C (hs:=jG j.nj.2)
 .exact aH h
 .cases B
 .right;have hid:∀b q,cC D b q->b=q:=λb q h=>h.1;obtain⟨FQ,z⟩:=hm.same rfl hid;obtain⟨l,aCD,e,S,q1,q2,q3,q4⟩:=hg;subst q1;subst q2;have e3:=CJ j.nj z q3;have e4:=xC (λa b (h:cJ P Al K0 Q a b)=>CJ j.nj z h) q4;subst e3;subst e4;rw[O]at e2;cases e2;have hD:Q=cC (λb=>Q b b):=dy z;obtain⟨k,k1,k2⟩:=hm.drawn;have k1:c.drawn=d+k:=k1;refine⟨l,e,c,N,λb=>Q b b,O,⟨by rw[<-hD];exact q3,by rw[<-hD];exact q4,by rw[<-hD];exact U,j.nj⟩,by omega,hm.Ah,λb x=>hm.sub b b ⟨rfl,x⟩,?_⟩;intro i s t y Z;have A:∀b,¬(Pf c.drawn) b:=λb h=>h;have V:bQ P Al (Pf c.drawn) (cC D) (v.re w d) (v.re i s):=fW j.world A w i d s (λk hk=>Z k (hk c.drawn rfl));obtain⟨o,u,Vj,h⟩|⟨_,_,v2,_,h,n,B,bT⟩|⟨σ,g2,v2,Vj,g2',w2,L,f1,f2,Y,T,f,_⟩:=vS (cs:=cs) (cs':=t) (hB (Pf c.drawn) A) V (TY j.frame) (j.own.imp λ_ _ h=>TY h) m C y (hs:=jG j.nj.2)
  .rw[O]at h;cases h
  .rw[O]at h;have hv:c=v2:=by{injection h};subst hv;have W:c.drawn=n:=by{injection B};subst W;exact absurd bT (zDy _)
  .rw[O]at f1;cases f1;obtain⟨I,r⟩:=f.same rfl hid;obtain⟨Yl,gj,lP,R,r1,r2,r3,r4⟩:=Y;subst r2;have e5:=CJ j.nj r r3;have e6:=xC (λa b (h:cJ P Al (Pf c.drawn) σ a b)=>CJ j.nj r h) r4;subst e5;subst e6;have e7:l=Yl:=congrArg (λg:zH=>g.frame) r1;have e8:e++cs=lP++cs:=congrArg (λg:zH=>g.callers) r1;have e9:e=lP:=zCz e8;subst e7;subst e9;obtain⟨k',F,E⟩:=f.drawn;have F:c.drawn=d+k':=F;have E:w2.drawn=s+k':=E;have p:w2.heap=c.heap:=by
    apply zBz;intro b;by_cases x:∃q,σ b q;{obtain⟨q,x⟩:=x;have:=r b q x;subst this;exact(Lk j.nj r A T x).symm}
    .have B:∀q,¬cC D b q:=λq h=>x ⟨q,f.sub _ _ h⟩;obtain bT|X:=zDc b v.heap.size
     .rw[f.still b bT (λb0 h0=>absurd h0 (by rintro⟨rfl,hx⟩;exact B b0 ⟨rfl,hx⟩)),f.DD b bT B];rfl
     .obtain h1|h1:=zDc b c.heap.size
      .exact absurd (f.full b X h1) x
      .rw[zBq (by rw[<-I];exact h1),zBq h1]
   have H:w2=c.re i (s+(c.drawn-d)):=by have t1:w2.tape=i:=f.tape;have t2:w2.os=c.os:=f.os.trans f.jd.symm;have t3:w2.output=c.output:=f.out.trans f.Qo.symm;have t4:w2.drawn=s+(c.drawn-d):=by{omega};obtain⟨x1,x2,x3,x4,x5⟩:=w2;dsimp only at t1 t2 t3 t4 p;subst t1;subst t2;subst t3;subst t4;subst p;rfl
   rw[H]at f2;exact⟨L,f2⟩
end
inductive Lone (P:zZ)(cs:zL)(S:zS):zS
 |stop {fr:zC} {own:zL} {v:zW} (h:S fr own v):Lone P cs S fr own v
 |step {fr fr1:zC} {own own1:zL} {v v1:zW} {es:zE} (Vb:fr.mode= .run\/fr.defers≠[]\/own≠[]) (hs:stepG P aF (G fr (own++cs)) v= .go (G fr1 (own1++cs)) v1 es) (h:Lone P cs S fr1 own1 v1):Lone P cs S fr own v
inductive Ends (P:zZ)(Al:zF)(S:zS):zS
 |stop {fr:zC} {own:zL} {v:zW} (h:S fr own v):Ends P Al S fr own v
 |step {fr:zC} {own:zL} {v:zW} (Vb:fr.mode= .run\/fr.defers≠[]\/own≠[]) (nx:(zT)->Nat->zC×zL×zW)
   (h1:∀τ d,∃D,Closed P Al D (nx τ d).1 (nx τ d).2.1 (nx τ d).2.2) (h2:∀τ d cs mn,∃es,stepG P mn (G fr (own++cs)) (v.re τ d)= .go (G (nx τ d).1 ((nx τ d).2.1++cs)) (nx τ d).2.2 es)
   (h3:∀τ d,Ends P Al S (nx τ d).1 (nx τ d).2.1 (nx τ d).2.2):Ends P Al S fr own v
section
variable {P:zZ}{Al:zF}{cs:zL}{S:zS}
def Ends.of {fr own v}(b:fr.mode= .run\/fr.defers≠[]\/own≠[])
  (h:∀a d,∃fr1 own1 v1,(∃D,Closed P Al D fr1 own1 v1)/\(∀cs m,∃es,stepG P m (G fr (own++cs)) (v.re a d)= .go (G fr1 (own1++cs)) v1 es)/\Ends P Al S fr1 own1 v1):Ends P Al S fr own v:=by
 have c:∀p:(zT)×Nat,∃y:zC×zL×zW,(∃D,Closed P Al D y.1 y.2.1 y.2.2)/\(∀cs m,∃es,stepG P m (G fr (own++cs)) (v.re p.1 p.2)= .go (G y.1 (y.2.1++cs)) y.2.2 es)/\Ends P Al S y.1 y.2.1 y.2.2:=λp=>
  let⟨fr1,own1,v1,e⟩:=h p.1 p.2;⟨(fr1,own1,v1),e⟩
 exact .step b (λa d=>aEi (c (a,d))) (λa d=>(zAw (c (a,d))).1) (λa d=>(zAw (c (a,d))).2.1) (λa d=>(zAw (c (a,d))).2.2)
def Lone.shift (E:∀K:Kp,(∀b,¬K b)->cB P Al K)(C:∀fr own v f d,S fr own v->S fr own (v.re f d)):
  ∀{fr own u},Lone P cs S fr own u->∀(v)(D)(f)(d)(a)(j),u=v.re f d->Closed P Al D fr own v->(∀k,a (j+k)=f (d+k))->Lone P cs S fr own (v.re a j):=by
 intro fr own u h;induction h with
 |stop h=>intro v D f d a j e z p;subst e;exact .stop (by have:=C _ _ _ a j h;exact this)
 | @step fr t own l u u1 es c y h A=>intro v D f d a j e z p;subst e;obtain⟨o,u,w,i⟩|⟨s,lP,v2,w,D2,i,r,B,m,_,n⟩:=gF E z c aF f d;{rw[y]at i;cases i};{rw[y]at i;have G:t=s:=by{injection i with x;exact congrArg (λg:zH=>g.frame) x};have a2:l=lP:=by{injection i with x;exact zCz (congrArg (λg:zH=>g.callers) x)};have a3:u1=v2:=by{injection i};subst G;subst a2;subst a3;obtain⟨F,q⟩:=n a j cs aF (λk _=>p k);refine .step c q ?_;refine A u1 D2 f u1.drawn a (j+(u1.drawn-d)) (by cases u1;simp only[World.re]at m⊢;rw[m]) r (λk=> ?_);have:=p (u1.drawn-d+k);rw[<-zCh,<-zCh]at this;rw[this];congr 1;omega}
structure ue (P:zZ)(Al:zF)(cs:zL)(S:zS)(x:zC×zL×zW):Prop where
 closed:∃D,Closed P Al D x.1 x.2.1 x.2.2
 lone:∀τ d,Lone P cs S x.1 x.2.1 (x.2.2.re τ d)
 not:¬Ends P Al S x.1 x.2.1 x.2.2
structure Pd (P:zZ)(cs:zL)(x y:zC×zL×zW)(τ:zT)(d c:Nat):Prop where
 stay:x.1.mode= .run\/x.1.defers≠[]\/x.2.1≠[]
 step:∀(ll:zT)(d':Nat),(∀k,k<c->ll (d'+k)=τ (d+k))->∃es,stepG P aF (G x.1 (x.2.1++cs)) (x.2.2.re ll d')= .go (G y.1 (y.2.1++cs)) (y.2.2.re ll (d'+c)) es
def Om (U:∀K:Kp,(∀b,¬K b)->cB P Al K)(T:∀fr own v f d,S fr own v->S fr own (v.re f d)){x}(Y:ue P Al cs S x):∃y f d c,ue P Al cs S y/\Pd P cs x y f d c:=by
 obtain⟨fr,own,v⟩:=x;obtain⟨⟨D,hc⟩,hl,Q⟩:=Y;dsimp only at*;have H:¬S fr own v:=λh=>Q (.stop h);have l:∀f d,¬S fr own (v.re f d):=λf d h=>H (by have:=T _ _ _ v.tape v.drawn h;exact this);have a:fr.mode= .run\/fr.defers≠[]\/own≠[]:=by
  cases hl v.tape v.drawn with
  |stop h=>exact absurd h (l _ _)
  |step a _ _=>exact a
 have:∃f d,∀n j A,(∃D,Closed P Al D n j A)->(∀cs X,∃es,stepG P X (G fr (own++cs)) (v.re f d)= .go (G n (j++cs)) A es)->¬Ends P Al S n j A:=by apply zBm;intro h;apply Q;refine .of a λf d=> ?_;apply zBm;intro E;apply h;refine⟨f,d,λn j A M hg he=>E ⟨n,j,A,M,hg,he⟩⟩
 obtain⟨f,d,I⟩:=this;obtain⟨o,u,N,E⟩|⟨t,lP,v2,N,D2,E,s,hd2,C,_,m⟩:=gF U hc a aF f d
 .cases hl f d with
  |stop h=>exact absurd h (l _ _)
  |step _ r _=>rw[E]at r;cases r
 .have q:v2.re f v2.drawn=v2:=by cases v2;simp only[World.re]at C⊢;rw[C]
  have J:=I t lP v2 ⟨D2,s⟩ (λO F=>by obtain⟨p,h⟩:=m f d O F (λ_ _=>rfl);refine⟨p,?_⟩;rw[h,show d+(v2.drawn-d)=v2.drawn by omega,q])
  refine⟨(t,lP,v2),f,d,v2.drawn-d,⟨⟨D2,s⟩,λz V=> ?_,J⟩,⟨a,λe d' Z=> ?_⟩⟩
  .let e:zT:=λi=>if i<v2.drawn then f i else z (i-v2.drawn+V)
   obtain⟨p,h⟩:=m e d cs aF (λk R=>by simp only[e,zAz R]);have bT:=hl e d;cases bT with
   |stop h=>exact absurd h (l _ _)
   | @step _ tN _ B _ v3 es3 _ r L=>rw[h]at r;have a1:t=tN:=by{injection r with x;exact congrArg (λg:zH=>g.frame) x};have a2:lP=B:=by{injection r with x;exact zCz (congrArg (λg:zH=>g.callers) x)};have a3:v2.re e (d+(v2.drawn-d))=v3:=by{injection r};subst a1;subst a2;refine Lone.shift U T L v2 D2 e (d+(v2.drawn-d)) z V a3.symm s (λk=> ?_);have e1:d+(v2.drawn-d)+k=v2.drawn+k:=by{omega};rw[e1];simp only[e,zAv (show¬v2.drawn+k<v2.drawn by omega)];congr 1;omega
  .obtain⟨p,h⟩:=m e d' cs aF (λk R=>Z k (by omega));exact⟨p,h⟩
def xP (U:∀K:Kp,(∀b,¬K b)->cB P Al K)(N:∀fr own v q d,S fr own v->S fr own (v.re q d)){fr own v D}(M:Closed P Al D fr own v)
  (h:∀q d,Lone P cs S fr own (v.re q d)):Ends P Al S fr own v:=by
 apply zBm;intro J;let T:={x:zC×zL×zW//ue P Al cs S x}
 have Y:T:=⟨(fr,own,v),⟨⟨D,M⟩,h,J⟩⟩;have t:∀x:T,∃(y:T)(q:zT)(d c:Nat),Pd P cs x.1 y.1 q d c:=λx=>by obtain⟨y,q,d,c,o,V⟩:=Om U N x.2;exact⟨⟨y,o⟩,q,d,c,V⟩
 let f:T->T:=λx=>aEi (t x)
 let A:T->zT:=λx=>aEi (zAw (t x))
 let st:T->Nat:=λx=>aEi (zAw (zAw (t x)))
 let z:T->Nat:=λx=>aEi (zAw (zAw (zAw (t x))))
 have R:∀x:T,Pd P cs x.1 (f x).1 (A x) (st x) (z x):=λx=>zAw (zAw (zAw (zAw (t x))));let seq:Nat->T:=λn=>aEm ⟨(fr,own,v),⟨⟨D,M⟩,h,J⟩⟩ (λ_ x=>f x) n
 let j:Nat->Nat:=λn=>aEm 0 (λm k=>k+z (seq m)) n
 have I:∀n,seq (n+1)=f (seq n):=λn=>rfl;have r:∀n,j (n+1)=j n+z (seq n):=λn=>rfl;have l:∀m n,m<=n->j m<=j n:=by
  intro m n O;induction n with
  |zero=>have:m=0:=by{omega};subst this;exact zAb _
  |succ n B=>obtain o|o:=zDc m (n+1);{exact zBb (B (by omega)) (by rw[r];omega)};{have:m=n+1:=by{omega};subst this;exact zAb _}
 let nR:zT:=λi=>by
  classical
  exact if p:∃n,j n<=i/\i<j (n+1)then A (seq (aEi p)) (st (seq (aEi p))+(i-j (aEi p)))elseλ_=>0
 have w:∀n k,k<z (seq n)->nR (j n+k)=A (seq n) (st (seq n)+k):=by
  intro n k L;have p:∃m,j m<=j n+k/\j n+k<j (m+1):=⟨n,by omega,by rw[r];omega⟩;have Q:=zAw p;have e:aEi p=n:=by generalize aEi p=m at Q;obtain o|o|o:=Nat.lt_trichotomy m n;{have:=l (m+1) n o;omega};{exact o};{have:=l (n+1) m o;rw[r]at this;omega}
  simp only[nR];rw[dif_pos p,e];congr 1;omega
 have never:∀{a b u},Lone P cs S a b u->∀n,a=(seq n).1.1->b=(seq n).1.2.1->u=(seq n).1.2.2.re nR (j n)->False:=by
  intro a b u hl;induction hl with
  |stop s=>intro n G F E;subst G;subst F;subst E;exact(seq n).2.not (.stop (by have:=N _ _ _ (seq n).1.2.2.tape (seq n).1.2.2.drawn s;exact this))
  | @step a H b X u u1 es _ s _ B=>intro n G F E;subst G;subst F;subst E;obtain⟨W,C⟩:=(R (seq n)).step nR (j n) (λk L=>w n k L);rw[C]at s;have H:(f (seq n)).1.1=H:=by{injection s with x;exact congrArg (λg:zH=>g.frame) x};have a2:(f (seq n)).1.2.1=X:=by{injection s with x;exact zCz (congrArg (λg:zH=>g.callers) x)};have a3:(f (seq n)).1.2.2.re nR (j n+z (seq n))=u1:=by{injection s};exact B (n+1) H.symm a2.symm a3.symm
 exact never (h nR 0) 0 rfl rfl rfl
end
section
variable {P:zZ}{Al:zF}
def gG (v:zW):v.re v.tape v.drawn=v:=rfl
def iO (P:zZ)(R:zR)(fr:zC)(own:zL)(v:zW):Prop:=
 own=[]/\∃x,(∀a d,fr.leaving P (v.re a d) (aM x))/\∀a d,R x (v.re a d)
def iO.re {R:zR}{fr:zC}{own:zL}{v:zW}(c:zT)(d:Nat)(h:iO P R fr own v):iO P R fr own (v.re c d):=
 ⟨h.1,let⟨x,h1,e⟩:=h.2;⟨x,λa b=>h1 a b,λa b=>e a b⟩⟩
def XH (fn){D fr own v}(q:Closed P Al D fr own v){x}(h:(results fn fr.tmps).run P v= .ok x v)(l)(d):
  (results fn fr.tmps).run P (v.re l d)= .ok x (v.re l d):=by
 have m:∀b,¬(Pf v.drawn) b:=λb h=>h;have z:bQ P Al (Pf v.drawn) (cC D) v (v.re l d):=by have:=fW q.world m v.tape l v.drawn d (λk A=>absurd (A v.drawn rfl) (by omega));exact this
 have G:=z.ok;have g:((results fn fr.tmps).runT P v #[]).1= .ok x v:=by rw[Sem.runT_fst];exact h
 obtain(⟨hl,S,w,e,_⟩|⟨⟨n,t,bT⟩,_⟩)|⟨B,v1,w1,w,V,h1,j,U,H⟩:=(gY (P:=P) (Al:=Al) (F:=Pf v.drawn) fn q.frame.tmps).runT v (v.re l d) #[] #[] z
 .rw[e]at g;cases g
 .cases t;have:Rv ((results fn fr.tmps).runT P v #[])=v:=by
   generalize(results fn fr.tmps).runT P v #[]=r at g;obtain⟨r1,r2⟩:=r;dsimp only at g;subst g;rfl
  rw[this]at bT;exact absurd bT (zDy _)
 .obtain⟨a,b,r1,r2,u⟩|⟨y,L,r1,r2,T⟩:=H
  .rw[r1]at g;cases g;have hid:∀b f,cC D b f->b=f:=λb f h=>h.1;obtain⟨s,i⟩:=j.same rfl hid;have J:=MP q.nj i u;subst J;have E:(results fn fr.tmps).run P (v.re l d)= .ok x w1:=by{rw[<-Sem.runT_fst P _ _ #[],r2]};rw[E];obtain⟨k,k1,k2⟩:=j.drawn;have A:k=0:=by omega
   have c:w1.heap=v.heap:=by
    apply zBz;intro b;by_cases p:∃f,B b f;{obtain⟨f,p⟩:=p;have:=i b f p;subst this;exact(Lk q.nj i m h1 p).symm}
    .have t:∀f,¬cC D b f:=λf h=>p ⟨f,j.sub _ _ h⟩;obtain bT|o:=zDc b v.heap.size
     .rw[j.still b bT (λK I=>absurd I (by rintro⟨rfl,C⟩;exact t K ⟨rfl,C⟩))];rfl
     .rw[zBq (by rw[<-s];exact o),zBq o]
   congr 1;have t1:=j.tape;have t2:=j.os;have t3:=j.out;have t4:w1.drawn=d:=by{have:w1.drawn=d+k:=k2;omega};obtain⟨R,Q,O,N,M⟩:=w1;dsimp only at t1 t2 t3 t4 c;subst t1;subst t2;subst t3;subst t4;subst c;rfl
  .rw[r1]at g;cases g
def bI:zC:={fn:=0,tmps:= #[],todo:=[.code (.refuse "")],defers:=[⟨.nil,#[]⟩],mode:= .run,kind:= .normal}
def vR (u):∃o w,step P (lone bI [] u)= .ended o w:=⟨_,_,step_lone_ended rfl⟩
def uT (l)(u):∃o w,step P (lone (bI.raise l) [] u)= .ended o w:=⟨_,_,step_lone_ended rfl⟩
def oM (O:∀K:Kp,(∀b,¬K b)->cB P Al K){S fr' w'}(N:∀D,Closed P Al D fr' [] w'->S fr' [] w'):
  ∀(n){fr own u D},Closed P Al D fr own u->runN P n (lone fr (own++[bI]) u)= .next (lone fr' [bI] w')->Lone P [bI] S fr own u:=by
 intro n;induction n with
 |zero=>
  intro fr own u D v h;have h:=h;have x:lone fr (own++[bI]) u=lone fr' [bI] w':=by injection h
  have V:=congrArg Machine.world x;have j:({frame:=fr,callers:=own++[bI],status:= .running,dying:=aB}:zH)={frame:=fr',callers:=[bI],status:= .running,dying:=aB}:=by have:=congrArg Machine.gs x;simpa [lone]using this
  have U:fr=fr':=congrArg Goroutine.frame j;have T:=congrArg Goroutine.callers j;have R:own=[]:=by have:=congrArg List.length T;simp at this;exact this
  subst V;subst U;subst R;exact .stop (N D v)
 |succ n H=>
  intro fr own u D v h;have g:∀m1,step P (lone fr (own++[bI]) u)= .next m1->runN P n m1= .next (lone fr' [bI] w'):=λm1 e=>by{simpa only[runN,e]using h};have k:∀o w1,step P (lone fr (own++[bI]) u)≠.ended o w1:=λo w1 e=>by simp only[runN,e]at h;cases h
  have dead:∀(f:zC)(w1:zW),(∃o w,step P (lone f [] w1)= .ended o w)->runN P n (lone f [] w1)≠.next (lone fr' [bI] w'):=by
   rintro f w1 ⟨o,w2,he⟩ s;cases n with
   |zero=>have s:=s;have x:lone f [] w1=lone fr' [bI] w':=by{injection s};have:=congrArg Machine.gs x;have j:({frame:=f,callers:=[],status:= .running,dying:=aB}:zH)={frame:=fr',callers:=[bI],status:= .running,dying:=aB}:=by{simpa [lone]using this};have:=congrArg Goroutine.callers j;cases this
   |succ n=>simp only[runN,he]at s;cases s
  by_cases a:fr.mode= .run\/fr.defers≠[]\/own≠[]
  .obtain⟨o,w1,l,q⟩|⟨Q,lP,v2,d,D2,q,B,M,I,_,F⟩:=gF O v a aF u.tape u.drawn
   .rw[gG]at q;exact absurd (step_lone_ended (by rw[show({frame:=fr,callers:=own++[bI],status:= .running,dying:=aB}:zH)=G fr (own++[bI])from rfl,q];rfl)) (k o w1)
   .rw[gG]at q;have z:=step_lone_go (cs':=lP++[bI]) (w':=v2) (by rw[show({frame:=fr,callers:=own++[bI],status:= .running,dying:=aB}:zH)=G fr (own++[bI])from rfl,q];rfl);exact .step a q (H B (g _ z))
  .exfalso;have L:fr.mode≠.run:=λe=>a (aH e);have p:fr.defers=[]:=zBm λe=>a (aI (aH e));have J:own=[]:=zBm λe=>a (aI (aI e));subst J;have A:=v.frame.kinds;have t:=lB v.frame.items;have ret:∀(y:zY)(w1:zW),doReturn P aF fr [bI] aB y w1= .go (G bI []) w1:=λy w1=>by
    unfold doReturn;obtain h|h:=A<;>rw[h]<;>rfl
   have goes:∀(f:zC)(w1:zW)(l:zE),stepG P aF (G fr ([]++[bI])) u= .go (G f []) w1 l->(∃o w,step P (lone f [] w1)= .ended o w)->False:=λf w1 l j p=>by have z:=step_lone_go (P:=P) (fr:=fr) (cs:=[]++[bI]) (w:=u) (fr':=f) (cs':=[]) (w':=w1) (by rw[show({frame:=fr,callers:=[]++[bI],status:= .running,dying:=aB}:zH)=G fr ([]++[bI])from rfl,j];rfl);exact dead f w1 p (g _ z)
   have ended:∀(o:Outcome)(w1:zW)(l:zE),stepG P aF (G fr ([]++[bI])) u= .ended o w1 l->False:=λo w1 l j=>
    k o w1 (step_lone_ended (by rw[show({frame:=fr,callers:=[]++[bI],status:= .running,dying:=aB}:zH)=G fr ([]++[bI])from rfl,j];rfl))
   cases c:fr.mode with
   |run=>exact L c
   |panicking chain=>
    have e:stepG P aF (G fr ([]++[bI])) u= .go (G (bI.raise chain) []) u:=by simp only[stepG,G,c,unwind,p,t,zCk,zBe,zDe]
    exact goes _ _ _ e (uT chain u)
   |returning=>
    have C:stepG P aF (G fr ([]++[bI])) u=unwind P aF fr [bI] aB u:=by{simp only[stepG,G,c,zCk]};cases m:P.funcs[fr.fn]? with
    |none=>
     have e:stepG P aF (G fr ([]++[bI])) u= .go (G bI []) u:=by rw[C];simp only[unwind,p,c,m,ret]
     exact goes _ _ _ e (vR u)
    |some fn=>
     cases i:(results fn fr.tmps).runT P u #[]with
     |mk r l=>
      cases r with
      |ok y w1=>
       have e:stepG P aF (G fr ([]++[bI])) u= .go (G bI []) w1 (seen P fr.fn l++ #[]):=by rw[C];unfold unwind;rw[p];dsimp only;rw[c];dsimp only;rw[m];dsimp only;rw[i];dsimp only;rw[ret];rfl
       exact goes _ _ _ e (vR w1)
      |halt hl w1=>
       have e:∃o w2 d,stepG P aF (G fr ([]++[bI])) u= .ended o w2 d:=by rw[C];unfold unwind;rw[p];dsimp only;rw[c];dsimp only;rw[m];dsimp only;rw[i];dsimp only;cases hl<;>exact⟨_,_,_,rfl⟩
       obtain⟨o,w2,d,e⟩:=e;exact ended o w2 d e
def iO.of {R}(j:∀x u a d,R x u->R x (u.re a d)){fr u x}(h:fr.leaving P u (aM x))(g:R x u){D}(i:Closed P Al D fr [] u):iO P R fr [] u:=by refine⟨rfl,x,λa d=> ?_,λa d=>j x u a d g⟩;obtain⟨f,e,c,fn,b,q⟩:=h;exact⟨f,e,c,fn,b,XH fn i q a d⟩
def AtEnd (P:zZ)(R:zR)(E:List PanicEntry->zW->Prop)(fr:zC)(own:zL)(v:zW):Prop:=
 iO P R fr own v\/(own=[]/\fr.defers=[]/\∃chain,fr.mode= .panicking chain/\∀a d,E chain (v.re a d))
def AtEnd.re {R:zR}{E:List PanicEntry->zW->Prop}{fr:zC}{own:zL}{v:zW}(b:zT)(d:Nat)(h:AtEnd P R E fr own v):AtEnd P R E fr own (v.re b d):=
 h.imp (·.re b d) λ⟨i,g,c,f,e⟩=>⟨i,g,c,f,λa j=>e a j⟩
def GD (r:¬Al 1000000/\∀k,¬Al (1000002+k))(o:∀K:Kp,(∀b,¬K b)->cB P Al K){f}(s:Al f){args w D}(t:aZ Al (cC D) args args)(q:bQ P Al K0 (cC D) w w)
  {R E} (y:∀x u a d,R x u->R x (u.re a d)) (z:∀x u a d,E x u->E x (u.re a d)) (h:∀a d,Calls P f args (w.re a d) λe w'=>(∃x,e=aM x/\R x w')\/∃c,e= .panicked c/\E c w'):
  Ends P Al (AtEnd P R E) (Frame.enter P f args .normal) [] w:=by
 have j:∀b,¬K0 b:=λb h=>h;have m:Closed P Al D (Frame.enter P f args .normal) [] w:=⟨cJ.enter (o K0 j) s t (aH rfl),.nil,q,r⟩;refine xP (cs:=[bI]) o (λfr own v a d h=>h.re a d) m λa d=> ?_;have l:Closed P Al D (Frame.enter P f args .normal) [] (w.re a d):=⟨m.frame,.nil,fW q j a a d d (λ_ _=>rfl),r⟩;obtain⟨e,w',fr,i,g,_,hl⟩:=h a d [bI];obtain⟨x,rfl,i⟩|⟨c,rfl,i⟩:=i
 .obtain⟨n,p⟩:Steps P _ _:=g;exact oM o (λD m=>aH (iO.of y hl i m)) n l p
 .obtain⟨n,p⟩:Steps P _ _:=g;exact oM o (λD m=>aI ⟨rfl,hl.2.1,c,hl.1,λa d=>z c _ a d i⟩) n l p
def ends_of_calls (o:¬Al 1000000/\∀k,¬Al (1000002+k))(l:∀K:Kp,(∀b,¬K b)->cB P Al K){f}(r:Al f){args w D}(s:aZ Al (cC D) args args)(m:bQ P Al K0 (cC D) w w)
  {R} (t:∀x u a d,R x u->R x (u.re a d)) (h:∀a d,Calls P f args (w.re a d) λe w'=>∃x,e=aM x/\R x w'):
  Ends P Al (iO P R) (Frame.enter P f args .normal) [] w:=by
 have g:∀b,¬K0 b:=λb h=>h;have i:Closed P Al D (Frame.enter P f args .normal) [] w:=⟨cJ.enter (l K0 g) r s (aH rfl),.nil,m,o⟩;refine xP (cs:=[bI]) l (λfr own v a d h=>h.re a d) i λa d=> ?_;obtain⟨e,w',fr,⟨x,rfl,p⟩,c,_,hl⟩:=h a d [bI];obtain⟨n,q⟩:Steps P _ _:=c;have j:Closed P Al D (Frame.enter P f args .normal) [] (w.re a d):=⟨i.frame,.nil,fW m g a a d d (λ_ _=>rfl),o⟩;exact oM l (λD i=>iO.of t hl p i) n j q
end
structure VM (P:zZ)(Al:zF)(K:Kp)(π:Rn)(fr:zC)(own:zL)(v:zW)(fr':zC)(own':zL)(w:zW):Prop where
 frame:cJ P Al K π fr fr'
 own:fZ (cJ P Al K π) own own'
 world:bQ P Al K π (v.re w.tape w.drawn) w
structure th (π:Rn)(w w₁:zW):Prop where
 cM:∀b b',π b b'->w₁.heap[b']? =w.heap[b']?
 size:w.heap.size<=w₁.heap.size
 os:w₁.os=w.os
section
variable {P:zZ}{Al:zF}{K:Kp}{π:Rn}{fr fr':zC}{own own' cs:zL}{v w w₁:zW}
def VM.rely (a:K.nR=aB)(h:VM P Al K π fr own v fr' own' w)(r:th π w w₁):VM P Al K π fr own v fr' own' w₁:=by refine⟨h.frame,h.own,⟨h.world.ok,λb d c=> ?_,λk _=>rfl,h.world.fresh,⟨h.world.low.1,zAd h.world.low.2 r.size⟩,r.os.trans h.world.os,h.world.rows⟩⟩;have:=h.world.blk b d c;rw[r.cM b d c];exact this
def VM.step (j:K.nR=aB)(B:cB P Al K)(h:VM P Al K π fr own v fr' own' w)(c:fr.mode= .run\/fr.defers≠[]\/own≠[]){y:zC×zL×zW}
  (l:∃es,stepG P aF (G fr (own++[])) (v.re w.tape w.drawn)= .go (G y.1 (y.2.1++[])) y.2.2 es) (r:Bool) (cs:zL) (C:rE P K fr:=by first|assumption|exact xO (λ_ h=>h)) (hs:nZ Al fr:=by first|assumption|exact jG (by assumption)):
  ∃d f a w1 es,stepG P r (G fr' (own'++cs)) w= .go (G f (a++cs)) w1 es/\VM P Al K d y.1 y.2.1 y.2.2 f a w1/\iQ K π d (v.re w.tape w.drawn) y.2.2 w w1/\∀e∈es,mC K d e:=by
 obtain⟨es,l⟩:=l;obtain⟨o,u,H,e⟩|⟨_,_,_,_,_,n,s,_⟩|⟨d,g1,v1,I,E,w1,p,t,J,D,b,hm,m⟩:=vS B h.world h.frame h.own c aF r C hs
 .rw[l]at e;cases e
 .rw[j]at s;cases s
 .rw[l]at t;cases t;obtain⟨F,f,i,a,q,A,z,x⟩:=D;have L:=congrArg (λg:zH=>g.frame) q;have a2:y.2.1=i:=by
   have:=congrArg (λg:zH=>g.callers) q;simpa [G]using this
  subst L;subst a2;subst A;exact⟨d,f,a,w1,p,J,⟨z,x,⟨b.ok,b.blk,λk _=>rfl,b.fresh,b.low,b.os,b.rows⟩⟩,hm,m⟩
def gS {α:Type}(P:zZ)(s:Sem α):Prop:=∀u b a u1 e,s.runT P u b=(.ok a u1,e)->u1=u
def gS.bind {α β s}{f:α->Sem β}(h:gS P s)(j:∀a,gS P (f a)):gS P (s>>=f):=by
 intro u i b u1 d e;rw[bD]at e;cases g:s.runT P u i with
 |mk r c=>
  rw[g]at e;cases r with
  |ok a u2=>have k:=h u i a u2 c g;subst k;exact j a u2 c b u1 d e
  |halt hl u2=>cases e
def dV {α}(a:α):gS P (pure a:Sem α):=λu d b u1 c e=>by cases e;rfl
def oR {α}(h:Halt):gS P (.halt h:Sem α):=λu c b u1 a e=>by cases e
def nX:gS P program:=λu c b u1 a e=>by cases e;rfl
def BK (a)(m):gS P (load a m):=λu d b u1 c e=>by
 unfold load at e;simp only[Sem.runT]at e;split at e
 .cases e;rfl
 .split at e
  .cases e;rfl
  .cases e
def BV (t):gS P (typeInfo t):=by
 refine nX.bind λp=> ?_;split
 .exact dV _
 .exact oR _
def xT (t):gS P (underlying t):=by
 refine nX.bind λp=> ?_;split
 .exact dV _
 .exact oR _
def pY (a:Addr):∀(n i:Nat)(acc:zA),gS P (loadCellsFrom a i n acc)
 |0,_,_=>dV _
 |n+1,i,acc=>(BK _ _).bind λv=>pY a n (i+1) (acc.push v)
def GM (t)(a):gS P (loadVar t a):=by
 refine gS.bind ?_ λb=> ?_
 .unfold isAgg;refine(xT t).bind λu=> ?_;split<;>exact dV _
 .split
  .refine((BV t).bind λi=>dV _).bind λn=> ?_;exact(pY a n 0 #[]).bind λc=>dV _
  .exact BK _ _
def sW (fn)(t):gS P (results fn t):=by
 refine gS.bind ?_ λb=>dV _;rw[zFc];refine gS.bind ?_ λl=>dV _;induction fn.results.toList with
 |nil=>exact dV _
 |cons r l i=>
  rw[List.mapM_cons];refine gS.bind ?_ λx=>i.bind λl=>dV _;cases r with
  |tmp x=>exact dV _
  |cell a ty=>refine gS.bind ?_ λx=>GM _ _;unfold asAddr;split;{exact dV _};{unfold runtimePanic;exact nX.bind λp=>oR _};{exact oR _}
def VM.leave (o:K.nR=aB)(h:VM P Al K π fr [] v fr' own' w){x}(V:∀M d,fr.leaving P (v.re M d) (aM x))(A)(c)(cs):
  ∃I L,bG Al π x I/\own'=[]/\stepG P A (G fr' (own'++c::cs)) w= .go (G (c.finish I) cs) w L/\∀e∈L,mC K π e:=by
 have j:own'=[]:=by cases h.own;rfl
 subst j;obtain⟨U,T,S,fn,R,Q⟩:=V w.tape w.drawn;have X:=h.world.ok;have k:fr'.mode= .returning:=by have:=h.frame.mode;rw[U]at this;generalize fr'.mode=m at this;cases this;rfl
 have D:fr'.defers=[]:=by have:=h.frame.defers;rw[T]at this;generalize fr'.defers=l at this;cases this;rfl
 have C:fr'.kind= .normal:=by rw[h.frame.kind];exact S
 have t:P.funcs[fr'.fn]? =aA fn:=by rw[h.frame.fn];exact R
 have i:((results fn fr.tmps).runT P (v.re w.tape w.drawn) #[]).1= .ok x (v.re w.tape w.drawn):=by rw[Sem.runT_fst];exact Q
 obtain(⟨hl,v',H,e,_⟩|⟨⟨n,J,_⟩,_⟩)|⟨N,v1,w1,H,dd,h1,h2,h3,Z⟩:=(gY fn h.frame.tmps).runT _ w #[] #[] h.world
 .rw[e]at i;cases i
 .rw[o]at J;cases J
 .obtain⟨a,b,r1,r2,E⟩|⟨y,y',r1,r2,hy⟩:=Z
  .rw[r1]at i;cases i;have B:=sW fn fr'.tmps w #[] b w1 _ r2;subst B;have f:∀p u,N p u->π p u:=λp u W=>by
    obtain q|⟨_,q,q'⟩:=h2.rM p u W;{exact q};{omega}
   refine⟨b,seen P fr'.fn dd++ #[],E.mono f,rfl,?_,λe Y=> ?_⟩;{have e0:stepG P A (G fr' ([]++c::cs)) w1=unwind P A fr' (c::cs) aB w1:=by{simp only[stepG,G,k,zCk]};rw[e0];unfold unwind;rw[D];dsimp only;rw[k];dsimp only;rw[t];dsimp only;rw[r2];dsimp only;unfold doReturn;rw[C];simp only[zCe];rfl}
   .have:=h3 e (nA (by simpa using Y));obtain⟨a,a',wr,s,F,z,g3⟩|g|g|⟨r,O,s,F,z⟩:=this
    .exact aH ⟨a,a',wr,s,F,⟨f _ _ z.1,z.2⟩,g3⟩
    .exact aI (aH g)
    .exact aI (aI (aH g))
    .exact aI (aI (aI ⟨r,O,s,F,f _ _ z⟩))
  .rw[r1]at i;cases i
end
end Go.Ren
