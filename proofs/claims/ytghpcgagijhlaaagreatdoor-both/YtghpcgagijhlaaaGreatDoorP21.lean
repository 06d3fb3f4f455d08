import Derived.KernelRfl
import Derived.Test.YtghpcgagijhlaaaGreatDoorP20
set_option linter.all false
set_option maxRecDepth 100000
set_option maxHeartbeats 16000000
open Option renaming some->aA,none->aB
open Bool renaming true->aE,false->aF
open Or renaming inl->aG,inr->aH
open Go.Item renaming inRegion->aM
open Go.Obj renaming cells->aI
open Go.IntKind renaming u8->aP
open Go renaming execOp->aCF
open Go.Next renaming value->aCX,skip->aCY
open Nat renaming le_of_ble_eq_true->aCZ,mod_one->aC0
namespace Go.Proofs
open Go.Ren
noncomputable def Qz.uf (t:zD):Bool:=t==5||t==178
noncomputable def Qz.ck (k:Nat->Bool):Ck:=⟨λf=>bif decide (f<254)then Qz.al f else k f,Qz.uf,Qz.met,aE⟩
noncomputable def Qm.ck (k:Nat->Bool):Ck:=⟨λf=>bif decide (f<254)then Qm.al f else k f,Qz.uf,Qz.met,aE⟩
noncomputable def Qw.ck:Ck:=⟨λf=>decide (f<254)&&Qw.al f,Qz.uf,λ_=>aF,aF⟩
def qP (P:zZ)(C:Ck):Bool:=
 (List.range 254).all λf=> !C.al f||(match P.funcs[f]? with
  |some fn=>(fn.name != "runtime.NumGoroutine")&&(match fn.body with|some c=>oI P C c|none=>f==103||f==131||f==132||f==177)
  |none=>aE)
def fI (P:zZ)(C:Ck)(s:String):Bool:=
 (List.range P.types.size).all λt=>match P.info? t with
  |some i=>(match i.methods.find? (·.name==s)with|some m=>m.path.isEmpty&&(match m.func with|some (f,aE)=>C.al f|_=>aF)|none=>aE)
  |none=>aE
def ET (P:zZ):Bool:=
 (List.range P.types.size).all λt=>(match P.info? t with|some i=>(match i.zero with|some z=>XN 8 z|none=>aE)|none=>aE)&&
  (match P.underlying t with|some (.slice e)=>decide (e<P.types.size)|some (.pointer e)=>decide (e<P.types.size)|some (.array _ e)=>decide (e<P.types.size)|_=>aE)
def ZH {P:zZ}(h:ET P=aE):JR P:=by
 have k:=λt (a:t<P.types.size)=>Bool.and_eq_true_iff.1 (zCa.1 h t (zBw.2 a));refine⟨λt i z a d c=> ?_,λt e a b=> ?_,λt n e a b=> ?_,λt e a b=> ?_⟩
 .have:=(k t a).1;rw[d]at this;dsimp only at this;rw[c]at this;exact yC 8 z this
 .have:=(k t a).2;rw[b]at this;exact of_decide_eq_true this
 .have:=(k t a).2;rw[b]at this;exact of_decide_eq_true this
 .have:=(k t a).2;rw[b]at this;exact of_decide_eq_true this
def lT {P:zZ}{C:Ck}{s:String}(h:fI P C s=aE):wX P (λf=>C.al f=aE) s:=λt i m d c=>by
 have g:t<P.types.size:=Be d c;have:=zCa.1 h t (zBw.2 g);rw[d]at this;dsimp only at this;rw[c]at this;dsimp only at this;rw[zBd]at this;refine⟨Array.isEmpty_iff.1 this.1,?_⟩;obtain⟨_,a⟩:=this;cases e:m.func with
 |none=>rw[e]at a;cases a
 |some p=>
  obtain⟨f,b⟩:=p;rw[e]at a;cases b with
  |true=>exact⟨f,rfl,a⟩
  |false=>cases a
def tU {P:zZ}{C:Ck}(h:qP P C=aE)(bU:P.funcs.size=254){f:zN}{fn:Func}(e:C.al f=aE)(d:P.funcs[f]? =aA fn):fn.name≠ "runtime.NumGoroutine"/\(∀c,fn.body=aA c->oI P C c=aE)/\(fn.body=aB->f=103\/f=131\/f=132\/f=177):=by
 have:=zCa.1 h f (zBw.2 (by have:=(zAb.1 d).1;omega));rw[e,d]at this;simp only[Bool.not_true,zGc,zBd,bne_iff_ne,ne_eq]at this;refine⟨this.1,λc b=> ?_,λb=> ?_⟩
 .have a:=this.2;rw[b]at a;exact a
 .have a:=this.2;rw[b]at a;simp only[zDo,zCk]at a;obtain((a|a)|a)|a:=a
  .exact aG a
  .exact aH (aG a)
  .exact aH (aH (aG a))
  .exact aH (aH (aH a))
def uW {P:zZ}{C:Ck}{F:Kp}(a:ET P=aE)(h:qP P C=aE)(bU:P.funcs.size=254)(k:P.types.size<=1000000)(j:∀e,C.uf e=aE->kC P e)(l:∀m,C.mt m=aE->wX P (λf=>C.al f=aE) m)(n:C.mark=aE->∀b,¬F b)(o:C.mark=aF->¬F.cmp)
  (p:∀f fn,C.al f=aE->P.funcs[f]? =aA fn->f=103\/f=131\/f=132\/f=177->Extern.findNext fn=aB/\∃e,Extern.find fn=aA e/\∀(π:Rn) xs x,Ok P π->aW (λf=>C.al f=aE) π xs x->bR P (λf=>C.al f=aE) F (VR (λf=>C.al f=aE)) π (e xs) (e x)):cJ P (λf=>C.al f=aE) F:=
 ⟨⟨ZH a,λi q=>by
  cases hm:i.methods.find? (·.name== "")with
  |none=>rfl
  |some m=>exact absurd (Be q hm) (zFz.2 k),λf fn g d=>(tU h bU g d).1,λf fn g d s=>p f fn g d ((tU h bU g d).2.2 s)⟩,λf fn c g d r=>Et j l n o ((tU h bU g d).2.1 c r)⟩
def FO:zq.funcs.size=254/\zq.types.size<=1000000:=⟨by kernel_rfl,aCZ (by kernel_rfl)⟩
def Ru:Qm.prog.funcs.size=254/\Qm.prog.types.size<=1000000:=⟨by kernel_rfl,aCZ (by kernel_rfl)⟩
def Lf:ET zq=aE:=by kernel_rfl
def Zm:ET Qm.prog=aE:=by kernel_rfl
def Yd (k:Nat->Bool):(fI zq (Qz.ck k) "Next"&&fI zq (Qz.ck k) "Root"&&fI zq (Qz.ck k) "Prove"&&fI zq (Qz.ck k) "Forget"&&fI zq (Qz.ck k) "Entries"&&fI zq (Qz.ck k) "Cells")=aE:=by kernel_rfl
def Ye (k:Nat->Bool):(fI Qm.prog (Qm.ck k) "Next"&&fI Qm.prog (Qm.ck k) "Root"&&fI Qm.prog (Qm.ck k) "Prove"&&fI Qm.prog (Qm.ck k) "Forget"&&fI Qm.prog (Qm.ck k) "Entries"&&fI Qm.prog (Qm.ck k) "Cells")=aE:=by kernel_rfl
def Uy (k:Nat->Bool):qP zq (Qz.ck k)=aE:=by kernel_rfl
def Uz (k:Nat->Bool):qP Qm.prog (Qm.ck k)=aE:=by kernel_rfl
def Ux:qP zq Qw.ck=aE:=by kernel_rfl
def Xd {P:zZ}(h:P.underlying 5=aA (.int aP)):kC P 5:=λd off x a Al b=>by
 cases d with
 |zero=>cases a
 |succ d=>
  simp only[plainCell,h]at a;split at a
  .cases a;exact .int _ _
  .cases a
def Ia {P:zZ}{f0 f1:Field}(h:P.underlying 178=aA (.struct #[f0,f1]))(b:∃e,P.underlying f0.type=aA (.pointer e))(a:∃e,P.underlying f1.type=aA (.slice e)):kC P 178:=λd off x c Al g=>by
 obtain⟨j,b⟩:=b;obtain⟨i,a⟩:=a;cases d with
 |zero=>cases c
 |succ d=>
  exfalso;have f:∀o,plainCell P d f0.type o=aB:=λo=>by cases d<;>simp[plainCell,b]
  have n:∀o,plainCell P d f1.type o=aB:=λo=>by cases d<;>simp[plainCell,a]
  simp[plainCell,h,f,n]at c
def Qz.Xe (e:zD)(h:Qz.uf e=aE):kC zq e:=by
 unfold Qz.uf at h;rw[zDo,zCk,zCk]at h;obtain rfl|rfl:=h
 .exact Xd (by kernel_rfl)
 .exact Ia (f0:={name:= "addr",type:=176,offset:=0,embedded:=aF,tag:= "",pkgPath:= "strings",byteOffset:=0}) (f1:={name:= "buf",type:=50,offset:=1,embedded:=aF,tag:= "",pkgPath:= "strings",byteOffset:=8}) (by kernel_rfl) ⟨178,by kernel_rfl⟩ ⟨5,by kernel_rfl⟩
def Qm.Xe (e:zD)(h:Qz.uf e=aE):kC Qm.prog e:=by
 unfold Qz.uf at h;rw[zDo,zCk,zCk]at h;obtain rfl|rfl:=h
 .exact Xd (by kernel_rfl)
 .exact Ia (f0:={name:= "addr",type:=176,offset:=0,embedded:=aF,tag:= "",pkgPath:= "strings",byteOffset:=0}) (f1:={name:= "buf",type:=50,offset:=1,embedded:=aF,tag:= "",pkgPath:= "strings",byteOffset:=8}) (by kernel_rfl) ⟨178,by kernel_rfl⟩ ⟨5,by kernel_rfl⟩
def EP:Extern.findNext Tryz.f103=aB/\Extern.find Tryz.f103=aA Extern.BytealgCompare.compare:=⟨by kernel_rfl,by kernel_rfl⟩
def EO:Extern.findNext Tryz.f131=aB/\Extern.find Tryz.f131=aA Extern.AbiNoEscape.same:=⟨by kernel_rfl,by kernel_rfl⟩
def EN:Extern.findNext Tryz.f132=aB/\Extern.find Tryz.f132=aA (Extern.BytealgMakeNoZero.makeNoZero #[3] #[50]):=⟨by kernel_rfl,by kernel_rfl⟩
def EM:Extern.findNext Tryz.f177=aB/\Extern.find Tryz.f177=aA (Extern.SlicesOverlaps.overlaps #[48,48] #[4]):=⟨by kernel_rfl,by kernel_rfl⟩
instance (f:zN):Decidable (Qz.iM f):=by unfold Qz.iM;infer_instance
def Qm.Au {f:zN}(h:¬Qz.iM f):Qm.prog.funcs[f]? =Tryz.prog.funcs[f]? :=(Qm.same (λe=>h (by rw[e];decide)) λe=>h (by rw[e];decide)).trans (Qz.same h)
def Qz.oR {C:Ck}{F:Kp}(hF:C.al 177=aE->∀b,¬F b)(f:zN)(fn:Func)(g:C.al f=aE)(a:zq.funcs[f]? =aA fn)(h:f=103\/f=131\/f=132\/f=177):Extern.findNext fn=aB/\∃e,Extern.find fn=aA e/\∀(c:Rn) d x,Ok zq c->aW (λf=>C.al f=aE) c d x->bR zq (λf=>C.al f=aE) F (VR (λf=>C.al f=aE)) c (e d) (e x):=by
 obtain rfl|rfl|rfl|rfl:=h
 .rw[Qz.same (by decide),Tryz.func103]at a;cases a;exact⟨EP.1,_,EP.2,λc d x ok h=>CW h⟩
 .rw[Qz.same (by decide),Tryz.func131]at a;cases a;exact⟨EO.1,_,EO.2,λc d x ok h=>RI h⟩
 .rw[Qz.same (by decide),Tryz.func132]at a;cases a;exact⟨EN.1,_,EN.2,λc d x ok h=>sU _ _ h⟩
 .rw[Qz.same (by decide),Tryz.func177]at a;cases a;exact⟨EM.1,_,EM.2,λc d x ok h=>xL (hF g) _ _ h⟩
def Qm.oR {C:Ck}{F:Kp}(hF:C.al 177=aE->∀b,¬F b)(f:zN)(fn:Func)(g:C.al f=aE)(a:Qm.prog.funcs[f]? =aA fn)(h:f=103\/f=131\/f=132\/f=177):Extern.findNext fn=aB/\∃e,Extern.find fn=aA e/\∀(c:Rn) d x,Ok Qm.prog c->aW (λf=>C.al f=aE) c d x->bR Qm.prog (λf=>C.al f=aE) F (VR (λf=>C.al f=aE)) c (e d) (e x):=by
 obtain rfl|rfl|rfl|rfl:=h
 .rw[Qm.Au (by decide),Tryz.func103]at a;cases a;exact⟨EP.1,_,EP.2,λc d x ok h=>CW h⟩
 .rw[Qm.Au (by decide),Tryz.func131]at a;cases a;exact⟨EO.1,_,EO.2,λc d x ok h=>RI h⟩
 .rw[Qm.Au (by decide),Tryz.func132]at a;cases a;exact⟨EN.1,_,EN.2,λc d x ok h=>sU _ _ h⟩
 .rw[Qm.Au (by decide),Tryz.func177]at a;cases a;exact⟨EM.1,_,EM.2,λc d x ok h=>xL (hF g) _ _ h⟩
abbrev Qz.Ak (k:Nat->Bool):zF:=λf=>(Qz.ck k).al f=aE
abbrev Qz.Al:zF:=Qz.Ak (·==1000001)
abbrev Qz.Aj (vb:Nat):zF:=Qz.Ak λf=>f==1000000||f==1000002+vb
abbrev Qz.Ab (N:Nat):zF:=Qz.Ak λf=>f==1000001||f==1000002+N
abbrev Qm.Al:zF:=λf=>(Qm.ck (·==1000001)).al f=aE
abbrev Qw.Al:zF:=λf=>Qw.ck.al f=aE
def Sj {m:zN->Bool}(f:zN)(h:(decide (f<254)&&m f)=aE):f<254:=of_decide_eq_true (Bool.and_eq_true_iff.1 h).1
def Zt {m k:Nat->Bool}{f:Nat}(h:(bif decide (f<254)then m f else k f)=aE):(f<254/\m f=aE)\/(254<=f/\k f=aE):=by
 by_cases a:f<254
 .rw[zEi a]at h;exact aG ⟨a,h⟩
 .rw[zCy a]at h;exact aH ⟨zFz.1 a,h⟩
def Mg {m k:Nat->Bool}{f:Nat}(h:f<254):(bif decide (f<254)then m f else k f)=m f:=by rw[zEi h];rfl
def Mh {m k:Nat->Bool}{f:Nat}(h:254<=f):(bif decide (f<254)then m f else k f)=k f:=by rw[zCy (zFz.2 h)];rfl
def Ry {P:zZ}{C:Ck}(h:(fI P C "Next"&&fI P C "Root"&&fI P C "Prove"&&fI P C "Forget"&&fI P C "Entries"&&fI P C "Cells")=aE)(m:String)(a:Qz.met m=aE):wX P (λf=>C.al f=aE) m:=by
 simp only[zBd]at h;obtain⟨⟨⟨⟨⟨i,g⟩,e⟩,d⟩,c⟩,b⟩:=h;unfold Qz.met at a;simp only[zDo,zCk]at a;obtain((((rfl|rfl)|rfl)|rfl)|rfl)|rfl:=a
 .exact lT i
 .exact lT g
 .exact lT e
 .exact lT d
 .exact lT c
 .exact lT b
def Qz.EU (k:Nat->Bool)(K:Kp)(a:∀b,¬K b):cJ zq (Qz.Ak k) K:=uW Lf (Uy k) FO.1 FO.2 (λe h=>Qz.Xe e h) (λm h=>Ry (Yd k) m h) (λ_=>a) (λh=>by cases h) λf fn d c h=>Qz.oR (λ_=>a) f fn d c h
def Qz.lU (K:Kp)(h:∀b,¬K b):cJ zq Qz.Al K:=Qz.EU _ K h
def Qm.lU (K:Kp)(a:∀b,¬K b):cJ Qm.prog Qm.Al K:=uW Zm (Uz _) Ru.1 Ru.2 (λe h=>Qm.Xe e h) (λm h=>Ry (Ye _) m h) (λ_=>a) (λh=>by cases h) λf fn d c h=>Qm.oR (λ_=>a) f fn d c h
def Qw.Yc:Qw.ck.al 177=aF:=by kernel_rfl
def Qw.lU (K:Kp)(c:¬K.cmp):cJ zq Qw.Al K:=uW Lf Ux FO.1 FO.2 (λe h=>Qz.Xe e h) (λm h=>by cases h) (λh=>by cases h) (λ_=>c) λf fn b a h=>Qz.oR (λh=>by rw[Qw.Yc]at h;cases h) f fn b a h
noncomputable def Qw.kr:Ck:=⟨λf=>decide (f<254)&&Qw.al f,Qz.uf,λ_=>aF,aE⟩
def Qy:qP zq Qw.kr=aE:=by kernel_rfl
def Qw.PK (K:Kp)(a:∀b,¬K b):cJ zq Qw.Al K:=uW (C:=Qw.kr) Lf Qy FO.1 FO.2 (λe h=>Qz.Xe e h) (λm h=>by cases h) (λ_=>a) (λh=>by cases h) λf fn d c h=>Qz.oR (C:=Qw.kr) (λ_=>a) f fn d c h
def Qw.plain:((List.range 254).all λf=> !Qw.ck.al f||(f !=28&&f !=170&&f !=212&&f !=213&&f !=214&&f !=215&&f !=216&&f !=217))=aE:=by kernel_rfl
def Qw.XQ {f:zN}(h:Qw.Al f):¬Qz.iM f:=λb=>by have a:=zCa.1 Qw.plain f (zBw.2 (Sj f h));rw[show Qw.ck.al f=aE from h]at a;simp only[Bool.not_true,zGc,zBd,bne_iff_ne,ne_eq]at a;unfold Qz.iM at b;obtain rfl|rfl|rfl|rfl|rfl|rfl|rfl|rfl:=b<;>simp at a
def Qm.sub {f:zN}(h:Qm.Al f):Qz.Al f:=by
 have b:((List.range 254).all λf=> !Qm.al f||Qz.al f)=aE:=by kernel_rfl
 show(bif decide (f<254)then Qz.al f else f==1000001)=aE
 obtain⟨a,h⟩|⟨a,h⟩:=Zt (m:=Qm.al) (k:=(·==1000001)) h
 .have c:=zCa.1 b f (zBw.2 a);rw[h]at c;rw[Mg (k:=(·==1000001)) a];simpa using c
 .rw[Mh (k:=(·==1000001)) a];exact h
def Qz.flag {k:Nat->Bool}(f:Nat)(h:254<=f):Qz.Ak k f↔k f=aE:=by
 show(bif decide (f<254)then Qz.al f else k f)=aE↔_
 rw[Mh h]
def Qz.other {k k':Nat->Bool}{f:Nat}(a:f<254)(h:Qz.Ak k f):Qz.Ak k' f:=by
 have h:(bif decide (f<254)then Qz.al f else k f)=aE:=h;show(bif decide (f<254)then Qz.al f else k' f)=aE
 rw[Mg a]at h⊢
 exact h
def Qm.flag (f:Nat)(h:254<=f):Qm.Al f↔f=1000001:=by
 show(bif decide (f<254)then Qm.al f else f==1000001)=aE↔_
 rw[Mh (k:=(·==1000001)) h]
 exact zCk
def Qz.Le (f:Nat)(h:254<=f):Qz.Al f↔f=1000001:=(Qz.flag f h).trans zCk
def Qz.Bj (vb f:Nat)(h:254<=f):Qz.Aj vb f↔f=1000000\/f=1000002+vb:=(Qz.flag f h).trans (by simp)
def Qz.Bl (N f:Nat)(h:254<=f):Qz.Ab N f↔f=1000001\/f=1000002+N:=(Qz.flag f h).trans (by simp)
def Qz.nj:¬Qz.Al 1000000/\∀k,¬Qz.Al (1000002+k):=by
 refine⟨λh=> ?_,λk h=> ?_⟩
 .have:=(Qz.Le 1000000 (by omega)).1 h;omega
 .have:=(Qz.Le (1000002+k) (by omega)).1 h;omega
def Qm.nj:¬Qm.Al 1000000/\∀k,¬Qm.Al (1000002+k):=by
 refine⟨λh=> ?_,λk h=> ?_⟩
 .have:=(Qm.flag 1000000 (by omega)).1 h;omega
 .have:=(Qm.flag (1000002+k) (by omega)).1 h;omega
def Qz.ns {vb:Nat}:¬Qz.Aj vb 1000001:=λh=>by have:=(Qz.Bj vb 1000001 (by omega)).1 h;omega
def Qz.QL {vb k:Nat}(h:Qz.Aj vb (1000002+k)):k=vb:=by have:=(Qz.Bj vb (1000002+k) (by omega)).1 h;omega
def Qz.Xa {N k:Nat}(h:Qz.Ab N (1000002+k)):N<=k:=by have:=(Qz.Bl N (1000002+k) (by omega)).1 h;omega
def Qz.tl {N:Nat}:¬Qz.Ab N 1000000:=λh=>by have:=(Qz.Bl N 1000000 (by omega)).1 h;omega
def Qw.nf (k:Nat)(a:254<=k):¬Qw.Al k:=λh=>by have:=Sj k h;exact zFz.2 a this
def Qw.nv:¬Qw.Al 1000000/\∀k,¬Qw.Al (1000002+k):=⟨Qw.nf 1000000 (by omega),λk=>Qw.nf (1000002+k) (by omega)⟩
def Qz.Uu:Qz.Al 1000001:=(Qz.Le 1000001 (by omega)).2 rfl
def Qz.ju {vb:Nat}:Qz.Aj vb 1000000:=(Qz.Bj vb 1000000 (by omega)).2 (aG rfl)
def Qz.Ut {vb:Nat}:Qz.Aj vb (1000002+vb):=(Qz.Bj vb (1000002+vb) (by omega)).2 (aH rfl)
def Qz.hasB {N:Nat}:Qz.Ab N 1000001/\Qz.Ab N (1000002+N):=⟨(Qz.Bl N 1000001 (by omega)).2 (aG rfl),(Qz.Bl N (1000002+N) (by omega)).2 (aH rfl)⟩
def Qm.Uu:Qm.Al 1000001:=(Qm.flag 1000001 (by omega)).2 rfl
def Qm.Yb:¬Qm.Al 28:=by
 have:(Qm.ck (·==1000001)).al 28=aF:=by kernel_rfl
 intro h
 rw[show(Qm.ck (·==1000001)).al 28=aE from h]at this
 cases this
def Qm.fg:¬Qm.Al 42:=by
 have:(Qm.ck (·==1000001)).al 42=aF:=by kernel_rfl
 intro h
 rw[show(Qm.ck (·==1000001)).al 42=aE from h]at this
 cases this
open Go.Ren Go.Conc
def gR (tm:zA)(todo:zI):zC:={fn:=170,tmps:=tm,todo,defers:=[],mode:= .run,kind:= .normal}
def IQ (xs:zA):Frame.enter zq 170 xs .normal=gR (xs++Array.replicate (43-xs.size) undef) [.code Qz.AE]:=by unfold Frame.enter;rw[Qz.func170];rfl
section
variable {cs:zL}{S:zS}{tm:zA}{k:zI}{v v1:zW}{ops:zQ}{j:Nat}{rest:List Nat}{o:Oper}
def Ay {P:zZ}{fr:zC}{u:zW}(c:fr.mode= .run)(a:fr.todo=aM ops (j::rest)::k)(b:fr.roundOf=aB)(h:ops[j]? =aA o)(d:o.guard=aB)(mn:Bool):stepG P mn (G fr cs) u=stepG.apply P aE fr cs aB (aCF fr.eval o) u:=by
 obtain⟨fn,tmps,todo,defers,mode,kind,round⟩:=fr;dsimp only at c a b;subst c;subst a;subst b;show stepG.exec P mn aE ⟨fn,tmps,aM ops (j::rest)::k,defers,.run,kind,aB⟩ cs aB u=_
 have f:stepG.exec P mn aE ⟨fn,tmps,aM ops (j::rest)::k,defers,.run,kind,aB⟩ cs aB u=
   if(((ops[j]?).map (Region.wanted · (yielded ops tmps))).getD aF)=aE then stepG.oper P aE ⟨fn,tmps,aM ops (j::rest)::k,defers,.run,kind,aB⟩ cs aB u
   else .go (G (Frame.finish ⟨fn,tmps,aM ops (j::rest)::k,defers,.run,kind,aB⟩ undef) cs) u:=rfl
 have e:Region.wanted o (yielded ops tmps)=aE:=by unfold Region.wanted;rw[d]
 rw[f,h]
 simp only[zAx,zCc,e,zDf]
 unfold stepG.oper
 simp only[Frame.oper?,h]
def iS (a:ops[j]? =aA o)(g:o.guard=aB){y:zY}{b:zE}(f:(aCF (gR tm (aM ops (j::rest)::k)).eval o).runT zq v #[]=(.ok (.value y) v1,b)){tm1:zA}(c:tm1=match o.dst with|some d=>tm.setIfInBounds d y|none=>tm)
  (h:Lone zq cs S (gR tm1 (aM ops rest::k)) [] v1):Lone zq cs S (gR tm (aM ops (j::rest)::k)) [] v:=by
 obtain⟨m,e,_⟩:=tY (fr:=gR tm (aM ops (j::rest)::k)) (cs:=[]++cs) f
 refine Lone.step (aG rfl) ((Ay rfl rfl rfl a g aE).trans e) ?_
 have i:(gR tm (aM ops (j::rest)::k)).finish y=gR tm1 (aM ops rest::k):=by subst c;unfold Frame.finish gR;simp only[a,zCw];cases o.dst<;>rfl
 rw[i]
 exact h
def MH (a:ops[j]? =aA o)(f:o.guard=aB)(g:o.dst=aB){b:zE}(d:(aCF (gR tm (aM ops (j::rest)::k)).eval o).runT zq v #[]=(.ok .skip v1,b))
  (h:Lone zq cs S (gR tm (aM ops rest::k)) [] v1):Lone zq cs S (gR tm (aM ops (j::rest)::k)) [] v:=by
 have e:∃c,stepG.apply zq aE (gR tm (aM ops (j::rest)::k)) ([]++cs) aB (aCF (gR tm (aM ops (j::rest)::k)).eval o) v= .go (G ((gR tm (aM ops (j::rest)::k)).finish undef) ([]++cs)) v1 c:=by unfold stepG.apply;simp only[zDf];rw[d];exact⟨_,rfl⟩
 obtain⟨c,e⟩:=e
 refine Lone.step (aG rfl) ((Ay rfl rfl rfl a f aE).trans e) ?_
 have i:(gR tm (aM ops (j::rest)::k)).finish undef=gR tm (aM ops rest::k):=by unfold Frame.finish gR;simp only[a,zCw,g]
 rw[i]
 exact h
def YD (a:ops[j]? =aA o)(f:o.guard=aB){x:zY}{b:zE}(d:(aCF (gR tm (aM ops (j::rest)::k)).eval o).runT zq v #[]=(.halt (.panic x) v1,b))
  (h:S {gR tm (aM ops (j::rest)::k)with mode:= .panicking [{v:=x,recovered:=aF}]} [] v1):Lone zq cs S (gR tm (aM ops (j::rest)::k)) [] v:=by
 have e:∃c,stepG.apply zq aE (gR tm (aM ops (j::rest)::k)) ([]++cs) aB (aCF (gR tm (aM ops (j::rest)::k)).eval o) v= .go (G {gR tm (aM ops (j::rest)::k)with mode:= .panicking [{v:=x,recovered:=aF}]} ([]++cs)) v1 c:=by unfold stepG.apply;simp only[zDf];rw[d];exact⟨_,rfl⟩
 obtain⟨c,e⟩:=e
 exact Lone.step (aG rfl) ((Ay rfl rfl rfl a f aE).trans e) (.stop h)
def nI {todo todo':zI}(hs:∀c,stepG zq aE (G (gR tm todo) c) v= .go (G (gR tm todo') c) v #[])(h:Lone zq cs S (gR tm todo') [] v):Lone zq cs S (gR tm todo) [] v:=
 Lone.step (aG rfl) (hs _) h
end
open Go.Ren Go.Conc Go.RowKit
def gA (tm:zA):zY:= .func (.func 42) #[(tm.getD 2 undef),(tm.getD 3 undef),(tm.getD 4 undef),(tm.getD 5 undef),(tm.getD 6 undef),(tm.getD 7 undef),(tm.getD 8 undef),(tm.getD 9 undef),(tm.getD 10 undef)] #[]
def gB (tm:zA):zY:= .func (.func 42) #[(tm.getD 11 undef),(tm.getD 12 undef),(tm.getD 13 undef),(tm.getD 14 undef),(tm.getD 15 undef),(tm.getD 16 undef),(tm.getD 17 undef),(tm.getD 18 undef),(tm.getD 19 undef)] #[]
def gC (tm:zA):zY:= .func (.func 42) #[(tm.getD 0 undef),(tm.getD 1 undef),gA tm,gB tm] #[]
def told (tm:zA):List PanicEntry:=[{v:= .iface 224 (gC tm),recovered:=aF}]
def BC {Q:zZ}{t:zD}{d:TypeDesc}(h:Q.underlying t=aA d)(u:zW)(es:zE):(underlying t).runT Q u es=(.ok d u,es):=by
 unfold underlying;show(match Q.underlying t with|some d=>pure d|none=>stuck "no such type":Sem TypeDesc).runT Q u es=_
 rw[h]
 rfl
def OH {Q:zZ}{t:zD}{i:TypeInfo}(h:Q.info? t=aA i)(u:zW)(es:zE):(typeInfo t).runT Q u es=(.ok i u,es):=by
 unfold typeInfo;show(match Q.info? t with|some i=>pure i|none=>stuck _:Sem TypeInfo).runT Q u es=_
 rw[h]
 rfl
def OI {Q:zZ}{e:Operand->zY}{o:Oper}{f:zN}{xs:Array Operand}{ys:zA}(h:o.op= .makeFunc (.func f) xs #[])(a:xs.toList.map e=ys.toList)(u:zW)(es:zE):(aCF e o).runT Q u es=(.ok (.value (.func (.func f) ys #[])) u,es):=by
 have b:xs.map e=ys:=by apply zCx.1;rw[zGb];exact a
 unfold aCF
 rw[h]
 show(Result.ok (aCX (.func (.func f) (xs.map e) ((#[]:Array Operand).map e))) u,es)=_
 rw[b]
 simp
def gW {tm:zA}{i j:Nat}{x:zY}(h:i≠j):(tm.setIfInBounds i x).getD j undef=tm.getD j undef:=by rw[zBi,zBi,zAd h]
def aZ {tm:zA}{i:Nat}{x:zY}(h:i<tm.size):(tm.setIfInBounds i x).getD i undef=x:=by rw[zBi,zAo h];rfl
def Ts:∃i,Tryz.prog.info? 4=aA i/\i.zero=aA (.bool aF)/\i.size=1:=⟨_,rfl,rfl,rfl⟩
def Qz.info (t:zD):zq.info? t=Tryz.prog.info? t:=by rw[Qz.mZ]
def Qz.Rz:∃i,zq.info? 4=aA i/\i.zero=aA (.bool aF)/\i.size=1:=by rw[Qz.info];exact Ts
def Oo (T:Tables)(fs f:Array Func)(t:zD):(⟨T,fs⟩:zZ).underlying t=(⟨T,f⟩:zZ).underlying t:=rfl
def Qz.cO (t:zD):zq.underlying t=Tryz.prog.underlying t:=by unfold zq;exact Oo Tryz.prog.toTables (seven Tryz.prog.funcs) Tryz.prog.funcs t
def boxed (v:zW)(b:Bool):zW:={v with heap:=v.heap.push (aI #[.bool b] 4)}
section
variable {cs:zL}{S:zS}{v:zW}
def WY (w:zW):(do let x<-Instr.alloc 4 aE (.tuple #[]);pure (aCX x):Sem Next).runT zq w #[]=(.ok (.value (.pointer (aA ⟨w.heap.size,0,aB⟩))) (boxed w aF),#[]):=by obtain⟨i,b,a,h⟩:=Qz.Rz;simp[Instr.alloc,zeroValue,typeInfo,b,a,h,newVar,newRow,boxed,go_sem,Value.cells]
def Qz.Zw:zq.underlying 4=aA .bool:=by rw[Qz.cO];exact Tryz.underlying4
def MY (w:zW)(b:Bool)(a:zT)(d:Nat):((boxed w b).re a d).heap[w.heap.size]? =aA (aI #[.bool b] 4):=by
 show(w.heap.push _)[w.heap.size]? =_
 simp
def JI (w:zW)(b:Bool)(a:zT)(d:Nat):((boxed w b).re a d).cell? ⟨w.heap.size,0,aB⟩=aA (.bool b):=by unfold World.cell?;dsimp only;rw[MY];rfl
def Gq (w:zW)(b c:Bool)(a:zT)(d:Nat):((boxed w b).re a d).setCell ⟨w.heap.size,0,aB⟩ (.bool c)=(boxed w c).re a d:=by
 unfold World.setCell boxed World.re;dsimp only;congr 1;apply zCd;intro i;by_cases h:w.heap.size=i
 .subst h;rw[cM];simp
 .rw[bX _ h,zBh,zBh,zAh (zFg h),zAh (zFg h)]
def Eg (u:zW)(es:zE):(isAgg 4).runT zq u es=(.ok aF u,es):=by unfold isAgg;rw[bD];rw[BC Qz.Zw];rfl
def XA (u:zW)(es:zE):(Go.sizeOf 4).runT zq u es=(.ok 1 u,es):=by obtain⟨i,a,b,h⟩:=Qz.Rz;unfold Go.sizeOf;rw[bD];rw[OH a];dsimp only;rw[h];rfl
def Ja (w:zW)(b:Bool)(a:zT)(d:Nat)(es:zE):(do let x<-Instr.loadAt 4 (.pointer (aA ⟨w.heap.size,0,aB⟩));pure (aCX x):Sem Next).runT zq ((boxed w b).re a d) es=(.ok (.value (.bool b)) ((boxed w b).re a d),es.push ⟨.cell ⟨w.heap.size,0,aB⟩,aF,aF⟩):=by
 have e:(Instr.loadAt 4 (.pointer (aA ⟨w.heap.size,0,aB⟩))).runT zq ((boxed w b).re a d) es=(.ok (.bool b) ((boxed w b).re a d),es.push ⟨.cell ⟨w.heap.size,0,aB⟩,aF,aF⟩):=by
  show(loadVar 4 ⟨w.heap.size,0,aB⟩).runT zq ((boxed w b).re a d) es=_
  unfold loadVar
  rw[bD,Eg]
  show(Sem.load .plain ⟨w.heap.size,0,aB⟩ .pure).runT zq ((boxed w b).re a d) es=_
  simp only[Sem.runT,JI]
  rfl
 rw[bD,e]
 rfl
def Ef (w:zW)(b:Bool)(a:zT)(d:Nat)(es:zE):(do Instr.storeAt 4 (.pointer (aA ⟨w.heap.size,0,aB⟩)) (.bool aE);pure aCY:Sem Next).runT zq ((boxed w b).re a d) es=(.ok .skip ((boxed w aE).re a d),es.push ⟨.cell ⟨w.heap.size,0,aB⟩,aE,aF⟩):=by
 have h:((boxed w b).re a d).frozen? ⟨w.heap.size,0,aB⟩=aF:=by unfold World.frozen?;dsimp only;rw[MY];rfl
 have e:(Instr.storeAt 4 (.pointer (aA ⟨w.heap.size,0,aB⟩)) (.bool aE)).runT zq ((boxed w b).re a d) es=(.ok () ((boxed w aE).re a d),es.push ⟨.cell ⟨w.heap.size,0,aB⟩,aE,aF⟩):=by
  show(storeVar 4 ⟨w.heap.size,0,aB⟩ (.bool aE)).runT zq ((boxed w b).re a d) es=_
  unfold storeVar
  rw[bD,XA]
  show(Sem.store .plain ⟨w.heap.size,0,aB⟩ (.bool aE) (.pure ())).runT zq ((boxed w b).re a d) es=_
  simp only[Sem.runT,JI,h,zBf,zDp,Gq]
  rfl
 rw[bD,e]
 rfl
def Jb (x:zY)(u:zW)(es:zE):(do let y<-Instr.makeInterface 224 x;pure (aCX y):Sem Next).runT zq u es=(.ok (.value (.iface 224 x)) u,es):=by
 have e:(Instr.makeInterface 224 x).runT zq u es=(.ok (.iface 224 x) u,es):=by unfold Instr.makeInterface;rw[bD];rw[BC ((Qz.cO 224).trans Tryz.underlying224)];rfl
 rw[bD,e]
 rfl
def Ed (m:Bool)(n:Nat):Region.schedule m DZ n=if n%2=0 then [0,1]else [1,0]:=by
 have f:Region.departs DZ=aF:=by kernel_rfl
 unfold Region.schedule
 rw[f]
 simp only[Bool.not_false,Bool.or_true,zDf]
 unfold Region.linearise
 have d:((List.range DZ.size).filter λi=> !(#[aF,aF]:Array Bool).getD i aE&&((DZ[i]?).map (·.after.all λe=> !Region.binds .any e||(#[aF,aF]:Array Bool).getD e.on aF)).getD aF)=[0,1]:=by kernel_rfl
 have c:((List.range DZ.size).filter λi=> !(#[aE,aF]:Array Bool).getD i aE&&((DZ[i]?).map (·.after.all λe=> !Region.binds .any e||(#[aE,aF]:Array Bool).getD e.on aF)).getD aF)=[1]:=by kernel_rfl
 have b:((List.range DZ.size).filter λi=> !(#[aF,aE]:Array Bool).getD i aE&&((DZ[i]?).map (·.after.all λe=> !Region.binds .any e||(#[aF,aE]:Array Bool).getD e.on aF)).getD aF)=[0]:=by kernel_rfl
 show Region.linearise.go .any DZ 2 n #[aF,aF] []=_
 simp only[Region.linearise.go]
 rw[d]
 obtain h|h:=Nat.mod_two_eq_zero_or_one n
 .have a:([0,1]:List Nat)[n%([0,1]:List Nat).length]? =aA 0:=by simp[h]
  rw[a];dsimp only;show(match((List.range DZ.size).filter λi=> !(#[aE,aF]:Array Bool).getD i aE&&((DZ[i]?).map (·.after.all λe=> !Region.binds .any e||(#[aE,aF]:Array Bool).getD e.on aF)).getD aF)[n/2%((List.range DZ.size).filter λi=> !(#[aE,aF]:Array Bool).getD i aE&&((DZ[i]?).map (·.after.all λe=> !Region.binds .any e||(#[aE,aF]:Array Bool).getD e.on aF)).getD aF).length]? with|some i=>_|none=>_)=_
  rw[c]
  simp[h,aC0]
 .have a:([0,1]:List Nat)[n%([0,1]:List Nat).length]? =aA 1:=by simp[h]
  rw[a];dsimp only;show(match((List.range DZ.size).filter λi=> !(#[aF,aE]:Array Bool).getD i aE&&((DZ[i]?).map (·.after.all λe=> !Region.binds .any e||(#[aF,aE]:Array Bool).getD e.on aF)).getD aF)[n/2%((List.range DZ.size).filter λi=> !(#[aF,aE]:Array Bool).getD i aE&&((DZ[i]?).map (·.after.all λe=> !Region.binds .any e||(#[aF,aE]:Array Bool).getD e.on aF)).getD aF).length]? with|some i=>_|none=>_)=_
  rw[b]
  simp[h,aC0]
def Ee (a:zT)(d:Nat):Nat:=(Question.order 170 1).cut (a d (.order 170 1))%2
def MI {tm:zA}{k:zI}{l:List Nat}(a:zT)(d:Nat)(b:(if Ee a d=0 then [0,1]else [1,0])=l)(h:Lone zq cs S (gR tm (aM DZ l::k)) [] (v.re a (d+1))):Lone zq cs S (gR tm (.code (.region 1 DZ aE)::k)) [] (v.re a d):=by
 refine Lone.step (fr1:=gR tm (aM DZ l::k)) (own1:=[]) (v1:=v.re a (d+1)) (es:= #[]) (aG rfl) ?_ h;subst b;show GStep.go (G (gR tm (aM DZ (Region.schedule (zq.follows .mixedOrders) DZ ((Question.order 170 1).cut (a d (.order 170 1))))::k)) ([]++cs)) (v.re a (d+1)) #[]=_
 rw[Ed]
 rfl
def NO {tm:zA}{a b:Code}{k:zI}{u:zW}(h:Lone zq cs S (gR tm (.code a:: .code b::k)) [] u):Lone zq cs S (gR tm (.code (.seq a b)::k)) [] u:=nI (λc=>rfl) h
def AT {tm:zA}{id:Nat}{ops:zQ}{k:zI}{u:zW}(h:Lone zq cs S (gR tm (aM ops (List.range ops.size)::k)) [] u):Lone zq cs S (gR tm (.code (.region id ops aF)::k)) [] u:=nI (λc=>rfl) h
def NQ {tm:zA}{ops:zQ}{k:zI}{u:zW}(h:Lone zq cs S (gR tm k) [] u):Lone zq cs S (gR tm (aM ops []::k)) [] u:=nI (λc=>rfl) h
def Ou {tm:zA}{k:zI}{u:zW}(h:Lone zq cs S (gR tm k) [] u):Lone zq cs S (gR tm (.code .skip::k)) [] u:=nI (λc=>rfl) h
def Af {tm:zA}{t:Nat}{a b:Code}{k:zI}{u:zW}(c:Bool)(d:tm.getD t undef= .bool c)(h:Lone zq cs S (gR tm (.code (if c then a else b)::k)) [] u):Lone zq cs S (gR tm (.code (.cond (.tmp t) a b)::k)) [] u:=by
 refine nI (λcs=> ?_) h;show stepG.exec zq aE aE (gR tm (.code (.cond (.tmp t) a b)::k)) cs aB u=_
 unfold stepG.exec
 dsimp only[gR]
 rw[show Frame.eval ⟨170,tm,.code (.cond (.tmp t) a b)::k,[],.run,.normal,aB⟩ (.tmp t)= .bool c from d]
 cases c<;>rfl
def tm1 (tm:zA):zA:=tm.setIfInBounds 20 (gA tm)
def NR (tm:zA):zA:=(tm1 tm).setIfInBounds 21 (gB tm)
def Wa (tm:zA):zA:=(NR tm).setIfInBounds 22 (gC tm)
def VQ (tm:zA)(v:zW):zA:=(Wa tm).setIfInBounds 23 (.pointer (aA ⟨v.heap.size,0,aB⟩))
def tj (tm:zA)(k:zI)(u:zW)(es:zE):(aCF (gR tm k).eval ep).runT zq u es=(.ok (.value (gA tm)) u,es):=OI (xs:= #[.tmp 2,.tmp 3,.tmp 4,.tmp 5,.tmp 6,.tmp 7,.tmp 8,.tmp 9,.tmp 10]) (ys:= #[(tm.getD 2 undef),(tm.getD 3 undef),(tm.getD 4 undef),(tm.getD 5 undef),(tm.getD 6 undef),(tm.getD 7 undef),(tm.getD 8 undef),(tm.getD 9 undef),(tm.getD 10 undef)]) rfl rfl u es
def th {tm:zA}(k:zI)(u:zW)(es:zE):(aCF (gR (tm1 tm) k).eval ej).runT zq u es=(.ok (.value (gB tm)) u,es):=OI (xs:= #[.tmp 11,.tmp 12,.tmp 13,.tmp 14,.tmp 15,.tmp 16,.tmp 17,.tmp 18,.tmp 19]) (ys:= #[(tm.getD 11 undef),(tm.getD 12 undef),(tm.getD 13 undef),(tm.getD 14 undef),(tm.getD 15 undef),(tm.getD 16 undef),(tm.getD 17 undef),(tm.getD 18 undef),(tm.getD 19 undef)]) rfl (by simp[Frame.eval,gR,tm1,gW]) u es
def tg {tm:zA}(h:tm.size=43)(k:zI)(u:zW)(es:zE):(aCF (gR (NR tm) k).eval eh).runT zq u es=(.ok (.value (gC tm)) u,es):=by
 have a:(NR tm).getD 20 undef=gA tm:=by unfold NR tm1;rw[gW (by decide),aZ (by omega)]
 have e:(NR tm).getD 21 undef=gB tm:=by unfold NR tm1;rw[aZ (by simp[h])]
 have c:(NR tm).getD 0 undef=tm.getD 0 undef:=by unfold NR tm1;rw[gW (by decide),gW (by decide)]
 have b:(NR tm).getD 1 undef=tm.getD 1 undef:=by unfold NR tm1;rw[gW (by decide),gW (by decide)]
 exact OI (xs:= #[.tmp 0,.tmp 1,.tmp 20,.tmp 21]) (ys:= #[tm.getD 0 undef,tm.getD 1 undef,gA tm,gB tm]) rfl (by
  show [(NR tm).getD 0 undef,(NR tm).getD 1 undef,(NR tm).getD 20 undef,(NR tm).getD 21 undef]=_
  rw[c,b,a,e]) u es
def Ag {tm:zA}(h:tm.size=43)(v:zW):(VQ tm v).getD 23 undef= .pointer (aA ⟨v.heap.size,0,aB⟩):=by unfold VQ Wa NR tm1;rw[aZ (by simp[h])]
def Ah {tm:zA}(v:zW){i:Nat}(h:i<20):(VQ tm v).getD i undef=tm.getD i undef:=by unfold VQ Wa NR tm1;rw[gW (by omega),gW (by omega),gW (by omega),gW (by omega)]
def Ii {tm:zA}(h:tm.size=43)(v:zW):(VQ tm v).getD 22 undef=gC tm:=by unfold VQ Wa NR tm1;rw[gW (by decide),aZ (by simp[h])]
def sO {tm:zA}(h:tm.size=43)(v:zW):(VQ tm v).size=43:=by simp[VQ,Wa,NR,tm1,h]
def CL (a:zT)(d:Nat){tm:zA}(b:tm.size=43)(h:Lone zq cs S (gR (VQ tm v) [.code (.region 1 DZ aE),.code fb]) [] ((boxed v aF).re a d)):
  Lone zq cs S (gR tm [.code Qz.AE]) [] (v.re a d):=by
 refine nI (todo':=[.code (.region 0 ef aF),.code ba]) (λc=>rfl) ?_
 refine nI (todo':=[aM ef [0,1,2,3],.code ba]) (λc=>rfl) ?_
 refine iS (o:=ep) (y:=gA tm) (tm1:=tm1 tm) rfl rfl (tj tm _ _ _) rfl ?_
 refine iS (o:=ej) (y:=gB tm) (tm1:=NR tm) rfl rfl (th _ _ _) rfl ?_
 refine iS (o:=eh) (y:=gC tm) (tm1:=Wa tm) rfl rfl (tg b _ _ _) rfl ?_
 refine iS (o:=mh) (y:= .pointer (aA ⟨v.heap.size,0,aB⟩)) (tm1:=VQ tm v) rfl rfl (WY _) rfl ?_
 refine nI (todo':=[.code ba]) (λc=>rfl) ?_
 refine nI (todo':=[.code (.region 1 DZ aE),.code fb]) (λc=>rfl) ?_
 exact h
def UE {tm:zA}(h:tm.getD 23 undef= .pointer (aA ⟨v.heap.size,0,aB⟩))(k:zI)(b:Bool)(a:zT)(d:Nat):(aCF (gR tm k).eval Wc).runT zq ((boxed v b).re a d) #[]=(.ok .skip ((boxed v aE).re a d),#[⟨.cell ⟨v.heap.size,0,aB⟩,aE,aF⟩]):=by
 have e:aCF (gR tm k).eval Wc=(do Instr.storeAt 4 (tm.getD 23 undef) (.bool aE);pure aCY:Sem Next):=by unfold aCF Wc;rfl
 rw[e,h,Ef]
 rfl
def Bn {tm:zA}(h:tm.getD 23 undef= .pointer (aA ⟨v.heap.size,0,aB⟩))(k:zI)(b:Bool)(a:zT)(d:Nat):(aCF (gR tm k).eval Wd).runT zq ((boxed v b).re a d) #[]=(.ok (.value (.bool b)) ((boxed v b).re a d),#[⟨.cell ⟨v.heap.size,0,aB⟩,aF,aF⟩]):=by
 have e:aCF (gR tm k).eval Wd=(do let x<-Instr.loadAt 4 (tm.getD 23 undef);pure (aCX x):Sem Next):=by unfold aCF Wd;rfl
 rw[e,h,Ja]
 rfl
def Ll {tm:zA}(k:zI)(u:zW):(aCF (gR tm k).eval Xr).runT zq u #[]=(.ok (.value (.iface 224 (tm.getD 22 undef))) u,#[]):=by
 have e:aCF (gR tm k).eval Xr=(do let y<-Instr.makeInterface 224 (tm.getD 22 undef);pure (aCX y):Sem Next):=by unfold aCF Xr;rfl
 rw[e,Jb]
def Lk {tm:zA}{x:zY}(h:tm.getD 25 undef= .iface 224 x)(k:zI)(u:zW):(aCF (gR tm k).eval Xq).runT zq u #[]=(.halt (.panic (.iface 224 x)) u,#[]):=by
 have e:aCF (gR tm k).eval Xq=(do let y<-Instr.panic (tm.getD 25 undef);pure (aCX y):Sem Next):=by unfold aCF Xq;rfl
 rw[e,h]
 rfl
def ZJ {P:zZ}{fr:zC}{ops:zQ}{l:List Nat}{k:zI}(h:fr.todo=aM ops l::k):fr.catches P=aF:=by unfold Frame.catches;rw[h];cases P.funcs[fr.fn]? <;>rfl
def KZ (c:zT)(d:Nat)(hs:Ee c d=0){tm:zA}(e:tm.size=43)(h:∀fr:zC,fr.fn=170->fr.mode= .panicking (told tm)->fr.defers=[]->fr.catches zq=aF->S fr [] ((boxed v aE).re c (d+1))):
  Lone zq cs S (gR tm [.code Qz.AE]) [] (v.re c d):=by
 refine CL c d e ?_
 refine MI (v:=boxed v aF) c d (by rw[hs]) ?_
 have j:=Ag e v
 refine MH (o:=Wc) (v1:=(boxed v aE).re c (d+1)) rfl rfl rfl (UE j _ aF _ _) ?_
 refine iS (o:=Wd) (y:= .bool aE) (tm1:=(VQ tm v).setIfInBounds 24 (.bool aE)) rfl rfl (Bn j _ aE _ _) rfl ?_
 refine NQ (NO (a:=Ud) (b:=ez) ?_)
 have g:((VQ tm v).setIfInBounds 24 (.bool aE)).getD 24 undef= .bool aE:=aZ (by rw[sO e];decide)
 have i:((VQ tm v).setIfInBounds 24 (.bool aE)).getD 22 undef=gC tm:=by rw[gW (by decide)];exact Ii e v
 refine Af (a:= .region 2 ee aF) (b:= .skip) aE g (AT ?_)
 refine iS (o:=Xr) (y:= .iface 224 (gC tm)) (tm1:=((VQ tm v).setIfInBounds 24 (.bool aE)).setIfInBounds 25 (.iface 224 (gC tm))) rfl rfl (by rw[Ll,i]) rfl ?_
 have f:(((VQ tm v).setIfInBounds 24 (.bool aE)).setIfInBounds 25 (.iface 224 (gC tm))).getD 25 undef= .iface 224 (gC tm):=aZ (by simp[sO e])
 refine YD (o:=Xq) (x:= .iface 224 (gC tm)) rfl rfl (Lk f _ _) ?_
 exact h _ rfl rfl rfl (ZJ rfl)
def JV (tm:zA)(v:zW):zA:=(VQ tm v).setIfInBounds 24 (.bool aF)
def Oi (c:zT)(d:Nat)(hs:Ee c d≠0){tm:zA}(e:tm.size=43)(h:Lone zq cs S (gR (JV tm v) [aM XF [0],.code XG]) [] ((boxed v aE).re c (d+1))):
  Lone zq cs S (gR tm [.code Qz.AE]) [] (v.re c d):=by
 refine CL c d e ?_
 refine MI (v:=boxed v aF) c d (by rw[zAh hs]) ?_
 have i:=Ag e v
 have f:(JV tm v).getD 23 undef= .pointer (aA ⟨v.heap.size,0,aB⟩):=by unfold JV;rw[gW (by decide)];exact i
 refine iS (o:=Wd) (y:= .bool aF) (tm1:=JV tm v) rfl rfl (Bn i _ aF _ _) rfl ?_
 refine MH (o:=Wc) (v1:=(boxed v aE).re c (d+1)) rfl rfl rfl (UE f _ aF _ _) ?_
 refine NQ (NO (a:=Ud) (b:=ez) ?_)
 have g:(JV tm v).getD 24 undef= .bool aF:=aZ (by rw[sO e];decide)
 exact Af (a:= .region 2 ee aF) (b:= .skip) aF g (Ou (NO (a:= .region 3 XF aF) (b:=XG) (AT h)))
def full (xs:zA):zA:=xs++Array.replicate (43-xs.size) undef
def lS {xs:zA}(h:xs.size<=20):(full xs).size=43:=by simp[full];omega
def Qz.Ue:Nf zq Qz.Al 170 λx=>told (full x):=⟨λx v D h _=>⟨λ_ _=>0,0,by
 rw[IQ];refine KZ (λ_ _=>0) 0 (by decide) (lS h) λg f d c a=>⟨rfl,d,c,a,?_,λb e=> ?_⟩
 .show(v.heap.push _).size=v.heap.size+1
  rw[zBb]
 .show(v.heap.push _)[b]? =_
  rw[zBh,zAh (by omega)]⟩⟩
end
end Go.Proofs
