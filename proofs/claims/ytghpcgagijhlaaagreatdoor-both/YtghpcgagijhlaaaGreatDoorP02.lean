import Derived.Test.YtghpcgagijhlaaaGreatDoorP01
set_option linter.all false
set_option maxRecDepth 100000
set_option maxHeartbeats 16000000
open Option renaming some->aA,none->aB
open Bool renaming true->aE
open Or renaming inl->aG,inr->aH
open Go renaming runtimePanic->aCB
namespace Go.Ren
def Flat (v:zY):Prop:=∀(Al:zF)(π:Rn),bG Al π v v
structure JR (P:zZ):Prop where
 zero:∀t i z,t<P.types.size->P.info? t=aA i->i.zero=aA z->Flat z
 slice:∀t e,t<P.types.size->P.underlying t=aA (.slice e)->e<P.types.size
 array:∀t n e,t<P.types.size->P.underlying t=aA (.array n e)->e<P.types.size
 pointer:∀t e,t<P.types.size->P.underlying t=aA (.pointer e)->e<P.types.size
abbrev ER {α:Type}:Rn->α->α->Prop:=λ_ a b=>a=b
abbrev VR (Al:zF):Rn->zY->zY->Prop:=λπ a b=>bG Al π a b
abbrev Wt (Al:zF):Rn->zA->zA->Prop:=λπ a b=>aW Al π a b
abbrev AR:Rn->Addr->Addr->Prop:=λπ a b=>bV π a b
section
variable {P:zZ}{Al:zF}{F:Kp}{π:Rn}{α β γ δ:Type}{A:Rn->α->β->Prop} [ok:Ok P π]
def aR {B:Rn->γ->δ->Prop}(A:Rn->α->β->Prop){s:Sem α}{s':Sem β}{f:α->Sem γ}{f':β->Sem δ}(h:bR P Al F A π s s')
  (c:∀(ρ:Rn) a b,Ok P ρ->(∀x y,π x y->ρ x y)->A ρ a b->bR P Al F B ρ (f a) (f' b)):bR P Al F B π (s>>=f) (s'>>=f'):=bR.bind ok h c
def RN {a:Halt}{s':Sem β}(h:Fatal a):bR P Al F A π (.halt a) s':= .dead λv e=>⟨a,v,e,rfl,h⟩
def aT {w:String}{s':Sem β}:bR P Al F A π (stuck w) s':=RN (by simp)
def aU {u:Unsupported}{s':Sem β}(h:∀g,u≠.initOrder g:=by simp):bR P Al F A π (unsupported u) s':=RN (aH ⟨u,rfl,h⟩)
def aS {a:α}{b:β}(h:A π a b):bR P Al F A π (Pure.pure a) (Pure.pure b):= .pure h
def nP {x a:zY}(h:bG Al π x a):bR P Al F A π (goPanic x) (goPanic a):= .panic h
def gE (q:Question):bR P Al F ER π (choose q) (choose q):= .choose λ_=> .pure rfl
def eB {B:Rn->γ->δ->Prop}{k:zZ->Sem γ}{k':zZ->Sem δ}(a:∀fs,Shape P fs->k' ⟨P.toTables,fs⟩=k' P)
  (h:∀(ρ:Rn)(p q:zZ),Ok P ρ->(∀x y,π x y->ρ x y)->(p=P/\q=P)->bR P Al F B ρ (k p) (k' q)):bR P Al F B π (program>>=k) (program>>=k'):=
 .program a (h π P P ok (λ_ _ x=>x) ⟨rfl,rfl⟩)
def Io {s:Sem α}{s':Sem β}(h:∀v es,∃a w e,s.runT P v es=(.halt a w,e)/\Fatal a):bR P Al F A π s s':= .dead h
def aX (t:zD):bR P Al F (λ_ a b=>a=b/\P.underlying t=aA a) π (underlying t) (underlying t):=by
 unfold underlying;refine eB (λ_ _=>rfl) ?_;rintro f p q ok g ⟨e,c⟩;rw[e,c];cases h:P.underlying t with
 |none=>exact aT
 |some d=>exact aS ⟨rfl,rfl⟩
def eY (t:zD):bR P Al F (λ_ a b=>a=b/\P.info? t=aA a) π (typeInfo t) (typeInfo t):=by
 unfold typeInfo;refine eB (λ_ _=>rfl) ?_;rintro f p q ok g ⟨e,c⟩;rw[e,c];cases h:P.info? t with
 |none=>exact aT
 |some d=>exact aS ⟨rfl,rfl⟩
def bZ (t:zD):bR P Al F ER π (sizeOf t) (sizeOf t):=by unfold sizeOf;refine aR _ (eY t) ?_;rintro b a _ ok h ⟨rfl,_⟩;exact aS rfl
def LI (t:zD):bR P Al F ER π (isAgg t) (isAgg t):=by unfold isAgg;refine aR _ (aX t) ?_;rintro b a _ ok h ⟨rfl,_⟩;cases a<;>exact aS rfl
def gD (e:JR P){t:zD}(c:t<P.types.size):bR P Al F (VR Al) π (zeroValue t) (zeroValue t):=by
 unfold zeroValue;refine aR _ (eY t) ?_;rintro b a _ ok f ⟨rfl,d⟩;cases h:a.zero with
 |none=>exact aU
 |some z=>exact aS (e.zero t a z c d h Al b)
def RL {a a':Addr}(h:bV π a a')(m:Mode):bR P Al F (VR Al) π (load a m) (load a' m):= .load h λ_ _ b=> .pure b
def xP {a a':Addr}(h:bV π a a')(n:Nat):∀(i:Nat){acc b:zA},aW Al π acc b->bR P Al F (Wt Al) π (loadCellsFrom a i n acc) (loadCellsFrom a' i n b):=by
 induction n with
 |zero=>intro i acc b c;exact aS c
 |succ n d=>intro i acc b c;unfold loadCellsFrom;exact .load (h.add i) λv f e=>d (i+1) (c.push e)
def pO {a a':Addr}(h:bV π a a')(n:Nat):bR P Al F (Wt Al) π (loadCells a n) (loadCells a' n):=xP h n 0 .nil
def cD {x a:zY}{l c:zV}(h:aW Al π (x::l).toArray (a::c).toArray):bG Al π x a/\aW Al π l.toArray c.toArray:=
 ⟨h.at' 0 x a (by simp) (by simp),by have:=h.size;simp at this⊢;exact this,λi v d e b=>h.at' (i+1) v d (by simpa using e) (by simpa using b)⟩
def kT:∀(l b:zV){a d:Addr}(i:Nat),bV π a d->aW Al π l.toArray b.toArray->bR P Al F ER π (storeCells a l i) (storeCells d b i):=by
 intro l;induction l with
 |nil=>
  intro b a d i h c;have:=c.size;cases b with
  |nil=>exact aS rfl
  |cons _ _=>simp at this
 |cons x l e=>
  intro b a d i h c;cases b with
  |nil=>have:=c.size;simp at this
  |cons j b=>obtain⟨g,f⟩:=cD c;unfold storeCells;exact .store (h.add i) g (e b (i+1) h f)
def CR {a a':Addr}(h:bV π a a')(t:zD):bR P Al F (VR Al) π (loadVar t a) (loadVar t a'):=by
 unfold loadVar;refine aR _ (LI t) ?_;rintro k b _ ok e rfl;cases b with
 |false=>exact RL (h.mono e) _
 |true=>refine aR _ (bZ t) ?_;rintro j n _ ok d rfl;refine aR _ (pO ((h.mono e).mono d) n) ?_;intro i c c' ok g f;exact aS (.agg f.size f.at')
def toArray_toList (c:zA):c.toList.toArray=c:=by simp
def NZ {a a':Addr}(h:bV π a a'){x b:zY}(f:bG Al π x b)(t:zD):bR P Al F ER π (storeVar t a x) (storeVar t a' b):=by
 unfold storeVar;have d:=f.cells;refine aR _ (bZ t) ?_;rintro g n _ ok c rfl;rw[d.size];by_cases e:x.cells.size=n
 .simp only[e,ne_eq,not_true_eq_false,zDp];exact kT _ _ 0 (h.mono c) (by rw[toArray_toList,toArray_toList];exact d.mono c)
 .simp only[e,ne_eq,not_false_eq_true,zDf];exact aT
def lQ {c c':zA}(h:aW Al π c c')(ty:zD):bR P Al F AR π (newRow ty c) (newRow ty c'):= .new h λ_ _ _ _ _ a=> .pure ⟨a,rfl,rfl⟩
def wJ {x a:zY}(h:bG Al π x a)(ty:zD):bR P Al F AR π (newVar ty x) (newVar ty a):=lQ h.cells ty
def jO {c c':zA}(h:aW Al π c c')(t:zD)(off:Nat):bR P Al F (VR Al) π (part t c off) (part t c' off):=by
 unfold part;refine aR _ (LI t) ?_;rintro j b _ ok d rfl;cases b with
 |true=>refine aR _ (bZ t) ?_;rintro i n _ ok a rfl;have:=((h.mono d).mono a).extract off (off+n);exact aS (.agg this.size this.at')
 |false=>
  obtain⟨e,_⟩|⟨x,k,e,g,f⟩:=h.get off
  .simp only[e];exact aT
  .simp only[e,g];exact aS (f.mono d)
def eQ:bG Al π (.tuple #[]) (.tuple #[]):= .tuple rfl (by simp)
def mJ {x a:zY}(h:bG Al π x a):bR P Al F ER π (asIntOf x) (asIntOf a):=by
 cases h with
 |int k n=>exact aS rfl
 |pointer b=>cases b with
  |none=>exact aT
  |some _=>exact aU
 |_=>exact aT
def nQ {x b:zY}(h:bG Al π x b):bR P Al F ER π (asInt x) (asInt b):=by unfold asInt;refine aR _ (mJ h) ?_;rintro c a _ ok d rfl;exact aS rfl
def FZ {x a:zY}(h:bG Al π x a):bR P Al F ER π (asBool x) (asBool a):=by
 cases h with
 |bool b=>exact aS rfl
 |_=>exact aT
def Dx {x a:zY}(h:bG Al π x a):bR P Al F (Wt Al) π (asAgg x) (asAgg a):=by
 cases h with
 |agg c b=>exact aS ⟨c,b⟩
 |_=>exact aT
def kS {x a:zY}(h:bG Al π x a):bR P Al F AR π (Instr.sureAddr x) (Instr.sureAddr a):=by
 cases h with
 |pointer b=>cases b with
  |none=>exact aT
  |some h=>exact aS h
 |_=>exact aT
def jC {s:Rn->α->β->Prop}:bR P Al F s π (aCB .nilDeref) (aCB .nilDeref):=by unfold aCB;refine eB (λ_ _=>rfl) ?_;rintro b p q ok c ⟨a,h⟩;rw[a,h];exact nP (.iface _ (.string _))
def dK (m:String){s:Rn->α->β->Prop}:bR P Al F s π (aCB (.error m)) (aCB (.error m)):=by unfold aCB;refine eB (λ_ _=>rfl) ?_;rintro b p q ok c ⟨a,h⟩;rw[a,h];exact nP (.iface _ (.string _))
def xK (x y:Int)(t:Bool)(c:BoundsCode){s:Rn->α->β->Prop}:bR P Al F s π (aCB (.bounds x y t c)) (aCB (.bounds x y t c)):=by
 unfold aCB;refine eB (λ_ _=>rfl) ?_;rintro g p q ok j ⟨f,d⟩;rw[f,d];refine nP (.iface _ (.agg rfl ?_));intro i v b a h;have e:v=b:=by rw[a]at h;exact zAm h
 subst e
 have:i=0\/i=1\/i=2\/i=3:=by have:=(zAb.1 a).1;simp at this;omega
 obtain rfl|rfl|rfl|rfl:=this<;>simp at a<;>subst a<;>constructor
def fF (k:IntKind)(x y:Int)(c:BoundsCode){s:Rn->α->β->Prop}:bR P Al F s π (boundsPanic k x y c) (boundsPanic k x y c):=by
 unfold boundsPanic;dsimp only;split
 .refine aR ER ?_ ?_
  .show bR P Al F ER π (choose _>>=λx=>Pure.pure (x==1)) (choose _>>=λx=>Pure.pure (x==1))
   refine aR ER (gE _) ?_;rintro b a _ ok h rfl;exact aS rfl
  .rintro b a _ ok h rfl;exact xK _ _ _ _
 .refine aR ER (aS rfl) ?_;rintro b a _ ok h rfl;exact xK _ _ _ _
def GA {x a:zY}(h:bG Al π x a):bR P Al F AR π (asAddr x) (asAddr a):=by
 cases h with
 |pointer b=>cases b with
  |none=>exact jC
  |some h=>exact aS h
 |_=>exact aT
end
section
variable(P:zZ)(fs:Array Func)
def jN:∀(d:Nat)(t:zD)(off:Nat),byteOfCell ⟨P.toTables,fs⟩ d t off=byteOfCell P d t off
 |0,_,_=>rfl
 |d+1,t,off=>by unfold byteOfCell;simp only[jN d];rfl
def vL:∀(d:Nat)(t:zD)(off:Nat),cellOfByte ⟨P.toTables,fs⟩ d t off=cellOfByte P d t off
 |0,_,_=>rfl
 |d+1,t,off=>by unfold cellOfByte;simp only[vL d];rfl
def sR (d:Nat)(e:zD)(c o:Nat)(b:Int):cellAtBytes ⟨P.toTables,fs⟩ d e c o b=cellAtBytes P d e c o b:=by unfold cellAtBytes;simp only[jN,vL];rfl
def QZ:∀(d:Nat)(t u:zD),Program.alikeButTags ⟨P.toTables,fs⟩ d t u=P.alikeButTags d t u
 |0,_,_=>rfl
 |d+1,t,u=>by unfold Program.alikeButTags;simp only[QZ d]
def NU (t:zD):Program.stoodInAs ⟨P.toTables,fs⟩ t=P.stoodInAs t:=by unfold Program.stoodInAs;simp only[QZ];rfl
def kQ (t:zD):Program.stoodInHeld ⟨P.toTables,fs⟩ t=P.stoodInHeld t:=by unfold Program.stoodInHeld;rw[NU]
def rZ:∀(d:Nat)(t:zD),Program.holdsStoodIn ⟨P.toTables,fs⟩ d t=P.holdsStoodIn d t
 |0,_=>rfl
 |d+1,t=>by unfold Program.holdsStoodIn;simp only[rZ d,kQ];rfl
def sP:∀(d:Nat)(t:zD),Program.eqGuardType ⟨P.toTables,fs⟩ d t=P.eqGuardType d t
 |0,_=>rfl
 |d+1,t=>by unfold Program.eqGuardType;simp only[sP d];rfl
def QX (fits:zD->Bool):∀(d:Nat)(e:zD)(c o n:Nat),rowAt ⟨P.toTables,fs⟩ fits d e c o n=rowAt P fits d e c o n
 |0,_,_,_,_=>rfl
 |d+1,e,c,o,n=>by unfold rowAt;simp only[QX fits d,kQ];rfl
def vK:∀(d:Nat)(t u:zD),sameLayout ⟨P.toTables,fs⟩ d t u=sameLayout P d t u
 |0,_,_=>rfl
 |d+1,t,u=>by unfold sameLayout;simp only[vK d,kQ];rfl
def LF:∀(d:Nat)(e:zD)(c o:Nat)(u:zD)(n:Nat),liesAt ⟨P.toTables,fs⟩ d e c o u n=liesAt P d e c o u n
 |0,_,_,_,_,_=>rfl
 |d+1,e,c,o,u,n=>by unfold liesAt;simp only[LF d,QX,vK];rfl
end
section
variable {P:zZ}{Al:zF}{F:Kp}{π:Rn}{α β γ δ:Type}{A:Rn->α->β->Prop} [ok:Ok P π]
def fV {r r':Nat}(h:π r r'):bR P Al F ER π (shape r) (shape r'):= .shape h λ_=> .pure rfl
def lR (hF:∀b,¬F b){a a':Addr}(h:bV π a a'):bR P Al F ER π (frozen a) (frozen a'):= .frozen hF h λ_=> .pure rfl
def WR (hF:∀b,¬F b){a a':Addr}(h:bV π a a')(n:Nat):bR P Al F ER π (freeze a n) (freeze a' n):= .freeze hF h (.pure rfl)
def sW (n:Nat):bR P Al F ER π (askRoom n) (askRoom n):=by
 unfold askRoom;split
 .exact .mark (aG rfl) (.pure rfl)
 .exact .pure rfl
inductive Nq (π:Rn):Option (Addr×zD)->Option (Addr×zD)->Prop
 |none:Nq π aB aB
 |some {a a':Addr} {t:zD} (h:bV π a a'):Nq π (aA (a,t)) (aA (a',t))
def qY {r r':Nat}(h:π r r'):bR P Al F Nq π (viewAt r) (viewAt r'):=by
 unfold viewAt;refine aR _ (fV h) ?_;rintro e s _ ok c rfl;cases s with
 |some x=>exact aS .none
 |none=>
  refine .getObj (c _ _ h) ?_;rintro o g (⟨b,a⟩|⟨x,f,b,a,d⟩)
  .rw[a];cases o with
   |view x u=>exact absurd rfl (b.2.1 x u)
   |_=>exact .pure .none
  .cases b;cases a;cases d with
   |view h u _=>exact .pure (.some h)
   |number h l=>exact .pure .none
def nZ {a a':Addr}(h:bV π a a'):bR P Al F ER π (noView a) (noView a'):=by
 unfold noView;refine aR _ (qY h.1) ?_;intro c s d ok e b;cases b with
 |none=>exact aS rfl
 |some _=>exact aU
def vP (hF:∀b,¬F b){a a':Addr}(h:bV π a a'):bR P Al F ER π (stringish a) (stringish a'):=by
 unfold stringish;refine aR _ (lR hF h) ?_;rintro f b _ ok d rfl;cases b with
 |true=>exact aS rfl
 |false=>
  refine aR _ (fV (d _ _ h.1)) ?_;rintro e s _ ok c rfl;cases s with
  |none=>exact aS rfl
  |some x=>exact lR hF ⟨c _ _ (d _ _ h.1),rfl,rfl⟩
def xN (hF:∀b,¬F b){a a' b j:Addr}(h:bV π a a')(k:bV π b j):bR P Al F ER π (mayBeOne a b) (mayBeOne a' j):=by
 unfold mayBeOne;dsimp only;have n:∀(d:Rn)(x f:Addr),Ok P d->bV d x f->bR P Al F ER d (do pure ((<-shape x.block) matches aA (_,0))) (do pure ((<-shape f.block) matches aA (_,0))):=by intro d x f ok o;refine aR _ (fV o.1) ?_;rintro i s _ ok v rfl;exact aS rfl
 refine aR _ (vP hF h) ?_
 rintro d s1 _ ok c rfl
 refine aR _ (vP hF (k.mono c)) ?_
 rintro i s2 _ ok e rfl
 have q:=(h.mono c).mono e
 have m:=(k.mono c).mono e
 refine aR ER (n i _ _ ok q) ?_
 rintro l u _ ok g rfl
 refine aR ER (n l _ _ ok (m.mono g)) ?_
 rintro r t _ ok p rfl
 exact aS rfl
def addr_eq (ok:Ok P π){a a' b c:Addr}(h:bV π a a')(k:bV π b c):(a'=c↔a=b):=by
 have:=ok.inj h.1 k.1;obtain⟨_,g,f⟩:=h;obtain⟨_,k2,d⟩:=k;constructor
 .intro e;cases a;cases b;cases a';cases c;cases e;simp_all
 .intro e;cases a;cases b;cases a';cases c;cases e;simp_all
end
section
variable {P:zZ}{Al:zF}{F:Kp}{π:Rn}{α β γ δ:Type}{A:Rn->α->β->Prop} [ok:Ok P π]
inductive Nr (π:Rn):Option (Addr×Bool)->Option (Addr×Bool)->Prop
 |none:Nr π aB aB
 |some {a a':Addr} {t:Bool} (h:bV π a a'):Nr π (aA (a,t)) (aA (a',t))
def xM {r r':Nat}(h:π r r'):bR P Al F Nr π (numberAt r) (numberAt r'):=by
 unfold numberAt;refine aR _ (fV h) ?_;rintro e s _ ok c rfl;cases s with
 |some x=>exact aS .none
 |none=>
  refine .getObj (c _ _ h) ?_;rintro o g (⟨b,a⟩|⟨x,f,b,a,d⟩)
  .rw[a];cases o with
   |number x u=>exact absurd rfl (b.2.2.1 x u)
   |_=>exact .pure .none
  .cases b;cases a;cases d with
   |view h u _=>exact .pure .none
   |number h l=>exact .pure (.some h)
def fK {a a':Addr}(h:bV π a a'):bR P Al F (λb (x y:Addr×Bool)=>bV b x.1 y.1/\x.2=y.2) π (behindNumber a) (behindNumber a'):=by
 unfold behindNumber;refine aR _ (xM h.1) ?_;intro b s e ok d c;cases c with
 |none=>exact aS ⟨h.mono d,rfl⟩
 |some h=>exact aS ⟨h,rfl⟩
def xT {a a':Addr}(h:bV π a a')(l:Bool):bR P Al F (VR Al) π (asNumber a l) (asNumber a' l):=
 .view (.number h l) λc r d _ _ b=> .pure (.pointer (.some ⟨b,rfl,rfl⟩))
def uX (ok:Ok P π){a a' b c:Addr}(h:bV π a a')(k:bV π b c):(a'.block==c.block)=(a.block==b.block):=by
 have:=ok.inj h.1 k.1;by_cases e:a.block=b.block
 .simp[e,this.1 e]
 .have d:a'.block≠c.block:=λq=>e (this.2 q);rw[zEl e,zEl d]
def AG (ok:Ok P π){a a' b d:Addr}(h:bV π a a')(k:bV π b d):(a'==d)=(a==b):=by
 have:=addr_eq ok h k;by_cases e:a=b
 .have c:=this.2 e;simp[e,c]
 .have c:a'≠d:=λq=>e (this.1 q);rw[zEl e,zEl c]
def JX (hF:∀b,¬F b){a a' b j:Addr}(h:bV π a a')(k:bV π b j):bR P Al F ER π (sameAddr a b) (sameAddr a' j):=by
 unfold sameAddr;rw[uX ok h k,AG ok h k];split
 .exact aS rfl
 .refine aR _ (lR hF h) ?_;rintro t s1 _ ok d rfl;refine aR _ (lR hF (k.mono d)) ?_;rintro s s2 _ ok f rfl;dsimp only;have i:=(h.mono d).mono f;have g:=(k.mono d).mono f;split
  .exact aU
  .refine aR _ (nZ i) ?_;rintro r _ _ ok c rfl;refine aR _ (nZ (g.mono c)) ?_;rintro q _ _ ok e rfl;refine aR _ (xN hF ((i.mono c).mono e) ((g.mono c).mono e)) ?_;rintro p u _ ok m rfl;split
   .refine aR _ (gE _) ?_;rintro o n _ ok l rfl;exact aS rfl
   .exact aS rfl
def xJ (j:F.cmp\/∀b,¬F b){a a' b g:Addr}(h:bV π a a')(k:bV π b g):bR P Al F ER π (sameAddr a b) (sameAddr a' g):=by
 by_cases f:F.cmp/\∃x,F x
 .have:=bR.same (P:=P) (Al:=Al) (F:=F) (A:=ER) (k:=λt=> .pure t) (k':=λt=> .pure t) f h k (λt=> .pure rfl);have e:∀(s:Sem Bool),(s>>=λt=> .pure t)=s:=λs=>by
   show s.bind _=s
   induction s with
   |pure a=>rfl
   |load m a k i=>simp only[Sem.bind,i]
   |store m a x k i=>simp only[Sem.bind,i]
   |new o k i=>simp only[Sem.bind,i]
   |shape r k i=>simp only[Sem.bind,i]
   |freeze a n k i=>simp only[Sem.bind,i]
   |frozen a k i=>simp only[Sem.bind,i]
   |getObj r k i=>simp only[Sem.bind,i]
   |setObj r o k i=>simp only[Sem.bind,i]
   |choose q k i=>simp only[Sem.bind,i]
   |sys c k i=>simp only[Sem.bind,i]
   |program k i=>simp only[Sem.bind,i]
   |mark m k i=>simp only[Sem.bind,i]
   |halt h=>rfl
  rwa [e,e]at this
 .exact JX (λb d=>j.elim (λc=>f ⟨c,b,d⟩) λc=>c b d) h k
omit ok in
def bR.weaken {A B:Rn->α->β->Prop}{s:Sem α}{s':Sem β}(h:bR P Al F A π s s')(d:∀ρ a b,A ρ a b->B ρ a b):bR P Al F B π s s':=by
 induction h with
 |pure h=>exact .pure (d _ _ _ h)
 |load h _ i=>exact .load h i
 |store h c _ i=>exact .store h c i
 |new h _ i=>exact .new h i
 |marked hC h _ i=>exact .marked hC h i
 |view h _ i=>exact .view h i
 |getObj h _ i=>exact .getObj h i
 |shape h _ i=>exact .shape h i
 |freeze hF h _ i=>exact .freeze hF h i
 |frozen hF h _ i=>exact .frozen hF h i
 |share h _ i=>exact .share h i
 |same e h f _ i=>exact .same e h f i
 |choose _ i=>exact .choose i
 |program he _ i=>exact .program he i
 |mark hm _ i=>exact .mark hm i
 |env _ i=>exact .env i
 |panic h=>exact .panic h
 |dead h=>exact .dead h
def iP {j:Type}{S:Rn->j->j->Prop}(H:∀(ρ e:Rn) s s',(∀x y,ρ x y->e x y)->S ρ s s'->S e s s'):∀(l c:List γ)(E:Rn->γ->γ->Prop),(∀(ρ e:Rn) s s',(∀x y,ρ x y->e x y)->E ρ s s'->E e s s')->c.length=l.length->(∀(i:Nat) a b,l[i]? =aA a->c[i]? =aA b->E π a b)->∀(s s':j)(f k:γ->j->Sem (ForInStep j)),S π s s'->
  (∀(ρ:Rn) a b t m,Ok P ρ->(∀x y,π x y->ρ x y)->E ρ a b->S ρ t m->bR P Al F (λρ x y=>(∃u d,x= .yield u/\y= .yield d/\S ρ u d)\/(∃u d,x= .done u/\y= .done d/\S ρ u d)) ρ (f a t) (k b m))->
  bR P Al F S π (forIn l s f) (forIn c s' k):=by
 intro l
 induction l generalizing π with
 |nil=>
  intro c E w n v s s' f k q r;cases c with
  |nil=>exact aS q
  |cons _ _=>simp at n
 |cons a l B=>
  intro c E w n v s s' f k q r;cases c with
  |nil=>simp at n
  |cons b c=>
   rw[List.forIn_cons,List.forIn_cons];refine aR _ (r π a b s s' ok (λ_ _ x=>x) (v 0 a b (by simp) (by simp)) q) ?_;intro ρ x y z h g;obtain⟨u,d,rfl,rfl,p⟩|⟨u,d,rfl,rfl,p⟩:=g
   .exact B c E w (by simpa using n) (λi a b D C=>w π ρ a b h (v (i+1) a b (by simpa using D) (by simpa using C))) u d f k p λe a b t m o G=>r e a b t m o λx y g=>G _ _ (h _ _ g)
   .exact aS p
def xQ (op:BinOp)(k:IntKind)(x y:Int):bR P Al F (VR Al) π (Op.intArith op k x y) (Op.intArith op k x y):=by unfold Op.intArith;cases op<;>first|exact aS (.int _ _)|exact aT
def WO (op:BinOp)(k:IntKind)(x y:Int):bR P Al F (VR Al) π (Op.intDiv op k x y) (Op.intDiv op k x y):=by
 unfold Op.intDiv;split
 .exact dK _
 .cases op<;>first|exact aS (.int _ _)|exact aT
def CU (op:BinOp)(k:IntKind)(x y:Int):bR P Al F (VR Al) π (Op.intBits op k x y) (Op.intBits op k x y):=by unfold Op.intBits;cases op<;>first|exact aS (.int _ _)|exact aT
def Dq (op:BinOp)(k:IntKind)(x:Int)(a:IntKind)(y:Int):bR P Al F (VR Al) π (Op.shift op k x a y) (Op.shift op k x a y):=by
 unfold Op.shift;split
 .exact dK _
 .cases op<;>first|exact aS (.int _ _)|exact aT
def WQ (op:BinOp)(x y:Int):bR P Al F (VR Al) π (Op.intCmp op x y) (Op.intCmp op x y):=by unfold Op.intCmp;cases op<;>first|exact aS (.bool _)|exact aT
def xI (op:BinOp)(x y:ByteArray):bR P Al F (VR Al) π (Op.stringOp op x y) (Op.stringOp op x y):=by
 unfold Op.stringOp;dsimp only;cases op<;>dsimp only<;>first|exact aS (.bool _)|exact aT|skip
 by_cases h:((x.size+y.size:Nat):Int)>IntKind.i64.max
 .rw[zAk h];exact aU
 .rw[zAh h];exact aS (.string _)
def fM {a a':Addr}(h:bV π a a'):bR P Al F ER π (byteOf a) (byteOf a'):=by
 unfold byteOf;rw[h.2.2];cases d:a.spot with
 |some s=>exact aS rfl
 |none=>
  refine eB (λm _=>by simp only[jN];rfl) ?_;rintro l p q ok d ⟨i,g⟩;rw[i,g];refine aR _ (nZ (h.mono d)) ?_;rintro k _ _ ok c rfl;refine aR _ (fV (c _ _ (d _ _ h.1))) ?_;rintro j s _ ok f rfl;cases s with
  |none=>exact aT
  |some x=>
   obtain⟨e,n⟩:=x;dsimp only;rw[h.2.1];split
   .exact aS rfl
   .cases byteOfCell P P.depth e (a.off%P.cellsOf e)with
    |none=>exact aT
    |some b=>exact aS rfl
def DX {c:Type}(l:Array γ)(s:c)(f f':γ->c->Sem (ForInStep c))
  (g:∀(ρ:Rn) a t,Ok P ρ->(∀x y,π x y->ρ x y)->bR P Al F ER ρ (f a t) (f' a t)):bR P Al F ER π (forIn l s f) (forIn l s f'):=by
 rw[<-zFh,<-zFh]
 refine iP (S:=ER) (λ_ _ _ _ _ h=>h) l.toList l.toList ER (λ_ _ _ _ _ h=>h) rfl (λi a b j d=>by rw[j]at d;exact zAm d) s s f f' rfl ?_
 rintro ρ a _ t _ ok e rfl rfl
 have:=g ρ a t ok e
 exact bR.weaken this λc x y h=>by subst h;cases x with
  |yield u=>exact aG ⟨u,u,rfl,rfl,rfl⟩
  |done u=>exact aH ⟨u,u,rfl,rfl,rfl⟩
def BB {c:Type}(l:Array γ)(s:c)(f f':γ->c->Sem (ForInStep c))
  (j:∀(ρ:Rn) a t,a∈l.toList->Ok P ρ->(∀x y,π x y->ρ x y)->bR P Al F ER ρ (f a t) (f' a t)):bR P Al F ER π (forIn l s f) (forIn l s f'):=by
 rw[<-zFh,<-zFh]
 refine iP (S:=ER) (λ_ _ _ _ _ h=>h) l.toList l.toList (λ_ a b=>a=b/\a∈l.toList) (λ_ _ _ _ _ h=>h) rfl (λi a b e d=>by rw[e]at d;exact⟨zAm d,zCq e⟩) s s f f' rfl ?_
 rintro ρ a _ t _ ok g ⟨rfl,hm⟩ rfl
 have:=j ρ a t hm ok g
 exact bR.weaken this λc x y h=>by subst h;cases x with
  |yield u=>exact aG ⟨u,u,rfl,rfl,rfl⟩
  |done u=>exact aH ⟨u,u,rfl,rfl,rfl⟩
def WN (t:zD){a a' b j:Addr}(c:bV π a a')(d:bV π b j):bR P Al F ER π
  (do
   let(a,b):=((<-behindNumber a).1,(<-behindNumber b).1)
   if a.block==b.block&&a.block<(<-program).globals.size then return(<-byteOf a)==(<-byteOf b)
   let .named "sync.copyChecker" _:=(<-typeInfo t).desc|unsupported .addressObserved
   if a==b then pure aE else unsupported .addressObserved)
  (do
   let(a,b):=((<-behindNumber a').1,(<-behindNumber j).1)
   if a.block==b.block&&a.block<(<-program).globals.size then return(<-byteOf a)==(<-byteOf b)
   let .named "sync.copyChecker" _:=(<-typeInfo t).desc|unsupported .addressObserved
   if a==b then pure aE else unsupported .addressObserved):=by
 refine aR _ (fK c) ?_
 rintro z ⟨a,q⟩ ⟨a',_⟩ ok r ⟨c,rfl⟩
 refine aR _ (fK (d.mono r)) ?_
 rintro y ⟨b,q⟩ ⟨j,_⟩ ok g ⟨d,rfl⟩
 replace c:=c.mono g
 dsimp only at c d⊢
 refine eB (λ_ _=>rfl) ?_
 rintro x p q ok f ⟨u,s⟩
 rw[u,s]
 replace c:=c.mono f
 replace d:=d.mono f
 have v:decide (a'.block<P.globals.size)=decide (a.block<P.globals.size):=by
  by_cases h:a.block<P.globals.size
  .have:=ok.base c.1 (aG (Nat.le_of_lt h));simp[<-this]
  .by_cases k:a'.block<P.globals.size
   .have:=ok.base c.1 (aH (Nat.le_of_lt k));simp[<-this]
   .simp[h,k]
 rw[uX ok c d,AG ok c d,v]
 split
 .refine aR _ (fM c) ?_;rintro l n _ ok e rfl;refine aR _ (fM (d.mono e)) ?_;rintro w m _ ok o rfl;exact aS rfl
 .refine aR _ (eY t) ?_;rintro l i _ ok e ⟨rfl,_⟩;split
  .split
   .exact aS rfl
   .exact aU
  .exact aU
def Basic (P:zZ)(t:zD):Prop:=P.underlying t=aA .bool\/(∃k,P.underlying t=aA (.int k))\/P.underlying t=aA .string
def uC (P:zZ)(t:zD)(x y:zY):Prop:=(∃e,P.underlying t=aA (.pointer e))/\∀a b,x= .pointer (aA a)->y= .pointer (aA b)->a.block=b.block
def RH [ok:Ok P π] {a a' b c:Addr}(h:bV π a a')(k:bV π b c)(e:a.block=b.block):bR P Al F ER π (sameAddr a b) (sameAddr a' c):=by have d:a'.block=c.block:=(ok.inj h.1 k.1).1 e;unfold sameAddr;simp only[e,d,BEq.rfl,zDf];rw[AG ok h k];exact aS rfl
def JN (P:zZ):Nat->zD->Prop
 |0,_=>True
 |d+1,t=>match P.underlying t with
  |some (.func _ _ _)=>False
  |some (.struct a)=>∀f∈a.toList,JN P d f.type
  |some (.array _ e)=>JN P d e
  |some (.interface _)=>False
  |_=>True
def CV:∀(d:Nat){π:Rn} [Ok P π] (t:zD){x U y T:zY},JN P d t->((F.cmp\/∀b,¬F b)\/Basic P t\/uC P t x y)->bG Al π x U->bG Al π y T->bR P Al F ER π (Op.equalIn d t x y) (Op.equalIn d t U T):=by
 intro d;induction d with
 |zero=>intro π ok t x U y T J W o j;exact aU
 |succ d Z=>
  intro π ok t x U y T J W o j;unfold Op.equalIn;refine aR _ (aX t) ?_;rintro ρ u _ ok hs ⟨rfl,hu⟩;unfold JN at J;rw[hu]at J;replace o:=o.mono hs;replace j:=j.mono hs;have I:u≠.bool->(∀k,u≠.int k)->u≠.string->(∀e,u≠.pointer e)->F.cmp\/∀b,¬F b:=λQ O N M=>W.resolve_right λh=>by
   obtain(h|⟨k,h⟩|h)|⟨⟨e,h⟩,_⟩:=h
   .exact Q (zAm (hu.symm.trans h))
   .exact O k (zAm (hu.symm.trans h))
   .exact N (zAm (hu.symm.trans h))
   .exact M e (zAm (hu.symm.trans h))
  cases u with
  |bool=>cases o<;>first|exact aT|(cases j<;>first|exact aT|exact aS rfl)
  |string=>cases o<;>first|exact aT|(cases j<;>first|exact aT|exact aS rfl)
  |float k=>cases o<;>exact aT
  |complex k=>cases o<;>exact aT
  |int k=>
   cases o with
   |int k a=>
    cases j with
    |int k' b=>dsimp only;split<;>first|exact aS rfl|exact aT
    |pointer B=>
     cases B with
     |none=>exact aU
     |some _=>
      by_cases X:a=0
      .subst X;exact aS rfl
      .rename_i b b' _;have e1:∀(z:Addr),(match TypeDesc.int k,Value.int k a,Value.pointer (aA z)with| .int _,.int _ 0,.pointer (aA _)=>(0:Nat)|_,_,_=>1)=1:=by
        intro z;cases a with
        |ofNat n=>cases n with
         |zero=>exact absurd rfl X
         |succ n=>rfl
        |negSucc n=>rfl
       cases a with
       |ofNat n=>cases n with
        |zero=>exact absurd rfl X
        |succ n=>exact aU
       |negSucc n=>exact aU
    |_=>exact aT
   |pointer B=>
    cases B with
    |none=>cases j<;>exact aU
    |some s=>
     cases j with
     |pointer w=>
      cases w with
      |none=>exact aU
      |some l=>exact WN t s l
     |int k' b=>
      cases b with
      |ofNat n=>cases n with
       |zero=>exact aS rfl
       |succ n=>exact aU
      |negSucc n=>exact aU
     |_=>exact aU
   |_=>cases j<;>first|exact aT|exact aU
  |pointer e=>
   have g:(F.cmp\/∀b,¬F b)\/uC P t x y:=W.imp id λh=>h.resolve_left λh=>by
    obtain h|⟨k,h⟩|h:=h
    .cases zAm (hu.symm.trans h)
    .cases zAm (hu.symm.trans h)
    .cases zAm (hu.symm.trans h)
   cases o with
   |pointer B=>
    cases j with
    |pointer w=>
     cases B with
     |none=>cases w<;>exact aS rfl
     |some s=>
      cases w with
      |none=>exact aS rfl
      |some l=>
       refine aR _ (bZ e) ?_;rintro Y n _ ok K rfl;replace s:=s.mono K;replace l:=l.mono K;rw[AG ok s l];split
       .obtain g|g:=g
        .exact xJ g s l
        .exact RH s l (g.2 _ _ rfl rfl)
       .split
        .exact aS rfl
        .refine aR _ (gE _) ?_;rintro R n _ ok C rfl;exact aS rfl
    |_=>cases B<;>exact aT
   |_=>exact aT
  |unsafePointer=>
   have g:=I (by simp) (by simp) (by simp) (by simp);cases o with
   |pointer B=>
    cases j with
    |pointer w=>
     show bR P Al F ER ρ (samePointer _ _) (samePointer _ _)
     cases B with
     |none=>cases w<;>exact aS rfl
     |some s=>
      cases w with
      |none=>exact aS rfl
      |some l=>exact xJ g s l
    |_=>exact aT
   |_=>exact aT
  |chan dr e=>cases o<;>first|exact aT|(cases j<;>first|exact aT|exact aS rfl)
  |interface ms=>exact J.elim
  |struct fs=>
   have g:=I (by simp) (by simp) (by simp) (by simp);cases o with
   |agg Q O=>
    cases j with
    |agg N M=>
     refine eB (λfs _=>by simp only[kQ]) ?_;rintro Y p q ok C ⟨B,w⟩;rw[B,w];split
     .exact aU
     .refine aR ER (BB fs _ _ _ ?_) ?_
      .intro R f st L ok v;have E:=((aW.mk Q O).mono C).mono v;have D:=((aW.mk N M).mono C).mono v;split
       .refine aR _ (jO E f.type f.offset) ?_;intro υ a a' ok H s;refine aR _ (jO (D.mono H) f.type f.offset) ?_;intro φ b b' ok G l;refine aR _ (Z f.type (J f L) (aG g) (s.mono G) l) ?_;rintro χ r _ ok V rfl;split
        .exact aS rfl
        .exact aS rfl
       .exact aS rfl
      .rintro R r _ ok v rfl;dsimp only;split<;>exact aS rfl
    |_=>exact aT
   |_=>exact aT
  |array n e=>
   have g:=I (by simp) (by simp) (by simp) (by simp);cases o with
   |agg Q O=>
    cases j with
    |agg N M=>
     refine aR _ (bZ e) ?_;rintro Y k _ ok C rfl;rw[zEc,zEc];refine aR ER (bR.weaken (iP (S:=ER) (λ_ _ _ _ _ h=>h) _ _ ER (λ_ _ _ _ _ h=>h) rfl (λi a b s l=>by rw[s]at l;exact zAm l) _ _ _ _ rfl ?_) (λ_ _ _ h=>h)) ?_
     .rintro R i _ st _ ok v rfl rfl;have E:=((aW.mk Q O).mono C).mono v;have D:=((aW.mk N M).mono C).mono v;refine aR _ (jO E e (i*k)) ?_;intro υ a a' ok H s;refine aR _ (jO (D.mono H) e (i*k)) ?_;intro φ b b' ok G l;refine aR _ (Z e J (aG g) (s.mono G) l) ?_;rintro χ r _ ok V rfl;split
      .exact aS (aH ⟨_,_,rfl,rfl,rfl⟩)
      .exact aS (aG ⟨_,_,rfl,rfl,rfl⟩)
     .rintro R r _ ok v rfl;dsimp only;split<;>exact aS rfl
    |_=>exact aT
   |_=>exact aT
  |slice e=>
   cases o with
   |slice B n c=>
    cases j with
    |slice w m c'=>
     cases B with
     |none=>cases w<;>exact aS rfl
     |some s=>
      cases w with
      |none=>exact aS rfl
      |some l=>exact aT
    |void=>cases B<;>first|exact aS rfl|exact aT
    |_=>cases B<;>exact aT
   |void=>
    cases j with
    |slice w m c'=>cases w<;>first|exact aS rfl|exact aT
    |_=>exact aT
   |_=>exact aT
  |map a b=>cases o<;>first|exact aT|(cases j<;>first|exact aT|exact aS rfl)
  |func a b c=>exact J.elim
  |_=>cases o<;>first|exact aT|(cases j<;>exact aT)
end
end Go.Ren
