import Derived.Test.YtghpcgagijhlaaaGreatDoorP02
set_option linter.all false
set_option maxRecDepth 100000
set_option maxHeartbeats 16000000
open Option renaming some->aA,none->aB
open Bool renaming true->aE,false->aF
open Or renaming inl->aG,inr->aH
open Go.IntKind renaming u64->aQ
open Array renaming foldl_toList->aCC,toList_zipIdx->aCD,range->aCE
namespace Go.Ren
def Pp {P:zZ}{α:Type}{t:zD}{d:TypeDesc}(h:P.underlying t=aA d)(f:TypeDesc->Sem α)(v:zW)(es:zE):(underlying t>>=f).runT P v es=(f d).runT P v es:=by
 show Sem.runT P (Sem.bind (match P.underlying t with|some d=>pure d|none=>stuck "no such type") f) v es=_
 rw[h]
 rfl
def Po {P:zZ}{α:Type}{t:zD}(h:P.underlying t=aB)(f:TypeDesc->Sem α)(v:zW)(es:zE):(underlying t>>=f).runT P v es=(.halt (.stuck "no such type") v,es):=by
 show Sem.runT P (Sem.bind (match P.underlying t with|some d=>pure d|none=>stuck "no such type") f) v es=_
 rw[h]
 rfl
def nD {α:Type}(P:zZ)(s:Sem α):Prop:=∀v a,∃h w e,s.runT P v a=(.halt h w,e)/\Fatal h
def tT {P:zZ}{α:Type}{t:zD}{f:TypeDesc->Sem α}(h:∀d,nD P (f d)):nD P (underlying t>>=f):=λv e=>by
 cases hu:P.underlying t with
 |none=>rw[Po hu];exact⟨_,_,_,rfl,aG ⟨_,rfl⟩⟩
 |some d=>rw[Pp hu];exact h d v e
def oP {P:zZ}{α:Type}{w:String}:nD P (stuck w:Sem α):=λ_ _=>⟨_,_,_,rfl,aG ⟨_,rfl⟩⟩
def rO {P:zZ}{α:Type}{u:Unsupported}(h:∀g,u≠.initOrder g:=by simp):nD P (unsupported u:Sem α):=λ_ _=>⟨_,_,_,rfl,aH ⟨u,rfl,h⟩⟩
def BC {P:zZ}{α γ:Type}{t:zD}{d:TypeDesc}(h:P.underlying t=aA d)(f:TypeDesc->Sem α)(k:α->Sem γ)(v:zW)(es:zE):((underlying t>>=f)>>=k).runT P v es=(f d>>=k).runT P v es:=by
 show Sem.runT P (Sem.bind (Sem.bind (match P.underlying t with|some d=>pure d|none=>stuck "no such type") f) k) v es=_
 rw[h]
 rfl
def EJ {P:zZ}{α γ:Type}{t:zD}(h:P.underlying t=aB)(f:TypeDesc->Sem α)(k:α->Sem γ)(v:zW)(es:zE):((underlying t>>=f)>>=k).runT P v es=(.halt (.stuck "no such type") v,es):=by
 show Sem.runT P (Sem.bind (Sem.bind (match P.underlying t with|some d=>pure d|none=>stuck "no such type") f) k) v es=_
 rw[h]
 rfl
def ZA {P:zZ}{γ:Type}{t:zD}(h:JN P Op.maxDepth t)(z y:zY)(k:Bool->Sem γ)(v:zW)(es:zE):∃a w e,((Op.equal t (.func (.method "") #[.iface 1000000 .nilIface] #[z]) y)>>=k).runT P v es=(.halt a w,e)/\Fatal a:=by
 obtain⟨m,b⟩:∃m,Op.maxDepth=m+1:=⟨Op.maxDepth-1,rfl⟩;unfold Op.equal;rw[b]at h⊢;unfold JN at h;unfold Op.equalIn;cases hu:P.underlying t with
 |none=>rw[EJ hu];exact⟨_,_,_,rfl,aG ⟨_,rfl⟩⟩
 |some d=>rw[BC hu];rw[hu]at h;cases d<;>first|exact h.elim|exact⟨_,_,_,rfl,by simp⟩|(cases y<;>first|exact⟨_,_,_,rfl,by simp⟩|(rename_i q;cases q<;>exact⟨_,_,_,rfl,by simp⟩))
def WT {P:zZ}{Al:zF}{F:Kp}{π:Rn}{γ β:Type}{A:Rn->γ->β->Prop}{t:zD}(h:JN P Op.maxDepth t)(z y:zY)(k:Bool->Sem γ){s':Sem β}:bR P Al F A π ((Op.equal t (.func (.method "") #[.iface 1000000 .nilIface] #[z]) y)>>=k) s':= .dead λv e=>ZA h z y k v e
section
variable {P:zZ}{Al:zF}{F:Kp}{π:Rn}{α β γ δ:Type}{A:Rn->α->β->Prop} [ok:Ok P π]
def vQ:∀(d:Nat){π:Rn} [Ok P π] (t:zD){x l y j:zY},bG Al π x l->bG Al π y j->bR P Al F ER π (Op.eqGuardIn d t x y) (Op.eqGuardIn d t l j):=by
 intro d;induction d with
 |zero=>intro π ok t x l y j v o;exact aU
 |succ d J=>
  intro π ok t x l y j v o;unfold Op.eqGuardIn;refine aR _ (aX t) ?_;rintro U u _ ok K ⟨rfl,hu⟩;replace v:=v.mono K;replace o:=o.mono K;cases u with
  |interface ms=>
   cases v with
   |junk _ g=>cases l<;>first|exact g.elim|exact aS rfl
   |nilIface=>
    cases o with
    |junk _ g=>cases j<;>first|exact g.elim|exact aS rfl
    |_=>exact aS rfl
   |_=>first|exact aS rfl|(cases o<;>exact aS rfl)
  |struct O=>
   cases v with
   |agg I H=>
    cases o with
    |agg G E=>
     refine aR ER (DX O _ _ _ ?_) ?_
     .intro C f st ok c;have p:=(aW.mk I H).mono c;have m:=(aW.mk G E).mono c;split
      .refine aR _ (jO p f.type f.offset) ?_;intro N a R ok s B;refine aR _ (jO (m.mono s) f.type f.offset) ?_;intro M b Q ok q w;refine aR _ (J f.type (B.mono q) w) ?_;rintro L r _ ok D rfl;split
       .exact aS rfl
       .exact aS rfl
      .exact aS rfl
     .rintro C r _ ok c rfl;dsimp only;split<;>exact aS rfl
    |junk _ g=>cases j<;>first|exact g.elim|exact aS rfl
    |_=>exact aS rfl
   |junk _ g=>cases l<;>first|exact g.elim|exact aS rfl
   |_=>exact aS rfl
  |array n e=>
   cases v with
   |agg I H=>
    cases o with
    |agg G E=>
     refine aR _ (bZ e) ?_;rintro T k _ ok z rfl;rw[zEc,zEc];refine aR ER (bR.weaken (iP (S:=ER) (λ_ _ _ _ _ h=>h) _ _ ER (λ_ _ _ _ _ h=>h) rfl (λi a b B w=>by rw[B]at w;exact zAm w) _ _ _ _ rfl ?_) (λ_ _ _ h=>h)) ?_
     .rintro C i _ st _ ok c rfl rfl;have p:=((aW.mk I H).mono z).mono c;have m:=((aW.mk G E).mono z).mono c;refine aR _ (jO p e (i*k)) ?_;intro N a R ok s B;refine aR _ (jO (m.mono s) e (i*k)) ?_;intro M b Q ok q w;refine aR _ (J e (B.mono q) w) ?_;rintro L r _ ok D rfl;split
      .exact aS (aH ⟨_,_,rfl,rfl,rfl⟩)
      .exact aS (aG ⟨_,_,rfl,rfl,rfl⟩)
     .rintro C r _ ok c rfl;dsimp only;split<;>exact aS rfl
    |junk _ g=>cases j<;>first|exact g.elim|exact aS rfl
    |_=>exact aS rfl
   |junk _ g=>cases l<;>first|exact g.elim|exact aS rfl
   |_=>exact aS rfl
  |_=>exact aS rfl
def RQ (op:BinOp)(t:zD)(x y:Operand){a a' b d:zY}(s:bG Al π a a')(o:bG Al π b d):bR P Al F ER π (eqGuard op t x y a b) (eqGuard op t x y a' d):=by
 have main:bR P Al F ER π (eqGuard .eql t x y a b) (eqGuard .eql t x y a' d):=by
  unfold eqGuard;cases s;case junk _ i=>cases a'<;>first|exact i.elim|exact aS rfl
  all_goals first
   |exact aS rfl
   |(cases o
     case junk _ i=>cases d<;>first|exact i.elim|exact aS rfl
     all_goals first|exact aS rfl|skip)
  .have k:bR P Al F ER π (do if<-Op.eqGuardIn Op.maxDepth t .nilIface .nilIface then unsupported (.noEntry "binop/eql: two nil values of an interface type with methods, neither of them the literal nil")) (do if<-Op.eqGuardIn Op.maxDepth t .nilIface .nilIface then unsupported (.noEntry "binop/eql: two nil values of an interface type with methods, neither of them the literal nil")):=by
    refine aR _ (vQ _ t .nilIface .nilIface) ?_;rintro j r _ ok e rfl;split
    .exact aU
    .exact aS rfl
   cases x<;>cases y<;>first|exact aS rfl|exact k
  .rename_i z w _ _ v u;refine eB (λG _=>by simp only[sP]) ?_;rintro j p q ok e ⟨n,m⟩;rw[n,m];refine eB (λ_ _=>rfl) ?_;rintro C E D ok c ⟨g,f⟩;rw[g,f];split
   .exact aS rfl
   .refine aR _ (vQ _ t ((bG.agg z w).mono λ_ _ h=>c _ _ (e _ _ h)) ((bG.agg v u).mono λ_ _ h=>c _ _ (e _ _ h))) ?_;rintro B r _ ok l rfl;split
    .exact aU
    .exact aS rfl
 cases op with
 |eql=>exact main
 |neq=>exact main
 |_=>exact aS rfl
def YG (ok:Ok P π){b c:Nat}(h:π b c):(c≥P.globals.size↔b≥P.globals.size):=by
 constructor
 .intro d;obtain a|a:=zDx b P.globals.size
  .have:=ok.base h (aG (Nat.le_of_lt a));omega
  .exact a
 .intro d;obtain a|a:=zDx c P.globals.size
  .have:=ok.base h (aH (Nat.le_of_lt a));omega
  .exact a
def vO {a a' b e:Addr}(h:bV π a a')(c:bV π b e):bR P Al F ER π (Op.twoPlaces a b) (Op.twoPlaces a' e):=by
 unfold Op.twoPlaces;refine eB (λ_ _=>rfl) ?_;rintro t p q ok f ⟨j,i⟩;rw[j,i];replace h:=h.mono f;replace c:=c.mono f;have o:(a'.block !=e.block||decide (a'.block≥P.globals.size))=(a.block !=b.block||decide (a.block≥P.globals.size)):=by
  have l:=uX ok h c;have k:decide (a'.block≥P.globals.size)=decide (a.block≥P.globals.size):=by simp only[YG ok h.1]
  unfold bne
  rw[l,k]
 rw[o]
 split
 .exact aU
 .refine aR _ (fM h) ?_;rintro s n _ ok d rfl;refine aR _ (fM (c.mono d)) ?_;rintro r m _ ok g rfl;exact aS rfl
def RV (k:IntKind){a a' b c:Addr}(d:bV π a a')(h:bV π b c):bR P Al F (VR Al) π (Op.addrSub k a b) (Op.addrSub k a' c):=by unfold Op.addrSub;refine aR _ (vO d h) ?_;rintro e x _ ok f rfl;exact aS (.int _ _)
def RX (op:BinOp){a a' b c:Addr}(d:bV π a a')(h:bV π b c):bR P Al F (VR Al) π (Op.addrCmp op a b) (Op.addrCmp op a' c):=by unfold Op.addrCmp;refine aR _ (vO d h) ?_;rintro e x _ ok f rfl;dsimp only;cases op<;>first|exact aS (.bool _)|exact aU
def sX (k:IntKind){a a':Addr}(b:bV π a a')(n:Int):bR P Al F (VR Al) π (Op.addrMod k a n) (Op.addrMod k a' n):=by
 unfold Op.addrMod;refine aR _ (fV b.1) ?_;rintro j s _ ok d rfl;cases s with
 |none=>exact aU
 |some x=>
  obtain⟨e,m⟩:=x;dsimp only;refine aR _ (eY e) ?_;rintro g i _ ok h ⟨rfl,_⟩;split
  .exact aU
  .refine aR _ (fM ((b.mono d).mono h)) ?_;rintro f n _ ok c rfl;exact aS (.int _ _)
def ky (ρ:Rn)(v v':zY):Prop:=∃p a,v= .pointer p/\v'= .pointer a/\AI ρ p a
def sT (at_:Array zD)(t:zD){x k y j:zY}(v:bG Al π x k)(l:bG Al π y j):bR P Al F ky π (Builtin.unsafeAdd_ at_ t #[x,y]) (Builtin.unsafeAdd_ at_ t #[k,j]):=by
 unfold Builtin.unsafeAdd_;cases v with
 |pointer i=>
  cases i with
  |none=>
   refine aR _ (nQ l) ?_;rintro u n _ ok f rfl;dsimp only;by_cases b:n=0
   .rw[zAk b];exact aU
   .rw[zAh b];by_cases d:n<0
    .rw[zAk d];exact aU
    .rw[zAh d];exact aU
  | @some a G c=>
   refine aR _ (nQ l) ?_;rintro u n _ ok f rfl;dsimp only;by_cases b:n=0
   .rw[zAk b,zAk b];refine aR _ (qY (f _ _ c.1)) ?_;intro r s D ok h w;cases w with
    |none=>exact aS ⟨_,_,rfl,rfl,.some ((c.mono f).mono h)⟩
    |some _=>exact aU
   .rw[zAh b,zAh b];by_cases d:n<0
    .rw[zAk d];exact aU
    .rw[zAh d,zAh d];refine aR _ (fV (f _ _ c.1)) ?_;rintro r s _ ok h rfl;cases s with
     |none=>exact aU
     |some z=>
      obtain⟨e,m⟩:=z;dsimp only;refine eB (λE _=>by simp only[sR];rfl) ?_;rintro C p q ok g ⟨i,B⟩;rw[i,B,c.2.1];cases cellAtBytes P P.depth e (m/P.cellsOf e) a.off n with
      |none=>exact aU
      |some o=>exact aS ⟨_,_,rfl,rfl,.some ⟨g _ _ (h _ _ (f _ _ c.1)),rfl,c.2.2⟩⟩
 |_=>exact aT
def cF (at_:Array zD)(t:zD){x b y a:zY}(d:bG Al π x b)(c:bG Al π y a):bR P Al F (VR Al) π (Builtin.unsafeAdd_ at_ t #[x,y]) (Builtin.unsafeAdd_ at_ t #[b,a]):=(sT at_ t d c).weaken λ_ _ _ ⟨_,_,e,f,h⟩=>by rw[e,f];exact .pointer h
def kR (t:zD)(z y:zY){s':Sem zY}:bR P Al F (VR Al) π (Builtin.unsafeAdd_ #[] t #[(.func (.method "") #[.iface 1000000 .nilIface] #[z]),y]) s':=by unfold Builtin.unsafeAdd_;exact aT
def jZ (t:zD){x f y e:zY}(j:bG Al π x f)(h:bG Al π y e):bR P Al F (VR Al) π (movedNumber t x y) (movedNumber t f e):=by
 unfold movedNumber;refine aR _ (aX t) ?_;rintro r u _ ok p ⟨rfl,_⟩;replace j:=j.mono p;replace h:=h.mono p;have g:bR P Al F (VR Al) r (do
   let .pointer (aA n):=x|Builtin.unsafeAdd_ #[] t #[x,y]
   let(a,lost)<-behindNumber n
   match<-Builtin.unsafeAdd_ #[] t #[.pointer (aA a),y]with
   | .pointer (aA b)=>asNumber b lost
   |v=>pure v) (do
   let .pointer (aA n):=f|Builtin.unsafeAdd_ #[] t #[f,e]
   let(a,lost)<-behindNumber n
   match<-Builtin.unsafeAdd_ #[] t #[.pointer (aA a),e]with
   | .pointer (aA b)=>asNumber b lost
   |v=>pure v):=by
  cases j with
  |pointer m=>
   cases m with
   |none=>exact cF #[] t (.pointer .none) h
   |some o=>
    refine aR _ (fK o) ?_;rintro K ⟨a,q⟩ ⟨O,_⟩ ok l ⟨o,rfl⟩;refine aR _ (sT #[] t (.pointer (.some o)) (h.mono l)) ?_;rintro J v M ok C ⟨_,_,rfl,rfl,m⟩;cases m with
    |none=>exact aS (.pointer .none)
    |some hb=>exact xT hb _
  |bool b=>exact cF #[] t (.bool b) h
  |int k n=>exact cF #[] t (.int k n) h
  |string s=>exact cF #[] t (.string s) h
  |slice y n c=>exact cF #[] t (.slice y n c) h
  |void E a=>exact cF #[] t (.void E a) h
  |func D d I B H G=>exact cF #[] t (.func D d I B H G) h
  |nilFunc=>exact cF #[] t .nilFunc h
  |iface w i=>exact cF #[] t (.iface w i) h
  |nilIface=>exact cF #[] t .nilIface h
  |jM=>exact cF #[] t .jM h
  |gX=>exact cF #[] t .gX h
  |agg d i=>exact cF #[] t (.agg d i) h
  |tuple d i=>exact cF #[] t (.tuple d i) h
  |junk L N=>exact kR t _ _
  |same hb z=>exact kR t _ _
 cases u<;>first|exact aU|exact g
def qA (t:zD){x b y a:zY}(c:bG Al π x b)(h:bG Al π y a):bR P Al F (VR Al) π (movedPointer t x y) (movedPointer t b a):=by
 have f:=cF (P:=P) (F:=F) #[] t c h;unfold movedPointer;cases c with
 |pointer g=>
  cases g with
  |none=>exact f
  |some e=>
   refine aR _ (xM e.1) ?_;intro j s k ok d i;cases i with
   |none=>exact cF #[] t (.pointer (.some (e.mono d))) (h.mono d)
   |some _=>exact aU
 |junk v l=>exact kR t _ _
 |same hb z=>exact kR t _ _
 |_=>exact f
def Dw (op:BinOp)(t:zD){x G y z:zY}(Q:(op= .eql\/op= .neq)->JN P Op.maxDepth t)(T:(F.cmp\/∀b,¬F b)\/(op≠.eql/\op≠.neq)\/Basic P t\/uC P t x y)(D:bG Al π x G)(m:bG Al π y z):bR P Al F (VR Al) π (binOp op t x y) (binOp op t G z):=by
 have f:op= .eql->bR P Al F (VR Al) π (do pure (.bool (<-Op.equal t x y))) (do pure (.bool (<-Op.equal t G z))):=λj=>by refine aR _ (CV _ t (Q (by simp[j])) (T.imp id λh=>h.elim (λh=>absurd j h.1) id) D m) ?_;rintro i r _ ok C rfl;exact aS (.bool _)
 have e:op= .neq->bR P Al F (VR Al) π (do pure (.bool (!(<-Op.equal t x y)))) (do pure (.bool (!(<-Op.equal t G z)))):=λj=>by refine aR _ (CV _ t (Q (by simp[j])) (T.imp id λh=>h.elim (λh=>absurd j h.2) id) D m) ?_;rintro i r _ ok C rfl;exact aS (.bool _)
 have X:=jZ (P:=P) (F:=F) t D m
 have W:=qA (P:=P) (F:=F) t D m
 have M:=jZ (P:=P) (F:=F) t m D
 have both:∀{a w b J:Addr},bV π a w->bV π b J->∀(g:Addr->Addr->Sem zY),(∀(i:Rn)(c c' d I:Addr),Ok P i->bV i c c'->bV i d I->bR P Al F (VR Al) i (g c d) (g c' I))->
   bR P Al F (VR Al) π (do g (<-behindNumber a).1 (<-behindNumber b).1) (do g (<-behindNumber w).1 (<-behindNumber J).1):=by
  intro a w b J s l g N
  refine aR _ (fK s) ?_
  rintro i ⟨a,q⟩ ⟨w,_⟩ ok C ⟨s,rfl⟩
  refine aR _ (fK (l.mono C)) ?_
  rintro U ⟨b,q⟩ ⟨J,_⟩ ok K ⟨l,rfl⟩
  exact N U _ _ _ _ ok (s.mono K) l
 have one:∀{a w:Addr},bV π a w->∀(g:Addr->Sem zY),(∀(i:Rn)(c c':Addr),Ok P i->bV i c c'->bR P Al F (VR Al) i (g c) (g c'))->
   bR P Al F (VR Al) π (do g (<-behindNumber a).1) (do g (<-behindNumber w).1):=by
  intro a w s g N
  refine aR _ (fK s) ?_
  rintro i ⟨a,q⟩ ⟨w,_⟩ ok C ⟨s,rfl⟩
  exact N i _ _ ok s
 cases D with
 |int k a=>
  cases m with
  |int V b=>
   unfold binOp;cases op;all_goals
    dsimp only
    first
    |exact Dq _ _ _ _ _
    |(by_cases S:k≠V
      .rw[zAk S];exact aT
      .rw[zAh S];first|exact xQ _ _ _ _|exact WO _ _ _ _|exact CU _ _ _ _|exact WQ _ _ _)
  |pointer o=>
   cases op<;>first|exact f rfl|exact e rfl|exact M|skip
   all_goals
    cases o with
    |none=>exact aU
    |some l=>
     first
     |exact one l (λc=>Op.addrMod k c (a+1)) (λi c c' ok v=>sX _ v _)
     |exact aU
  |junk H B=>cases z<;>first|exact B.elim|(cases op<;>first|exact f rfl|exact e rfl|exact aT)
  |_=>cases op<;>first|exact f rfl|exact e rfl|exact aT
 |string a=>
  cases m with
  |string b=>have:=xI (P:=P) (Al:=Al) (F:=F) (π:=π) op a b;cases op<;>exact this
  |pointer o=>cases op<;>first|exact f rfl|exact e rfl|exact aU
  |junk H B=>cases z<;>first|exact B.elim|(cases op<;>first|exact f rfl|exact e rfl|exact aT)
  |_=>cases op<;>first|exact f rfl|exact e rfl|exact aT
 | @pointer p R o=>
  cases m with
  |int k n=>
   have E:bR P Al F (VR Al) π (do if(<-underlying t) matches .unsafePointer then movedPointer t (.pointer p) (.int k n)else movedNumber t (.pointer p) (.int k n)) (do if(<-underlying t) matches .unsafePointer then movedPointer t (.pointer R) (.int k n)else movedNumber t (.pointer R) (.int k n)):=by refine aR _ (aX t) ?_;rintro i u _ ok C ⟨rfl,_⟩;cases u<;>first|exact qA t (.pointer (o.mono C)) (.int k n)|exact jZ t (.pointer (o.mono C)) (.int k n)
   cases op<;>first|exact f rfl|exact e rfl|exact E|exact jZ t (.pointer o) (.int k (-n))|skip
   all_goals
    cases o with
    |none=>exact aU
    |some l=>
     first
     |exact one l (λc=>Op.addrMod k c n) (λi c c' ok v=>sX _ v _)
     |exact one l (λc=>Op.addrMod k c (n+1)) (λi c c' ok v=>sX _ v _)
     |exact aU
  |pointer L=>
   cases o with
   |none=>cases L<;>cases op<;>first|exact f rfl|exact e rfl|exact aU
   |some s=>
    cases L with
    |none=>cases op<;>first|exact f rfl|exact e rfl|exact aU
    |some l=>have Z:=both s l (λc d=>Op.addrSub aQ c d) (λi c c' d I ok v O=>RV _ v O);have Y:=both s l (λc d=>Op.addrCmp op c d) (λi c c' d I ok v O=>RX _ v O);cases op<;>first|exact f rfl|exact e rfl|exact Z|exact Y|exact aU
  |junk H B=>cases z<;>first|exact B.elim|(cases o<;>cases op<;>first|exact f rfl|exact e rfl|exact aU)
  |_=>cases o<;>cases op<;>first|exact f rfl|exact e rfl|exact aU
 |junk H B=>cases m;all_goals cases op<;>first|exact WT (Q (by simp)) _ _ _|exact aT|exact aU
 |_=>
  cases m with
  |pointer L=>cases op<;>first|exact f rfl|exact e rfl|exact aU
  |junk H B=>cases z<;>first|exact B.elim|(cases op<;>first|exact f rfl|exact e rfl|exact aT)
  |_=>cases op<;>first|exact f rfl|exact e rfl|exact aT
end
section
variable {P:zZ}{Al:zF}{F:Kp}{π:Rn}{α β γ δ:Type}{A:Rn->α->β->Prop} [ok:Ok P π]
def Dn (op:UnOp){x a:zY}(h:bG Al π x a):bR P Al F (VR Al) π (Op.unary op x) (Op.unary op a):=by
 cases h with
 |int k n=>
  cases op with
  |neg=>exact xQ (P:=P) (π:=π) .sub k 0 n
  |xor=>exact CU (P:=P) (π:=π) .xor k (if k.signed then-1 else k.max) n
  |_=>exact aT
 |bool b=>cases op<;>first|exact aS (.bool _)|exact aT
 |pointer c=>cases c<;>cases op<;>first|exact aU|exact aT
 |_=>cases op<;>exact aT
def Dy (e:JR P){t:zD}(b:t<P.types.size):bR P Al F (VR Al) π (Instr.alloc t aE (.tuple #[])) (Instr.alloc t aE (.tuple #[])):=by unfold Instr.alloc;refine aR _ (gD e b) ?_;intro g z i ok j h;refine aR _ (wJ h t) ?_;intro f a k ok c d;exact aS (.pointer (.some d))
def Pe (t:zD){x b:zY}(h:bG Al π x b):bR P Al F (VR Al) π (Instr.box t x) (Instr.box t b):=by unfold Instr.box;refine aR _ (wJ h t) ?_;intro e a f ok c d;exact aS (.pointer (.some d))
def vZ (Al:zF)(π:Rn):List (Nat×zY)->List (Nat×zY)->Prop
 |[],[]=>True
 |x::l,a::b=>a.1=x.1/\bG Al π x.2 a.2/\vZ Al π l b
 |_,_=>False
omit ok in
def vZ.mono {ρ:Rn}(h:∀b c,π b c->ρ b c):∀{l a:List (Nat×zY)},vZ Al π l a->vZ Al ρ l a
 |[],[],_=>trivial
 |_::_,_::_,⟨f,e,d⟩=>⟨f,e.mono h,vZ.mono h d⟩
omit ok in
def Lc (off:Nat):∀(l a:List (zY×Nat)){c c':zA},a.map (·.2)=l.map (·.2)->aW Al π (l.map (·.1)).toArray (a.map (·.1)).toArray->aW Al π c c'->
  aW Al π (l.foldl (λcs x=>cs.setIfInBounds (off+x.2) x.1) c) (a.foldl (λcs x=>cs.setIfInBounds (off+x.2) x.1) c'):=by
 intro l
 induction l with
 |nil=>intro a c c' h d b;cases a with
  |nil=>exact b
  |cons _ _=>simp at h
 |cons x l i=>
  intro a c c' h d b;cases a with
  |nil=>simp at h
  |cons g a=>simp only[zEh,List.cons.injEq]at h;simp only[zEh]at d;obtain⟨f,e⟩:=cD d;simp only[zFi];rw[h.1];exact i a h.2 e (b.set f _)
omit ok in
def IN (place:Nat->Option (Nat×Nat)):∀(l b:List (Nat×zY)){c c':zA},vZ Al π l b->aW Al π c c'->
  (Instr.fill place c l=aB/\Instr.fill place c' b=aB)\/∃d m,Instr.fill place c l=aA d/\Instr.fill place c' b=aA m/\aW Al π d m:=by
 intro l
 induction l with
 |nil=>intro b c c' h e;cases b with
  |nil=>exact aH ⟨c,c',rfl,rfl,e⟩
  |cons _ _=>exact h.elim
 |cons x l q=>
  intro b c c' h e;cases b with
  |nil=>exact h.elim
  |cons n b=>
   obtain⟨i,v⟩:=x;obtain⟨r,o⟩:=n;obtain⟨j,g,s⟩:=h;simp only at j g;subst j;unfold Instr.fill;cases place r with
   |none=>exact aG ⟨rfl,rfl⟩
   |some p=>
    obtain⟨off,size⟩:=p;dsimp only;have f:=g.cells;rw[f.size,e.size];split
    .exact aG ⟨rfl,rfl⟩
    .refine q b s ?_;rw[<-aCC,<-aCC,aCD,aCD];have k:∀(a:zA),a.toList.zipIdx.map (·.1)=a.toList:=λa=>by simp
     have:=Lc off v.cells.toList.zipIdx o.cells.toList.zipIdx (c:=c) (c':=c') (by simp[List.zipIdx_map_snd,f.size]) (by rw[k,k,toArray_toList,toArray_toList];exact f) e;exact this
def WS (fs:Array Field):bR P Al F ER π (fs.mapM λf=>do pure (f.offset,<-sizeOf f.type)) (fs.mapM λf=>do pure (f.offset,<-sizeOf f.type)):=by
 rw[zFp];refine aR ER ?_ ?_
 .induction fs.toList generalizing π with
  |nil=>exact aS rfl
  |cons f l i=>
   rw[List.mapM_cons];refine aR ER ?_ ?_
   .refine aR _ (bZ _) ?_;rintro a n _ ok h rfl;exact aS rfl
   .rintro a x _ ok h rfl;refine aR ER i ?_;rintro b x _ ok h rfl;exact aS rfl
 .rintro a x _ ok h rfl;exact aS rfl
def Dv (q:JR P){t:zD}(m:t<P.types.size){k p:Array (Nat×zY)}(h:vZ Al π k.toList p.toList):bR P Al F (VR Al) π (Instr.build t k) (Instr.build t p):=by
 unfold Instr.build;refine aR _ (gD q m) ?_;intro w z x ok o j;refine aR _ (aX t) ?_;rintro v u _ ok c ⟨rfl,_⟩;replace j:=j.mono c;replace h:=(h.mono o).mono c;cases u with
 |struct r=>
  refine aR _ (WS r) ?_;rintro l places _ ok a rfl;obtain⟨b,g⟩|⟨d,s,b,g,f⟩:=IN (places[·]?) _ _ (h.mono a) (j.mono a).cells
  .rw[b];exact aT
  .rw[b,g];exact aS (.agg f.size f.at')
 |array n e=>
  refine aR _ (bZ e) ?_;rintro l size _ ok a rfl;obtain⟨b,g⟩|⟨d,s,b,g,f⟩:=IN (λi=>aA (i*size,size)) _ _ (h.mono a) (j.mono a).cells
  .rw[b];exact aT
  .rw[b,g];exact aS (.agg f.size f.at')
 |_=>exact aT
omit ok in
def AN {c c':zA}(h:aW Al π c c')(n:Nat):aW Al π ((aCE n).map (c[·%c.size]!)) ((aCE n).map (c'[·%c'.size]!)):=by
 refine⟨by simp,λi a b j g=> ?_⟩;rw[zCt]at j g;obtain⟨x,k,rfl⟩:=zBx.1 j;obtain⟨y,f,rfl⟩:=zBx.1 g;rw[k]at f;cases f;rw[h.size];obtain⟨d,e⟩|⟨v,m,d,e,l⟩:=h.get (x%c.size)
 .simp only[getElem!_def,d,e];exact .bool aF
 .simp only[getElem!_def,d,e];exact l
def FY (q:JR P){t:zD}(s:t<P.types.size)(len:Nat){j p:Array (Nat×zY)}(h:vZ Al π j.toList p.toList):bR P Al F (VR Al) π (Instr.buildSlice t len j) (Instr.buildSlice t len p):=by
 unfold Instr.buildSlice;refine aR _ (aX t) ?_;rintro E u _ ok w ⟨rfl,hu⟩;cases u with
 |slice e=>
  refine aR _ (bZ e) ?_;rintro o size _ ok l rfl;dsimp only;by_cases m:len*size>2^24
  .rw[zAk m];exact aU
  .rw[zAh m,zAh m];have tail:∀(b:Rn)(z f:zA),Ok P b->(∀x y,o x y->b x y)->aW Al b z f->
     bR P Al F (VR Al) b (do
      let aA cells:=Instr.fill (λi=>aA (i*size,size)) ((aCE (len*size)).map (z[·%z.size]!)) j.toList|stuck "buildSlice: a part of the wrong size"
      pure (.slice (aA (<-newRow e cells)) len len)) (do
      let aA cells:=Instr.fill (λi=>aA (i*size,size)) ((aCE (len*size)).map (f[·%f.size]!)) p.toList|stuck "buildSlice: a part of the wrong size"
      pure (.slice (aA (<-newRow e cells)) len len)):=by
    intro b z f ok c k
    obtain⟨n,r⟩|⟨d,G,n,r,C⟩:=IN (λi=>aA (i*size,size)) _ _ (((h.mono w).mono l).mono c) (AN k (len*size))
    .rw[n];exact aT
    .rw[n,r];refine aR _ (lQ C e) ?_;intro D a H ok v B;exact aS (.slice (.some B) _ _)
   by_cases g:len*size=0
   .rw[zAk g,zAk g];exact tail o #[] #[] ok (λ_ _ x=>x) .nil
   .rw[zAh g,zAh g];refine aR _ (gD q (q.slice t e s hu)) ?_;intro b z f ok c k;exact tail b _ _ ok c k.cells
 |_=>exact aT
end
section
variable {P:zZ}{Al:zF}{F:Kp}{π:Rn}{α β γ δ:Type}{A:Rn->α->β->Prop} [ok:Ok P π]
def JY (r:JR P){t:zD}(C:t<P.types.size){x p y o:zY}(B:bG Al π x p)(w:bG Al π y o):bR P Al F (VR Al) π (Instr.makeSlice t x y) (Instr.makeSlice t p o):=by
 unfold Instr.makeSlice;refine aR _ (aX t) ?_;rintro M u _ ok q ⟨rfl,hu⟩;cases u with
 |slice e=>
  refine aR _ (nQ (B.mono q)) ?_;rintro L n _ ok j rfl;refine aR _ (nQ ((w.mono q).mono j)) ?_;rintro K m _ ok H rfl;refine aR _ (eY e) ?_;rintro J i _ ok G ⟨rfl,_⟩;dsimp only;have b:∀(d:Rn)(k:Nat)(z f:zA),Ok P d->aW Al d z f->bR P Al F (VR Al) d
    (do let a<-newRow e ((aCE k).map (z[·%z.size]!));pure (.slice (aA a) (IntKind.i64.wrap n).toNat (IntKind.i64.wrap m).toNat))
    (do let a<-newRow e ((aCE k).map (f[·%f.size]!));pure (.slice (aA a) (IntKind.i64.wrap n).toNat (IntKind.i64.wrap m).toNat)):=by
   intro d k z f ok g
   refine aR _ (lQ (AN g k) e) ?_
   intro l a N ok h I
   exact aS (.slice (.some I) _ _)
  split
  .split
   .exact dK _
   .split
    .exact dK _
    .refine aR _ (gE _) ?_;rintro d c _ ok h rfl;exact dK _
  .refine aR _ (sW _) ?_;rintro d _ _ ok h rfl;refine aR _ (bZ e) ?_;rintro l size _ ok E rfl;by_cases s:(IntKind.i64.wrap m).toNat*size=0
   .simp only[zAk s];exact b l _ #[] #[] ok .nil
   .simp only[zAh s];refine aR _ (gD r (r.slice t e C hu)) ?_;intro v z f ok D g;exact b v _ _ _ ok g.cells
 |_=>exact aT
def xO (t:zD){x a:zY}(h:bG Al π x a):bR P Al F (VR Al) π (Instr.makeInterface t x) (Instr.makeInterface t a):=by unfold Instr.makeInterface;refine aR _ (aX t) ?_;rintro c u _ ok b ⟨rfl,_⟩;cases u<;>first|exact aT|exact aS (.iface _ (h.mono b))
def RP {x a:zY}(h:bG Al π x a)(i:Nat):bR P Al F (VR Al) π (Instr.extract x i) (Instr.extract a i):=by
 cases h with
 |tuple d c=>
  unfold Instr.extract;dsimp only;obtain⟨e,b⟩|⟨v,g,e,b,f⟩:=(aW.mk d c).get i
  .rw[e];exact aT
  .rw[e,b];exact aS f
 |_=>exact aT
inductive lP (Al:zF)(π:Rn):Option zY->Option zY->Prop
 |none:lP Al π aB aB
 |some {x x':zY} (h:bG Al π x x'):lP Al π (aA x) (aA x')
omit ok in
def lP.mono {ρ:Rn}(h:∀b c,π b c->ρ b c){x a:Option zY}(k:lP Al π x a):lP Al ρ x a:=by
 cases k with
 |none=>exact .none
 |some k=>exact .some (k.mono h)
def gN {x a:zY}(h:bG Al π x a)(n:Nat)(c:BoundsCode):bR P Al F ER π (Instr.sliceBound x n c) (Instr.sliceBound a n c):=by
 unfold Instr.sliceBound;refine aR _ (mJ h) ?_;rintro b ⟨k,i⟩ _ ok d rfl;dsimp only;split
 .exact aS rfl
 .exact fF _ _ _ _
def jY (b:Bool)(len cap:Nat){l p h r m o:Option zY}(f:lP Al π l p)(hh:lP Al π h r)(t:lP Al π m o):
  bR P Al F ER π (Instr.sliceBounds b len cap l h m) (Instr.sliceBounds b len cap p r o):=by
 unfold Instr.sliceBounds
 dsimp only
 cases t with
 |none=>
  cases hh with
  |none=>
   cases f with
   |none=>exact aS rfl
   |some d=>refine aR ER (aS rfl) ?_;rintro j k _ ok a rfl;refine aR ER (aS rfl) ?_;rintro g q _ ok c rfl;refine aR _ (gN ((d.mono a).mono c) _ _) ?_;rintro i n _ ok e rfl;exact aS rfl
  |some hw=>
   refine aR ER (aS rfl) ?_;rintro g q _ ok a rfl;refine aR _ (gN (hw.mono a) _ _) ?_;rintro j k _ ok c rfl;cases f with
   |none=>exact aS rfl
   |some d=>refine aR _ (gN ((d.mono a).mono c) _ _) ?_;rintro i n _ ok e rfl;exact aS rfl
 |some s=>
  refine aR _ (gN s _ _) ?_;rintro g q _ ok a rfl;cases hh with
  |none=>exact aT
  |some hw=>
   refine aR _ (gN (hw.mono a) _ _) ?_;rintro j k _ ok c rfl;cases f with
   |none=>exact aS rfl
   |some d=>refine aR _ (gN ((d.mono a).mono c) _ _) ?_;rintro i n _ ok e rfl;exact aS rfl
def fU {x d:zY}(h:bG Al π x d)(c:BoundsCode):bR P Al F (λ_ a b=>a=0/\b=0) π (Instr.sliceBound x 0 c) (Instr.sliceBound d 0 c):=by
 unfold Instr.sliceBound;refine aR _ (mJ h) ?_;rintro e ⟨k,i⟩ _ ok f rfl;dsimp only;split
 .exact aS ⟨by omega,by omega⟩
 .exact fF _ _ _ _
def AZ {l o h r m n:Option zY}(g:lP Al π l o)(hh:lP Al π h r)(t:lP Al π m n):
  bR P Al F (λ_ p q=>q=p/\p.1=0/\p.2.1=0/\p.2.2=0) π (Instr.sliceBounds aE 0 0 l h m) (Instr.sliceBounds aE 0 0 o r n):=by
 unfold Instr.sliceBounds
 dsimp only
 cases t with
 |none=>
  cases hh with
  |none=>
   refine aR (λ_ a b=>a=0/\b=0) (aS ⟨rfl,rfl⟩) ?_;rintro k _ _ ok d ⟨rfl,rfl⟩;refine aR (λ_ a b=>a=0/\b=0) (aS ⟨rfl,rfl⟩) ?_;rintro j _ _ ok c ⟨rfl,rfl⟩;cases g with
   |none=>exact aS ⟨rfl,rfl,rfl,rfl⟩
   |some e=>refine aR _ (fU ((e.mono d).mono c) _) ?_;rintro i _ _ ok f ⟨rfl,rfl⟩;exact aS ⟨rfl,rfl,rfl,rfl⟩
  |some hw=>
   refine aR (λ_ a b=>a=0/\b=0) (aS ⟨rfl,rfl⟩) ?_;rintro k _ _ ok d ⟨rfl,rfl⟩;refine aR _ (fU (hw.mono d) _) ?_;rintro j _ _ ok c ⟨rfl,rfl⟩;cases g with
   |none=>exact aS ⟨rfl,rfl,rfl,rfl⟩
   |some e=>refine aR _ (fU ((e.mono d).mono c) _) ?_;rintro i _ _ ok f ⟨rfl,rfl⟩;exact aS ⟨rfl,rfl,rfl,rfl⟩
 |some s=>
  refine aR _ (fU s _) ?_;rintro k _ _ ok d ⟨rfl,rfl⟩;cases hh with
  |none=>exact aT
  |some hw=>
   refine aR _ (fU (hw.mono d) _) ?_;rintro j _ _ ok c ⟨rfl,rfl⟩;cases g with
   |none=>exact aS ⟨rfl,rfl,rfl,rfl⟩
   |some e=>refine aR _ (fU ((e.mono d).mono c) _) ?_;rintro i _ _ ok f ⟨rfl,rfl⟩;exact aS ⟨rfl,rfl,rfl,rfl⟩
def Dp (t:zD){x C:zY}(g:bG Al π x C){l D h E m r:Option zY}(j:lP Al π l D)(hh:lP Al π h E)(i:lP Al π m r):
  bR P Al F (VR Al) π (Instr.slice t x l h m) (Instr.slice t C D E r):=by
 have y:r.isSome=m.isSome:=by cases i<;>rfl
 unfold Instr.slice
 refine aR _ (aX t) ?_
 rintro L u _ ok p ⟨rfl,_⟩
 replace g:=g.mono p
 replace j:=j.mono p
 replace hh:=hh.mono p
 replace i:=i.mono p
 cases u with
 |string=>
  cases g with
  |string s=>
   dsimp only;rw[y];split
   .exact aT
   .refine aR _ (jY aF _ _ j hh .none) ?_;rintro q ⟨a,b,c⟩ _ ok f rfl;exact aS (.string _)
  |_=>exact aT
 |slice e=>
  cases g with
  |slice H n c=>
   dsimp only;refine aR _ (jY aE _ _ j hh i) ?_;rintro q ⟨a,b,c⟩ _ ok f rfl;refine aR _ (bZ e) ?_;rintro B size _ ok d rfl;dsimp only;refine aS (.slice ?_ _ _);have k:=(H.mono f).mono d;split
   .exact k
   .cases k with
    |none=>exact .none
    |some z=>exact .some (z.add _)
  |void I a0=>dsimp only;refine aR _ (AZ j hh i) ?_;rintro q ⟨a,b,c⟩ _ ok f ⟨rfl,G⟩;refine aR _ (bZ e) ?_;rintro B size _ ok d rfl;obtain⟨rfl,rfl,rfl⟩:=G;exact aS (.void I a0)
  |_=>exact aT
 |pointer arr=>
  dsimp only;refine aR _ (GA g) ?_;intro q a O ok f z;refine aR _ (aX arr) ?_;rintro B u _ ok d ⟨rfl,_⟩;cases u with
  |array n e=>
   dsimp only;refine aR _ (jY aF _ _ ((j.mono f).mono d) ((hh.mono f).mono d) ((i.mono f).mono d)) ?_;rintro K ⟨M,N,m1⟩ _ ok w rfl;refine aR _ (bZ e) ?_;rintro J size _ ok v rfl;dsimp only;refine aS (.slice ?_ _ _);have o:=((z.mono d).mono w).mono v;split
   .exact .some o
   .exact .some (o.add _)
  |_=>exact aT
 |_=>cases g<;>exact aT
def RG (t:zD){x i:zY}(o:bG Al π x i){l k h r m j:Option zY}(q:lP Al π l k)(hh:lP Al π h r)(p:lP Al π m j):
  bR P Al F (VR Al) π (Instr.sliceAt t x l h m) (Instr.sliceAt t i k r j):=by
 unfold Instr.sliceAt
 refine aR _ (aX t) ?_
 rintro z u _ ok b ⟨rfl,_⟩
 cases u with
 |array n e=>
  refine aR _ (kS (o.mono b)) ?_;intro y a D ok c s;refine aR _ (jY aF _ _ ((q.mono b).mono c) ((hh.mono b).mono c) ((p.mono b).mono c)) ?_;rintro w ⟨B,C,m1⟩ _ ok g rfl;refine aR _ (bZ e) ?_;rintro v size _ ok f rfl;refine aS (.slice ?_ _ _);have d:=(s.mono g).mono f;split
  .exact .some d
  .exact .some (d.add _)
 |_=>exact Dp t (o.mono b) (q.mono b) (hh.mono b) (p.mono b)
def WL {a a':Addr}(e:bV π a a')(n m:Nat):bR P Al F AR π (partAt a n m) (partAt a' n m):=by
 unfold partAt;refine aR _ (fM e) ?_;rintro i b _ ok j rfl;have f:bV i {block:=a.block,off:=a.off+n} {block:=a'.block,off:=a'.off+n}:=⟨j _ _ e.1,by simp[e.2.1],rfl⟩;refine aR _ (fM f) ?_;rintro g c _ ok d rfl;refine aS ?_;have h:=f.mono d;show bV g _ _
 split
 .exact h
 .exact⟨h.1,h.2.1,rfl⟩
def RO (t:zD){x c:zY}(g:bG Al π x c)(i:Nat):bR P Al F (VR Al) π (Instr.fieldAt t x i) (Instr.fieldAt t c i):=by
 unfold Instr.fieldAt;refine aR _ (aX t) ?_;rintro p u _ ok k ⟨rfl,_⟩;cases u with
 |struct m=>
  dsimp only;cases m[i]? with
  |none=>exact aT
  |some f=>
   dsimp only;refine aR _ (kS (g.mono k)) ?_;intro o a r ok j d;refine aR AR ?_ ?_
   .unfold fieldPlace;refine aR _ (bZ f.type) ?_;rintro e n _ ok h rfl;split
    .exact WL (d.mono h) _ _
    .exact aS ((d.mono h).add _)
   .intro e b q ok h l;exact aS (.pointer (.some l))
 |_=>exact aT
def Dt (t:zD){x a:zY}(h:bG Al π x a)(i:Nat):bR P Al F (VR Al) π (Instr.field t x i) (Instr.field t a i):=by
 unfold Instr.field;refine aR _ (aX t) ?_;rintro k u _ ok d ⟨rfl,_⟩;cases u with
 |struct g=>
  dsimp only;cases g[i]? with
  |none=>exact aT
  |some f=>dsimp only;refine aR _ (Dx (h.mono d)) ?_;intro j c c' ok b e;exact jO e _ _
 |_=>exact aT
def RM (t:zD){x s y r:zY}(h:bG Al π x s)(v:bG Al π y r):bR P Al F (VR Al) π (Instr.indexAt t x y) (Instr.indexAt t s r):=by
 unfold Instr.indexAt;refine aR _ (mJ v) ?_;rintro C ⟨k,i⟩ _ ok w rfl;replace h:=h.mono w;dsimp only;have tail:∀(f:Rn)(base b:zO)(len:Nat)(e:zD),Ok P f->(AI f base b\/len=0/\∃a q,base=aA a/\b=aA q)->bR P Al F (VR Al) f
   (do
    let d:=len<=1&&(match<-underlying t with| .array .. =>aE|_=>aF)
    match base with
    |some a=>
     if 0<=i/\i<len then pure (.pointer (aA (a.add (i.toNat*(<-sizeOf e)))))
     else if d then unsupported (.noEntry "op/indexAddr.an index out of range at an array of length 0 or 1 (ledger 616)")
     else boundsPanic k i len .index
    |none=>boundsPanic k i 0 .index)
   (do
    let d:=len<=1&&(match<-underlying t with| .array .. =>aE|_=>aF)
    match b with
    |some a=>
     if 0<=i/\i<len then pure (.pointer (aA (a.add (i.toNat*(<-sizeOf e)))))
     else if d then unsupported (.noEntry "op/indexAddr.an index out of range at an array of length 0 or 1 (ledger 616)")
     else boundsPanic k i len .index
    |none=>boundsPanic k i 0 .index):=by
  intro f base b len e ok o
  refine aR _ (aX t) ?_
  rintro m u _ ok g ⟨rfl,_⟩
  obtain o|⟨rfl,a,q,rfl,rfl⟩:=o
  rotate_left
  .have l:¬(0<=i/\i<((0:Nat):Int)):=by omega
   simp only[zAh l];cases u<;>dsimp only<;>(split<;>first|exact aU|exact fF (P:=P) (π:=m) k i 0 .index)
  cases o with
  |none=>exact fF _ _ _ _
  |some p=>
   dsimp only;by_cases l:0<=i/\i<(len:Int)
   .rw[zAk l,zAk l];refine aR _ (bZ e) ?_;rintro B n _ ok j rfl;exact aS (.pointer (.some (((p.mono g).mono j).add _)))
   .simp only[zAh l];cases u<;>dsimp only<;>(split<;>first|exact aU|exact fF (P:=P) (π:=m) k i len .index)
 refine aR _ (aX t) ?_;rintro f u _ ok g ⟨rfl,_⟩;replace h:=h.mono g;cases u with
 |array len e=>refine aR _ (kS h) ?_;intro m a q ok j p;exact tail m _ _ len e ok (aG (.some p))
 |slice e=>
  cases h with
  |slice z n c=>exact tail f _ _ n e ok (aG z)
  |void D a0=>exact tail f _ _ 0 e ok (aH ⟨rfl,_,_,rfl,rfl⟩)
  |_=>exact aT
 |_=>cases h<;>exact aT
def Ds (t:zD){x g y f:zY}(h:bG Al π x g)(j:bG Al π y f):bR P Al F (VR Al) π (Instr.index t x y) (Instr.index t g f):=by
 unfold Instr.index;refine aR _ (mJ j) ?_;rintro r ⟨k,i⟩ _ ok l rfl;replace h:=h.mono l;refine aR _ (aX t) ?_;rintro q u _ ok d ⟨rfl,_⟩;replace h:=h.mono d;cases u with
 |array len e=>
  cases h with
  |agg o m=>
   dsimp only;by_cases a:0<=i/\i<(len:Int)
   .rw[zAk a,zAk a];refine aR _ (bZ e) ?_;rintro p n _ ok c rfl;exact jO ((aW.mk o m).mono c) _ _
   .rw[zAh a,zAh a];exact fF _ _ _ _
  |_=>exact aT
 |string=>
  cases h with
  |string s=>
   dsimp only;cases(if 0<=i then s[i.toNat]? else aB)with
   |none=>exact fF _ _ _ _
   |some b=>exact aS (.int _ _)
  |_=>exact aT
 |_=>cases h<;>exact aT
end
end Go.Ren
