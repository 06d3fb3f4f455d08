import Derived.Test.YtghpcgagijhlaaaGreatDoorP03
set_option linter.all false
set_option maxRecDepth 100000
set_option maxHeartbeats 16000000
open Option renaming some->aA,none->aB
open Bool renaming true->aE,false->aF
open Or renaming inl->aG,inr->aH
open Go.IntKind renaming u8->aP
open Go renaming runtimePanic->aCB
namespace Go.Ren
section
variable {P:zZ}{Al:zF}{F:Kp}{π:Rn}{α β γ δ:Type}{A:Rn->α->β->Prop} [ok:Ok P π]
def pA (hF:∀b,¬F b){a a':Addr}(h:bV π a a'):bR P Al F ER π (markStringish a) (markStringish a'):=by
 unfold markStringish;refine aR _ (fV h.1) ?_;rintro c s _ ok d rfl;cases s with
 |none=>exact aS rfl
 |some x=>exact WR hF (show bV c ⟨a.block,x.2,aB⟩ ⟨a'.block,x.2,aB⟩from⟨d _ _ h.1,rfl,rfl⟩) _
omit ok in
def JE (d:Array UInt8):aW Al π (d.map λb=>(.int aP b.toNat:zY)) (d.map λb=>(.int aP b.toNat:zY)):=by refine⟨rfl,λi v c a h=> ?_⟩;rw[a]at h;cases h;rw[zCt]at a;obtain⟨x,_,rfl⟩:=zBx.1 a;exact .int _ _
def xH (hF:(∀b,¬F b)\/¬F.cmp)(e:zD)(s:ByteArray):bR P Al F (VR Al) π (Conv.stringToBytes e s) (Conv.stringToBytes e s):=by
 unfold Conv.stringToBytes;refine aR _ (gE _) ?_;rintro g n _ ok p rfl;obtain hF|hC:=hF;rotate_left
 .have:=bR.marked (P:=P) (Al:=Al) (F:=F) (π:=g) (A:=VR Al) (ty:=e) (k:=λr=>Sem.pure (Value.slice (aA ⟨r,0,aB⟩) s.size n)) (k':=λr=>Sem.pure (Value.slice (aA ⟨r,0,aB⟩) s.size n)) hC ((JE s.data).append (aW.replicate (.int aP 0) (n-s.size))) λc r i o d j=> .pure (show bG Al c _ _ from bG.slice (.some (show bV c ⟨r,0,aB⟩ ⟨i,0,aB⟩from⟨j,rfl,rfl⟩)) _ _);exact this
 refine aR _ (lQ ((JE s.data).append (aW.replicate (.int aP 0) _)) e) ?_;intro c a q ok d f;refine aR _ (pA hF f) ?_;rintro l _ _ ok h rfl;exact aS (.slice (.some (f.mono h)) _ _)
def xS {x g:zY}(o:bG Al π x g):bR P Al F (VR Al) π (Conv.bytesToString x) (Conv.bytesToString g):=by
 unfold Conv.bytesToString;cases o with
 |slice p n c=>
  cases p with
  |none=>exact aS (.string _)
  |some f=>
   refine aR _ (pO f n) ?_;intro r c c' ok t j;refine aR ER ?_ ?_
   .rw[<-zFh,<-zFh];refine iP (S:=ER) (λ_ _ _ _ _ h=>h) c.toList c'.toList (VR Al) (λ_ _ _ _ h k=>k.mono h) (by simp[j.size]) (λi a b f q=>j.at' i a b (by simpa using f) (by simpa using q)) _ _ _ _ rfl ?_;rintro l a b s _ ok d e rfl;cases e with
    |int k m=>cases k<;>first|exact aT|exact aS (aG ⟨_,_,rfl,rfl,rfl⟩)
    |_=>exact aT
   .rintro l s _ ok d rfl;exact aS (.string _)
 |void u a0=>exact aS (.string _)
 |_=>exact aT
def FQ {a a':Addr}(h:bV π a a'):bR P Al F AR π (Conv.seenAt a) (Conv.seenAt a'):=by
 unfold Conv.seenAt;refine aR _ (qY h.1) ?_;intro n s o ok i g;cases g with
 |none=>exact aS (h.mono i)
 | @some b t u hb=>
  dsimp only;rw[h.2.1,h.2.2,hb.2.2];split
  .exact aS hb
  .split
   .exact aU
   .refine eB (λr _=>by simp only[jN,sR];rfl) ?_;rintro m p q ok d ⟨k,j⟩;rw[k,j];cases byteOfCell P P.depth u a.off with
    |none=>exact aU
    |some β=>
     dsimp only;refine aR _ (fV (d _ _ hb.1)) ?_;rintro l s _ ok f rfl;cases s with
     |none=>exact aU
     |some z=>
      obtain⟨e,cells⟩:=z;dsimp only;split
      .exact aU
      .rw[hb.2.1];cases cellAtBytes P P.depth e (cells/P.cellsOf e) b.off β with
       |none=>exact aU
       |some c=>exact aS ⟨f _ _ (d _ _ hb.1),rfl,rfl⟩
def RS {r r':Nat}(h:π r r'):bR P Al F ER π (cellsIn r) (cellsIn r'):=by
 unfold cellsIn;refine aR _ (fV h) ?_;rintro e s _ ok c rfl;cases s with
 |some z=>exact aS rfl
 |none=>
  refine .getObj (c _ _ h) ?_;rintro o g (⟨b,a⟩|⟨x,f,b,a,d⟩)
  .rw[a];cases o<;>exact .pure rfl
  .cases b;cases a;cases d<;>exact .pure rfl
def sB {a a':Addr}(h:bV π a a')(u:zD)(n:Nat):bR P Al F ER π (variablesAt a u n) (variablesAt a' u n):=by
 unfold variablesAt;refine eB (λi _=>by simp only[LF];rfl) ?_;rintro g p q ok b ⟨e,d⟩;rw[e,d];refine aR _ (fV (b _ _ h.1)) ?_;rintro f s _ ok c rfl;rw[h.2.1];cases s with
 |none=>exact aS rfl
 |some z=>exact aS rfl
def oZ {src dst:zD}(O:∀e,(P.underlying src=aA (.pointer e)\/P.underlying dst=aA (.pointer e))->kC P e){x N:zY}(d:bG Al π x N):
  bR P Al F (VR Al) π (Conv.unsafePointer src dst x) (Conv.unsafePointer src dst N):=by
 unfold Conv.unsafePointer
 refine aR _ (aX src) ?_
 rintro ρ u1 _ ok V ⟨rfl,Y⟩
 refine aR _ (aX dst) ?_
 rintro σ u2 _ ok I ⟨rfl,X⟩
 replace d:=(d.mono V).mono I
 cases u1 with
 |pointer t=>
  cases u2 with
  |unsafePointer=>
   cases d with
   |pointer f=>
    cases f with
    |none=>exact aS (.pointer .none)
    |some l=>
     refine aR _ (FQ l) ?_;intro S s T ok H g;refine aR _ (RS g.1) ?_;rintro R c _ ok i rfl;dsimp only;rw[g.2.1,g.2.2];refine aR _ (bZ t) ?_;rintro M n _ ok o rfl;have j:=(g.mono i).mono o;have k1:bR P Al F (VR Al) M (do pure (.pointer (aA ⟨<-newObj (.view s t),0,aB⟩))) (do pure (.pointer (aA ⟨<-newObj (.view T t),0,aB⟩))):=
      .view (.view j t (O t (aG Y))) λC r U _ _ J=> .pure (.pointer (.some ⟨J,rfl,rfl⟩))
     cases c<;>dsimp only<;>split<;>first|exact k1|exact aS (.pointer (.some j))
   |_=>exact aT
  |_=>cases d<;>exact aT
 |unsafePointer=>
  cases u2 with
  |pointer u=>
   cases d with
   |pointer f=>
    cases f with
    |none=>exact aS (.pointer .none)
    |some l=>
     refine aR _ (FQ l) ?_;intro S a Z ok H l;refine aR _ (bZ u) ?_;rintro R n _ ok i rfl;refine aR _ (sB (l.mono i) u 1) ?_;rintro M b _ ok o rfl;have v:=(l.mono i).mono o;split
     .exact aS (.pointer (.some v))
     .refine aR _ (fV v.1) ?_;rintro C s _ ok G rfl;have fin:∀(w:Rn),Ok P w->(∀x y,C x y->w x y)->bR P Al F (VR Al) w (do pure (.pointer (aA ⟨<-newObj (.view a u),0,aB⟩))) (do pure (.pointer (aA ⟨<-newObj (.view Z u),0,aB⟩))):=λw _ h=>
       .view (.view ((v.mono G).mono h) u (O u (aH X))) λC r U _ _ J=> .pure (.pointer (.some ⟨J,rfl,rfl⟩))
      cases s with
      |none=>exact aU
      |some z=>
       refine eB (λfs _=>by simp only[rZ]) ?_;rintro w p q ok E ⟨f,W⟩;rw[f,W];refine eB (λ_ _=>rfl) ?_;rintro B p' q' ok D ⟨L,K⟩;rw[L,K];split
       .exact aU
       .exact fin B ok λx y h=>D _ _ (E _ _ h)
   |_=>exact aT
  |unsafePointer=>
   cases d with
   |pointer f=>exact aS (.pointer f)
   |_=>exact aT
  |int k=>
   cases d with
   |pointer f=>
    cases f with
    |none=>exact aS (.int _ _)
    |some l=>exact xT l _
   |_=>exact aT
  |_=>cases d<;>exact aT
 |int k=>
  cases u2 with
  |unsafePointer=>
   cases d with
   |int k n=>
    by_cases Q:n=0
    .subst Q;exact aU
    .cases n with
     |ofNat m=>cases m with
      |zero=>exact absurd rfl Q
      |succ m=>exact aU
     |negSucc m=>exact aU
   |pointer f=>cases f<;>first|exact aU|exact aT
   |_=>exact aT
  |_=>cases d<;>exact aT
 |_=>cases u2<;>cases d<;>exact aT
end
def wS {P:zZ}(src dst:zD)(z:zY):nD P (Conv.unsafePointer src dst (.func (.method "") #[.iface 1000000 .nilIface] #[z])):=by unfold Conv.unsafePointer;refine tT λa=>tT λb=> ?_;cases a<;>cases b<;>exact oP
def PE {P:zZ}(src dst:zD)(z:zY):nD P (convert src dst (.func (.method "") #[.iface 1000000 .nilIface] #[z])):=by
 unfold convert;refine tT λa=>tT λb=> ?_;cases a<;>cases b<;>first|exact rO|exact wS src dst z|skip
 all_goals
  refine tT λc=> ?_
  cases c<;>first|exact oP|(rename_i k;cases k<;>exact oP)
section
variable {P:zZ}{Al:zF}{F:Kp}{π:Rn}{α β γ δ:Type}{A:Rn->α->β->Prop} [ok:Ok P π]
structure Aa (P:zZ)(F:Kp)(src dst:zD):Prop where
 ptr:∀e,(P.underlying src=aA (.pointer e)\/P.underlying dst=aA (.pointer e))->kC P e
 mark:(∃e,P.underlying dst=aA (.slice e))->(∀b,¬F b)\/(¬F.cmp/\∀e,P.underlying src≠aA (.slice e))
 float:∀k,P.underlying dst≠aA (.float k)
 complex:∀k,P.underlying dst≠aA (.complex k)
 Ya:∀e e',P.underlying src=aA (.slice e)->P.underlying dst=aA (.slice e')->False
 rune:∀e,(P.underlying src=aA (.slice e)\/P.underlying dst=aA (.slice e))->P.underlying e≠aA (.int .i32)
def RR {src dst:zD}(i:Aa P F src dst){x l:zY}(f:bG Al π x l):bR P Al F (VR Al) π (convert src dst x) (convert src dst l):=by
 by_cases b:∃z,x=(.func (.method "") #[.iface 1000000 .nilIface] #[z])
 .obtain⟨z,rfl⟩:=b;exact .dead (PE src dst z)
 have a:=oZ (P:=P) (F:=F) i.ptr f;unfold convert;refine aR _ (aX src) ?_;rintro I u1 _ ok E ⟨rfl,w⟩;refine aR _ (aX dst) ?_;rintro B u2 _ ok q ⟨rfl,j⟩;replace f:=(f.mono E).mono q;replace a:=oZ (P:=P) (F:=F) i.ptr f;have C:∀e,u1= .slice e->bR P Al F (VR Al) B (do match<-underlying e with| .int aP=>Conv.bytesToString x| .int .i32=>Conv.runesToString x|_=>stuck "Convert: a slice of what to string?") (do match<-underlying e with| .int aP=>Conv.bytesToString l| .int .i32=>Conv.runesToString l|_=>stuck "Convert: a slice of what to string?"):=by
  intro e r;subst r;refine aR _ (aX e) ?_;rintro y u _ ok d ⟨rfl,m⟩;cases u with
  |int k=>cases k<;>first|exact aT|exact xS (f.mono d)|exact absurd m (i.rune e (aG w))
  |_=>exact aT
 have o:∀e s,u2= .slice e->bR P Al F (VR Al) B (do match<-underlying e with| .int aP=>Conv.stringToBytes e s| .int .i32=>Conv.stringToRunes e s|_=>stuck "Convert: string to a slice of what?") (do match<-underlying e with| .int aP=>Conv.stringToBytes e s| .int .i32=>Conv.stringToRunes e s|_=>stuck "Convert: string to a slice of what?"):=by
  intro e s r;subst r;refine aR _ (aX e) ?_;rintro y u _ ok d ⟨rfl,m⟩;cases u with
  |int k=>cases k<;>first|exact aT|exact xH ((i.mark ⟨e,j⟩).imp id And.left) e s|exact absurd m (i.rune e (aH j))
  |_=>exact aT
 cases u2 with
 |float k=>exact absurd j (i.float k)
 |complex k=>exact absurd j (i.complex k)
 |int k=>
  cases f with
  |int D n=>exact aS (.int _ _)
  |pointer g=>
   cases g with
   |none=>cases u1<;>first|exact a|exact aU
   |some t=>cases u1<;>first|exact a|exact aU
  |junk v _=>exact absurd ⟨_,rfl⟩ b
  |same _ z=>exact absurd ⟨z,rfl⟩ b
  |_=>cases u1<;>first|exact a|exact aU
 |string=>
  cases f with
  |int D n=>exact aS (.string _)
  |string s=>exact aS (.string s)
  |pointer g=>cases g<;>cases u1<;>first|exact C _ rfl|exact a|exact aU
  |junk v _=>exact absurd ⟨_,rfl⟩ b
  |same _ z=>exact absurd ⟨z,rfl⟩ b
  |_=>cases u1<;>first|exact C _ rfl|exact a|exact aU
 |slice e=>
  cases f with
  |string s=>exact o e s rfl
  |pointer g=>cases g<;>cases u1<;>first|exact a|exact aU
  |slice g n c=>
   cases g with
   |none=>cases u1<;>first|exact a|exact aU
   |some t=>
    cases u1 with
    |slice G=>
     dsimp only;refine aR _ (aX e) ?_;rintro y u _ ok d ⟨rfl,m⟩;cases(src==dst)with
     |false=>exact aU
     |true=>
      cases u with
      |int k=>
       cases k<;>first|exact aU|skip
       refine aR _ (pA ((i.mark ⟨e,j⟩).elim id λh=>absurd w (h.2 _)) (t.mono d)) ?_
       rintro H _ _ ok p rfl
       exact aS (.slice (.some ((t.mono d).mono p)) _ _)
      |_=>exact aU
    |_=>first|exact a|exact aU
  |void J a0=>
   cases u1 with
   |slice G=>exact(i.Ya _ _ w j).elim
   |_=>first|exact a|exact aU
  |junk v _=>exact absurd ⟨_,rfl⟩ b
  |same _ z=>exact absurd ⟨z,rfl⟩ b
  |_=>cases u1<;>first|exact a|exact aU
 |unsafePointer=>cases f<;>cases u1<;>first|exact absurd ⟨_,rfl⟩ b|exact a|exact aU
 |_=>
  cases f with
  |pointer g=>cases g<;>cases u1<;>first|exact a|exact aU
  |junk v _=>exact absurd ⟨_,rfl⟩ b
  |same _ z=>exact absurd ⟨z,rfl⟩ b
  |_=>cases u1<;>first|exact a|exact aU
def Pc (d:Array zD)(t:zD){as b:zA}(h:aW Al π as b):bR P Al F (VR Al) π (Builtin.len_ d t as) (Builtin.len_ d t b):=by
 unfold Builtin.len_;cases d[0]? with
 |none=>obtain⟨a,c⟩|⟨x,g,a,c,f⟩:=h.get 0<;>rw[a]<;>exact aT
 |some t=>
  obtain⟨a,c⟩|⟨x,g,a,c,f⟩:=h.get 0
  .rw[a];exact aT
  .rw[a,c];refine aR _ (aX t) ?_;rintro k u _ ok l ⟨rfl,_⟩;cases u with
   |pointer arr=>refine aR _ (aX arr) ?_;rintro j u _ ok i ⟨rfl,_⟩;cases u<;>first|exact aT|exact aS (.int _ _)
   |array n e=>exact aS (.int _ _)
   |_=>cases f<;>first|exact aT|exact aS (.int _ _)
def Pd (d:Array zD)(t:zD){as b:zA}(h:aW Al π as b):bR P Al F (VR Al) π (Builtin.cap_ d t as) (Builtin.cap_ d t b):=by
 unfold Builtin.cap_;cases d[0]? with
 |none=>obtain⟨a,c⟩|⟨x,g,a,c,f⟩:=h.get 0<;>rw[a]<;>exact aT
 |some t=>
  obtain⟨a,c⟩|⟨x,g,a,c,f⟩:=h.get 0
  .rw[a];exact aT
  .rw[a,c];refine aR _ (aX t) ?_;rintro k u _ ok l ⟨rfl,_⟩;cases u with
   |pointer arr=>refine aR _ (aX arr) ?_;rintro j u _ ok i ⟨rfl,_⟩;cases u<;>first|exact aT|exact aS (.int _ _)
   |array n e=>exact aS (.int _ _)
   |_=>cases f<;>first|exact aT|exact aS (.int _ _)
def Dr {x a:zY}(h:bG Al π x a):bR P Al F ER π (Builtin.lenOf x) (Builtin.lenOf a):=by cases h<;>first|exact aT|exact aS rfl
def wK {x d:zY}(e:bG Al π x d):bR P Al F (λ_ a b=>a=b/\∀p c,x= .slice p 0 c->a=0) π (Builtin.lenOf x) (Builtin.lenOf d):=by
 cases e with
 |slice f n c=>exact aS ⟨rfl,λp c h=>by cases h;rfl⟩
 |void g a0=>exact aS ⟨rfl,λp c h=>rfl⟩
 |string s=>exact aS ⟨rfl,λp c h=>by cases h⟩
 |_=>exact aT
def FW (size:Nat){x a:zY}(h:bG Al π x a):bR P Al F (λ_ d g=>d= #[]/\g= #[]) π (Builtin.firstCells size 0 x) (Builtin.firstCells size 0 a):=by
 cases h with
 |slice f n c=>
  cases f with
  |none=>exact aS ⟨rfl,rfl⟩
  |some i=>unfold Builtin.firstCells;rw[zEs];exact aS ⟨rfl,rfl⟩
 |void j a0=>unfold Builtin.firstCells;rw[zEs];exact aS ⟨rfl,rfl⟩
 |string s=>
  have e:(s.extract 0 0).data.map (λb=>(.int aP b.toNat:zY))= #[]:=by simp
  exact aS ⟨e,e⟩
 |_=>exact aT
def oA (size n:Nat){x b:zY}(e:∀a c,x= .slice a 0 c->n=0)(h:bG Al π x b):bR P Al F (Wt Al) π (Builtin.firstCells size n x) (Builtin.firstCells size n b):=by
 cases h with
 |slice d m c=>
  cases d with
  |none=>exact aS .nil
  |some f=>exact pO f _
 |void g a0=>have:=e _ _ rfl;subst this;unfold Builtin.firstCells;rw[zEs];exact aS .nil
 |string s=>exact aS (JE _)
 |_=>exact aT
def Ip (p:Array zD)(t:zD){as k:zA}(h:aW Al π as k):bR P Al F (VR Al) π (Builtin.copy_ p t as) (Builtin.copy_ p t k):=by
 unfold Builtin.copy_;cases p[0]? with
 |none=>obtain⟨g,o⟩|⟨x,w,g,o,l⟩:=h.get 0<;>rw[g]<;>exact aT
 |some t=>
  obtain⟨g,o⟩|⟨x,w,g,o,l⟩:=h.get 0
  .rw[g];exact aT
  obtain⟨f1,f2⟩|⟨y,J,f1,f2,i⟩:=h.get 1
  .rw[g,f1];exact aT
  rw[g,o,f1,f2];refine aR _ (aX t) ?_;rintro I u _ ok q ⟨rfl,_⟩;replace l:=l.mono q;replace i:=i.mono q;cases u with
  |slice e=>
   cases l with
   |slice B n c=>
    dsimp only;refine aR _ (wK i) ?_;rintro v m _ ok f ⟨rfl,G⟩;refine aR _ (bZ e) ?_;rintro s size _ ok b rfl;have C:∀a c,y= .slice a 0 c->Nat.min m n=0:=λa c h=>by rw[G a c h];exact Nat.zero_min n
    refine aR _ (oA size _ C ((i.mono f).mono b)) ?_
    intro r d L ok j D
    cases B with
    |none=>exact aS (.int _ _)
    |some E=>refine aR _ (kT _ _ 0 (((E.mono f).mono b).mono j) (by rw[toArray_toList,toArray_toList];exact D)) ?_;rintro H _ _ ok z rfl;exact aS (.int _ _)
   |void K a0=>dsimp only;refine aR _ (Dr i) ?_;rintro v m _ ok f rfl;refine aR _ (bZ e) ?_;rintro s size _ ok b rfl;rw[show Nat.min m 0=0 from Nat.min_zero m];refine aR _ (FW size ((i.mono f).mono b)) ?_;rintro r _ _ ok j ⟨rfl,rfl⟩;exact aS (.int _ _)
   |_=>exact aT
  |_=>exact aT
omit ok in
def pK {c c':zA}(h:aW Al π c c')(n:Nat):aW Al π (Builtin.zeroCells c n) (Builtin.zeroCells c' n):=by unfold Builtin.zeroCells;rw[h.size];have:=AN h (n*c.size);rw[h.size]at this;exact this
def Du (j:JR P){d:Array zD}(m:∀t,d[0]? =aA t->t<P.types.size)(t:zD){as b:zA}(h:aW Al π as b):bR P Al F (VR Al) π (Builtin.clear_ d t as) (Builtin.clear_ d t b):=by
 unfold Builtin.clear_;cases s:d[0]? with
 |none=>obtain⟨a,f⟩|⟨x,k,a,f,i⟩:=h.get 0<;>rw[a]<;>exact aT
 |some t=>
  obtain⟨a,f⟩|⟨x,k,a,f,i⟩:=h.get 0
  .rw[a];exact aT
  rw[a,f];refine aR _ (aX t) ?_;rintro y u _ ok p ⟨rfl,hu⟩;cases i with
  |jM=>cases u<;>exact aS eQ
  |slice q n c=>
   cases q with
   |none=>cases u<;>exact aS eQ
   |some r=>
    cases n with
    |zero=>cases u<;>exact aS eQ
    |succ n=>
     cases u with
     |slice e=>refine aR _ (gD j (j.slice t e (m t s) hu)) ?_;intro w z B ok g l;refine aR _ (kT _ _ 0 ((r.mono p).mono g) (by rw[toArray_toList,toArray_toList];exact pK l.cells _)) ?_;rintro v _ _ ok o rfl;exact aS eQ
     |_=>exact aT
  |void C a0=>cases u<;>exact aS eQ
  |_=>cases u<;>exact aT
def Im {x e y d:zY}(f:bG Al π x e)(a:bG Al π y d):bR P Al F (VR Al) π (Builtin.min2 x y) (Builtin.min2 e d):=by
 cases f with
 |int k n=>
  cases a with
  |int p m=>exact aS (.int _ _)
  |pointer h=>cases h<;>first|exact aT|exact aU
  |_=>exact aT
 |string s=>
  cases a with
  |string t=>refine aR _ (xI .leq s t) ?_;intro l v o ok q g;refine aR _ (FZ g) ?_;rintro j b _ ok i rfl;exact aS (.string _)
  |pointer h=>cases h<;>first|exact aT|exact aU
  |_=>exact aT
 |pointer h=>cases h<;>cases a<;>first|exact aU|exact aT|(rename_i c;cases c<;>first|exact aU|exact aT)
 |_=>cases a<;>first|exact aT|(rename_i c;cases c<;>first|exact aU|exact aT)
def Pb (j:Array zD)(t:zD){as b:zA}(h:aW Al π as b):bR P Al F (VR Al) π (Builtin.min_ j t as) (Builtin.min_ j t b):=by
 unfold Builtin.min_;have p:∀(l a:zV){π:Rn} [Ok P π] {x c:zY},bG Al π x c->aW Al π l.toArray a.toArray->bR P Al F (VR Al) π (l.foldlM Builtin.min2 x) (a.foldlM Builtin.min2 c):=by
  intro l;induction l with
  |nil=>intro a π ok x c f h;cases a with
   |nil=>exact aS f
   |cons _ _=>have:=h.size;simp at this
  |cons y l m=>
   intro a π ok x c f h;cases a with
   |nil=>have:=h.size;simp at this
   |cons r a=>obtain⟨i,g⟩:=cD h;rw[List.foldlM_cons,List.foldlM_cons];refine aR _ (Im f i) ?_;intro q v s ok o n;exact m a n (g.mono o)
 have d:aW Al π as.toList.toArray b.toList.toArray:=by rw[toArray_toList,toArray_toList];exact h
 cases e:as.toList with
 |nil=>exact aT
 |cons x l=>
  cases k:b.toList with
  |nil=>rw[e,k]at d;have:=d.size;simp at this
  |cons c a=>rw[e,k]at d;obtain⟨i,g⟩:=cD d;exact p l a i g
end
section
variable {P:zZ}{Al:zF}{F:Kp}{π:Rn}{α β γ δ:Type}{A:Rn->α->β->Prop} [ok:Ok P π]
def Calm (P:zZ)(s:Sem α):Prop:=∀v b,(∃a w e,s.runT P v b=(.ok a w,e))\/∃h w e,s.runT P v b=(.halt h w,e)/\Fatal h
omit ok in
def Calm.dead {s:Sem α}{f:α->Sem β}(h:Calm P s)(d:∀a,nD P (f a)):nD P (s>>=f):=by
 intro v g;rw[bD];obtain⟨a,w,b,e⟩|⟨c,w,b,e,i⟩:=h v g
 .rw[e];exact d a w b
 .rw[e];exact⟨c,w,b,rfl,i⟩
omit ok in
def Calm.bind {s:Sem α}{f:α->Sem β}(h:Calm P s)(d:∀a,Calm P (f a)):Calm P (s>>=f):=by
 intro v g;rw[bD];obtain⟨a,w,b,e⟩|⟨c,w,b,e,i⟩:=h v g
 .rw[e];exact d a w b
 .rw[e];exact aH ⟨c,w,b,rfl,i⟩
omit ok in
def nD.bind {s:Sem α}{f:α->Sem β}(h:nD P s):nD P (s>>=f):=by intro v c;rw[bD];obtain⟨b,w,a,e,d⟩:=h v c;rw[e];exact⟨b,w,a,rfl,d⟩
omit ok in
def uU (a:α):Calm P (pure a:Sem α):=λv e=>aG ⟨a,v,e,rfl⟩
omit ok in
def ZK (r:Nat):Calm P (shape r):=λv e=>aG ⟨_,v,e,rfl⟩
omit ok in
def UX (a:Addr):Calm P (frozen a):=λv e=>aG ⟨_,v,e,rfl⟩
omit ok in
def sG (a:Addr)(n:Nat):Calm P (Builtin.holdsCells a n):=by unfold Builtin.holdsCells;refine(ZK _).bind λs=> ?_;cases s<;>exact uU _
omit ok in
def KT (size s n:Nat)(base:zO)(x:zY):Calm P (Builtin.mayShare size s n base x):=by
 have second:∀there:Bool,Calm P (do
   if !there then return aE
   match x with
   | .slice (aA b) _ _=>do pure (!(<-Builtin.holdsCells b (n*size))||base.any (·.block==b.block))
   |_=>pure aF):=by
  intro there
  cases there with
  |false=>exact uU _
  |true=>
   show Calm P (match x with
   | .slice (aA b) _ _=>do pure (!(<-Builtin.holdsCells b (n*size))||base.any (·.block==b.block))
   |_=>pure aF)
   split
   .exact(sG _ _).bind λb=>uU _
   .exact uU _
 unfold Builtin.mayShare
 cases base with
 |none=>exact second aE
 |some a=>refine(sG _ _).bind λb=> ?_;exact(UX _).bind λc=>second _
def oB (R:JR P){e:zD}(Q:e<P.types.size){base m:zO}(s g size n:Nat)(C:bG Al π (.slice base s g) (.slice m s g))(f:Bool){x u:zY}(N:bG Al π x u)(E:f=aF->∀a c,x= .slice a 0 c->n=0):
  bR P Al F (VR Al) π
   (do
    let l:Sem (zA):=
     if !f then Builtin.firstCells size n x
     else if n*size=0 then pure #[]
     else do pure (Builtin.zeroCells (<-zeroValue e).cells n)
    let tG:=s+n
    if tG<=g then
     let new<-l
     if let aA a:=base then storeCells (a.add (s*size)) new.toList
     pure (.slice base tG g)
    else
     if(tG:Int)>IntKind.i64.max/\(f\/(<-typeInfo e).bytes=0)then aCB (.error "growslice: len out of range")
     if Builtin.nextslicecap tG g*(<-typeInfo e).bytes>2^48 then(if f then aCB (.error "growslice: len out of range")else do
      if !(<-Builtin.mayShare size s n base x)then mark .noRoom
      unsupported (.resourceLimit "append: a slice or a string whose bytes no memory bears"))
     let k<-choose (.appendCap tG g e)
     askRoom (k*(<-typeInfo e).bytes)
     let old<-Builtin.firstCells size s (.slice base s g)
     let new<-l
     let rest:=Builtin.zeroCells (<-zeroValue e).cells (k-tG)
     pure (.slice (aA (<-newRow e (old++new++rest))) tG k))
   (do
    let l:Sem (zA):=
     if !f then Builtin.firstCells size n u
     else if n*size=0 then pure #[]
     else do pure (Builtin.zeroCells (<-zeroValue e).cells n)
    let tG:=s+n
    if tG<=g then
     let new<-l
     if let aA a:=m then storeCells (a.add (s*size)) new.toList
     pure (.slice m tG g)
    else
     if(tG:Int)>IntKind.i64.max/\(f\/(<-typeInfo e).bytes=0)then aCB (.error "growslice: len out of range")
     if Builtin.nextslicecap tG g*(<-typeInfo e).bytes>2^48 then(if f then aCB (.error "growslice: len out of range")else do
      if !(<-Builtin.mayShare size s n m u)then mark .noRoom
      unsupported (.resourceLimit "append: a slice or a string whose bytes no memory bears"))
     let k<-choose (.appendCap tG g e)
     askRoom (k*(<-typeInfo e).bytes)
     let old<-Builtin.firstCells size s (.slice m s g)
     let new<-l
     let rest:=Builtin.zeroCells (<-zeroValue e).cells (k-tG)
     pure (.slice (aA (<-newRow e (old++new++rest))) tG k)):=by
 have q:∀(r:Rn),Ok P r->(∀a b,π a b->r a b)->bR P Al F (Wt Al) r
   (if !f then Builtin.firstCells size n x else if n*size=0 then pure #[]else do pure (Builtin.zeroCells (<-zeroValue e).cells n))
   (if !f then Builtin.firstCells size n u else if n*size=0 then pure #[]else do pure (Builtin.zeroCells (<-zeroValue e).cells n)):=by
  intro r ok t
  split
  .rename_i w;exact oA size n (E (by simpa using w)) (N.mono t)
  .split
   .exact aS .nil
   .refine aR _ (gD R Q) ?_;intro M z X ok p w;exact aS (pK w.cells n)
 dsimp only
 by_cases O:s+n<=g
 .simp only[zAk O];cases C with
  |void hV a0=>
   obtain rfl:n=0:=by omega
   have h0:bR P Al F (λ_ d L=>d= #[]/\L= #[]) π
     (if !f then Builtin.firstCells size 0 x else if 0*size=0 then pure #[]else do pure (Builtin.zeroCells (<-zeroValue e).cells 0))
     (if !f then Builtin.firstCells size 0 u else if 0*size=0 then pure #[]else do pure (Builtin.zeroCells (<-zeroValue e).cells 0)):=by
    split
    .exact FW size N
    .rw[zAk (zEs _)];exact aS ⟨rfl,rfl⟩
   refine aR _ h0 ?_
   rintro r _ _ ok t ⟨rfl,rfl⟩
   exact aS (.void hV a0)
  |slice C=>
   refine aR _ (q π ok λ_ _ h=>h) ?_;intro r d L ok t K;cases C with
   |none=>exact aS (.slice .none _ _)
   |some D=>refine aR _ (kT _ _ 0 ((D.mono t).add _) (by rw[toArray_toList,toArray_toList];exact K)) ?_;rintro M _ _ ok p rfl;exact aS (.slice (.some ((D.mono t).mono p)) _ _)
 .simp only[zAh O];refine aR _ (eY e) ?_;rintro r i _ ok t ⟨rfl,_⟩;by_cases T:((s+n:Nat):Int)>IntKind.i64.max/\(f=aE\/i.bytes=0)
  .simp only[zAk T];exact dK _
  .simp only[zAh T];refine aR _ (eY e) ?_;rintro M j _ ok p ⟨rfl,_⟩;by_cases S:Builtin.nextslicecap (s+n) g*j.bytes>2^48
   .simp only[zAk S];cases f with
    |true=>exact dK _
    |false=>refine Io (nD.bind ?_);rw[zAh (by simp)];refine(KT _ _ _ _ _).dead λb=> ?_;cases b<;>exactλv es=>⟨_,_,_,rfl,by simp⟩
   .simp only[zAh S];refine aR _ (gE _) ?_;rintro τ k _ ok J rfl;refine aR _ (eY e) ?_;rintro W j' _ ok B ⟨rfl,_⟩;refine aR _ (sW _) ?_;rintro V _ _ ok I rfl;have sub:∀a b,π a b->V a b:=λa b h=>I _ _ (B _ _ (J _ _ (p _ _ (t _ _ h))));refine aR _ (oA size s (λa c h=>by cases h;rfl) (C.mono sub)) ?_;intro U o o' ok H Z;refine aR _ (q U ok λa b h=>H _ _ (sub _ _ h)) ?_;intro χ d L ok G K;refine aR _ (gD R Q) ?_;intro ψ z X ok y w;refine aR _ (lQ ((((Z.mono G).mono y).append (K.mono y)).append (pK w.cells _)) e) ?_;intro ω a a' ok Y D;exact aS (.slice (.some D) _ _)
def WU (K:JR P){D:Array zD}(X:∀t,D[0]? =aA t->t<P.types.size)(t:zD){as J:zA}(h:aW Al π as J):bR P Al F (VR Al) π (Builtin.append_ D t as) (Builtin.append_ D t J):=by
 unfold Builtin.append_;cases Y:D[0]? with
 |none=>obtain⟨B,L⟩|⟨x,S,B,L,E⟩:=h.get 0<;>rw[B]<;>exact aT
 |some t=>
  obtain⟨B,L⟩|⟨x,S,B,L,E⟩:=h.get 0
  .rw[B];exact aT
  obtain⟨f1,f2⟩|⟨y,y',f1,f2,p⟩:=h.get 1
  .rw[B,f1];exact aT
  rw[B,L,f1,f2];refine aR _ (aX t) ?_;rintro ρ u _ ok T ⟨rfl,hu⟩;replace E:=E.mono T;replace p:=p.mono T;cases u with
  |slice e=>
   have Q:=K.slice t e (X t Y) hu;obtain⟨base,q,s,d,rfl,rfl⟩|O:(∃base q s d,x= .slice base s d/\S= .slice q s d)\/∀base s d,x≠.slice base s d:=by
    cases E with
    |slice C n c=>exact aG ⟨_,_,_,_,rfl,rfl⟩
    |void hV a0=>exact aG ⟨_,_,_,_,rfl,rfl⟩
    |_=>exact aH λ_ _ _ h=>by cases h
   .refine aR _ (bZ e) ?_;rintro σ size _ ok H rfl;have C:=E.mono H;replace p:=p.mono H;cases D[1]? with
    |none=>refine aR (λ_ a b=>a=aF/\b=aF) (aS ⟨rfl,rfl⟩) ?_;rintro V z N ok g ⟨r,m⟩;subst r;subst m;refine aR _ (wK (p.mono g)) ?_;rintro R n _ ok j ⟨rfl,w⟩;exact oB K Q s d size n ((C.mono g).mono j) aF ((p.mono g).mono j) λ_=>w
    |some W=>
     dsimp only;refine aR _ (aX W) ?_;rintro V u _ ok g ⟨rfl,_⟩;cases u with
     |int k=>
      refine aR (λ_ a b=>a=aE/\b=aE) (aS ⟨rfl,rfl⟩) ?_;rintro M z N ok f ⟨r,m⟩;subst r;subst m;replace p:=p.mono g;replace C:=C.mono g;refine aR _ (nQ (p.mono f)) ?_;rintro R l _ ok j rfl;by_cases I:IntKind.i64.wrap l<0
      .rw[zAk I];first|exact dK _|(rw[zAk I];exact dK _)
      .first|rw[zAh I,zAh I]|rw[zAh I]
       refine aR _ (eY e) ?_;rintro Z i _ ok G ⟨rfl,_⟩;by_cases o:IntKind.i64.wrap l*i.bytes>2^48
       .first|rw[zAk o,zAk o]|rw[zAk o]
        refine aR _ (gE _) ?_;rintro U made _ ok v rfl;exact dK _
       .first|rw[zAh o,zAh o]|rw[zAh o]
        refine aR (λ_ a b=>a=(IntKind.i64.wrap l).toNat/\b=(IntKind.i64.wrap l).toNat) (aS ⟨rfl,rfl⟩) ?_;rintro U z N ok v ⟨r,m⟩;rw[r,m];exact oB K Q s d size (IntKind.i64.wrap l).toNat ((((C.mono f).mono j).mono G).mono v) aE ((((p.mono f).mono j).mono G).mono v) λh=>by cases h
     |_=>refine aR (λ_ a b=>a=aF/\b=aF) (aS ⟨rfl,rfl⟩) ?_;rintro M z N ok f ⟨r,m⟩;subst r;subst m;refine aR _ (wK ((p.mono g).mono f)) ?_;rintro R n _ ok j ⟨rfl,w⟩;exact oB K Q s d size n (((C.mono g).mono f).mono j) aF (((p.mono g).mono f).mono j) λ_=>w
   .cases x<;>first|exact aT|exact absurd rfl (O _ _ _)
  |_=>exact aT
end
section
variable {P:zZ}{Al:zF}{F:Kp}{π:Rn}{α β γ δ:Type}{A:Rn->α->β->Prop} [ok:Ok P π]
def wL (t:zD):bR P Al F (λ_ a b=>a=b/\P.underlying t=aA (.pointer a)) π (elemOf t) (elemOf t):=by
 unfold elemOf;refine aR _ (aX t) ?_;rintro c u _ ok h ⟨rfl,hu⟩;cases u with
 |pointer e=>exact aS ⟨rfl,hu⟩
 |_=>exact aT
def FT:∀(n:Nat){π:Rn} [Ok P π] {a b:Addr}(acc:ByteArray),bV π a b->bR P Al F ER π (Extern.Bytes.loadBytes a n acc) (Extern.Bytes.loadBytes b n acc):=by
 intro n;induction n with
 |zero=>intro π ok a b acc h;exact aS rfl
 |succ n i=>
  intro π ok a b acc h;unfold Extern.Bytes.loadBytes;refine aR _ (RL h _) ?_;intro e v f ok d c;cases c with
  |int k m=>cases k<;>first|exact aT|exact i _ ((h.mono d).add 1)
  |_=>exact aT
def CX {x a:zY}(h:bG Al π x a):bR P Al F ER π (Extern.Bytes.bytesOf x) (Extern.Bytes.bytesOf a):=by
 cases h with
 |string s=>exact aS rfl
 |slice b n c=>
  cases b with
  |none=>exact aS rfl
  |some d=>exact FT _ _ d
 |void e a0=>exact aS rfl
 |_=>exact aT
def pY {as a:zA}(h:aW Al π as a):(∃l b:zV,as=l.toArray/\a=b.toArray/\aW Al π l.toArray b.toArray):=⟨as.toList,a.toList,by simp,by simp,by rw[toArray_toList,toArray_toList];exact h⟩
def AY (f:Array zD)(t:zD){as d:zA}(h:aW Al π as d):bR P Al F (VR Al) π (Builtin.unsafeString_ f t as) (Builtin.unsafeString_ f t d):=by
 obtain⟨l,k,rfl,rfl,h⟩:=pY h;have a:=h.size;match l,k with
 |[],[]=>exact aT
 |[x],[j]=>cases(cD h).1<;>exact aT
 |[x,y],[j,u]=>
  have g:=(cD h).1;have w:=(cD (cD h).2).1;unfold Builtin.unsafeString_;cases g with
  |pointer B=>
   refine aR _ (nQ w) ?_;rintro E n _ ok m rfl;cases f[0]? with
   |none=>exact aT
   |some v=>
    dsimp only;by_cases r:n<0
    .simp only[zAk r];exact dK _
    .simp only[zAh r];by_cases q:n>IntKind.i64.max
     .simp only[zAk q];exact aU
     .simp only[zAh q];cases B with
      |none=>
       dsimp only;split
       .exact aS (.string _)
       .exact dK _
      |some o=>
       dsimp only;by_cases p:n=0
       .simp only[zAk p];exact aS (.string _)
       .simp only[zAh p];refine aR _ (wL v) ?_;rintro D e _ ok c ⟨rfl,_⟩;refine aR _ (sB ((o.mono m).mono c) e n.toNat) ?_;rintro C b _ ok i rfl;split
        .exact .share (((o.mono m).mono c).mono i) λs=> .pure (.string s)
        .exact aU
  |_=>exact aT
 |x::y::z::l,j::u::G::k=>have g:=(cD h).1;cases g<;>exact aT
 |[],_::_=>simp at a
 |[_],[]=>simp at a
 |[_],_::_::_=>simp at a
 |[_,_],[]=>simp at a
 |[_,_],[_]=>simp at a
 |[_,_],_::_::_::_=>simp at a
 |_::_::_::_,[]=>simp at a
 |_::_::_::_,[_]=>simp at a
 |_::_::_::_,[_,_]=>simp at a
def qX (b:Array zD)(t:zD)(a:Addr)(n c:Nat):Builtin.unsafeSliceData_ b t #[.slice (aA a) n c]=(if c≠0 then pure (.pointer (aA a))else do
  if(<-viewAt a.block).isSome then pure (.pointer (aA a))else pure (.pointer (aA ⟨<-newObj (.view a (<-elemOf t)),0,aB⟩))):=rfl
def uZ {t:zD}(B:∀e,P.underlying t=aA (.pointer e)->kC P e)(j:Array zD){as f:zA}(C:∀x,as[0]? =aA x->∀b n s,Al (1000002+b)->x≠.slice (aA ⟨b,n,s⟩) 0 0)(h:aW Al π as f):bR P Al F (VR Al) π (Builtin.unsafeSliceData_ j t as) (Builtin.unsafeSliceData_ j t f):=by
 obtain⟨l,k,rfl,rfl,h⟩:=pY h;have d:=h.size;match l,k with
 |[],[]=>exact aT
 |[x],[p]=>
  have q:=(cD h).1;cases q with
  |slice w n c=>
   cases w with
   |none=>exact aS (.pointer .none)
   | @some a K g=>
    rw[qX,qX];by_cases o:c≠0
    .simp only[zAk o];exact aS (.pointer (.some g))
    .simp only[zAh o];refine aR _ (qY g.1) ?_;intro G s I ok m u;cases u with
     |some _=>exact aS (.pointer (.some (g.mono m)))
     |none=>refine aR _ (wL t) ?_;rintro E e _ ok i ⟨rfl,he⟩;exact .view (.view ((g.mono m).mono i) e (B e he)) λD r J _ _ v=> .pure (.pointer (.some ⟨v,rfl,rfl⟩))
  |void z a0=>exact absurd rfl (C _ rfl _ _ _ z)
  |_=>exact aT
 |x::y::l,p::H::k=>exact aT
 |[],_::_=>simp at d
 |[_],[]=>simp at d
 |[_],_::_::_=>simp at d
 |_::_::_,[]=>simp at d
 |_::_::_,[_]=>simp at d
def CW {as d:zA}(h:aW Al π as d):bR P Al F (VR Al) π (Extern.BytealgCompare.compare as) (Extern.BytealgCompare.compare d):=by
 obtain⟨l,f,rfl,rfl,h⟩:=pY h;have c:=h.size;match l,f with
 |[],[]=>exact aT
 |[x],[e]=>exact aT
 |[x,y],[e,g]=>have j:=(cD h).1;have i:=(cD (cD h).2).1;refine aR _ (CX j) ?_;rintro o a _ ok m rfl;refine aR _ (CX (i.mono m)) ?_;rintro n b _ ok k rfl;exact aS (.int _ _)
 |x::y::z::l,e::g::p::f=>exact aT
 |[],_::_=>simp at c
 |[_],[]=>simp at c
 |[_],_::_::_=>simp at c
 |[_,_],[]=>simp at c
 |[_,_],[_]=>simp at c
 |[_,_],_::_::_::_=>simp at c
 |_::_::_::_,[]=>simp at c
 |_::_::_::_,[_]=>simp at c
 |_::_::_::_,[_,_]=>simp at c
def IW:∀(n t:Nat){acc a:zA},aW Al π acc a->aW Al π (Extern.BytealgMakeNoZero.digits n t acc) (Extern.BytealgMakeNoZero.digits n t a)
 |0,_,_,_,h=>h
 |n+1,t,_,_,h=>IW n (t/256) (h.push (.int _ _))
def sU (p rs:Array zD){as f:zA}(h:aW Al π as f):bR P Al F (VR Al) π (Extern.BytealgMakeNoZero.makeNoZero p rs as) (Extern.BytealgMakeNoZero.makeNoZero p rs f):=by
 obtain⟨l,g,rfl,rfl,h⟩:=pY h;have d:=h.size;match l,g with
 |[],[]=>exact aT
 |[x],[i]=>
  have j:=(cD h).1;cases j with
  |int k n=>
   cases k<;>first|exact aT|skip
   unfold Extern.BytealgMakeNoZero.makeNoZero
   dsimp only
   cases rs[0]? with
   |none=>exact aT
   |some t=>
    dsimp only;refine aR _ (aX t) ?_;rintro C u _ ok E ⟨rfl,_⟩;cases u with
    |slice e=>
     dsimp only;split
     .exact dK _
     .refine aR _ (gE _) ?_;rintro B c _ ok r rfl;refine aR _ (sW _) ?_;rintro z _ _ ok q rfl;refine aR _ (gE _) ?_;rintro w b _ ok o rfl;refine aR _ (lQ (IW c b .nil) e) ?_;intro v a G ok m s;exact aS (.slice (.some s) _ _)
    |_=>exact aT
  |_=>exact aT
 |x::y::l,i::D::g=>cases(cD h).1<;>exact aT
 |[],_::_=>simp at d
 |[_],[]=>simp at d
 |[_],_::_::_=>simp at d
 |_::_::_,[]=>simp at d
 |_::_::_,[_]=>simp at d
def RI {as b:zA}(h:aW Al π as b):bR P Al F (VR Al) π (Extern.AbiNoEscape.same as) (Extern.AbiNoEscape.same b):=by
 obtain⟨l,c,rfl,rfl,h⟩:=pY h;have a:=h.size;match l,c with
 |[],[]=>exact aT
 |[x],[d]=>exact aS (cD h).1
 |x::y::l,d::e::c=>exact aT
 |[],_::_=>simp at a
 |[_],[]=>simp at a
 |[_],_::_::_=>simp at a
 |_::_::_,[]=>simp at a
 |_::_::_,[_]=>simp at a
def pN (p rs:Array zD)(a a' b g:zO){c l:Nat}(f d:Nat)(k:c=0\/l=0):bR P Al F (VR Al) π (Extern.SlicesOverlaps.overlaps p rs #[.slice a c f,.slice b l d]) (Extern.SlicesOverlaps.overlaps p rs #[.slice a' c f,.slice g l d]):=by
 unfold Extern.SlicesOverlaps.overlaps;dsimp only;cases p[0]? with
 |none=>exact aT
 |some t=>
  dsimp only;refine aR _ (aX t) ?_;rintro n u _ ok o ⟨rfl,_⟩;cases u with
  |slice e=>dsimp only;refine aR _ (bZ e) ?_;rintro m size _ ok i rfl;have j:c=0\/l=0\/size=0:=k.elim aG λh=>aH (aG h);cases a<;>cases b<;>cases a'<;>cases g<;>dsimp only<;>(try simp only[zAk j])<;>exact aS (.bool _)
  |_=>exact aT
def xL (hF:∀b,¬F b)(p rs:Array zD){as q:zA}(h:aW Al π as q):bR P Al F (VR Al) π (Extern.SlicesOverlaps.overlaps p rs as) (Extern.SlicesOverlaps.overlaps p rs q):=by
 obtain⟨l,w,rfl,rfl,h⟩:=pY h;have c:=h.size;match l,w with
 |[],[]=>exact aT
 |[x],[s]=>cases(cD h).1<;>exact aT
 |[x,y],[s,G]=>
  have I:=(cD h).1;have B:=(cD (cD h).2).1;cases I with
  |slice L H ca=>
   cases B with
   |slice r v N=>
    unfold Extern.SlicesOverlaps.overlaps;dsimp only;cases p[0]? with
    |none=>exact aT
    |some t=>
     dsimp only;refine aR _ (aX t) ?_;rintro Y u _ ok C ⟨rfl,_⟩;cases u with
     |slice e=>
      dsimp only;refine aR _ (bZ e) ?_;rintro X size _ ok o rfl;cases L with
      |none=>cases r<;>exact aS (.bool _)
      | @some a Q i=>
       cases r with
       |none=>exact aS (.bool _)
       | @some b O hb=>
        replace i:=(i.mono C).mono o;replace hb:=(hb.mono C).mono o;have E:=uX ok i hb;have M:(Q.block !=O.block)=(a.block !=b.block):=by unfold bne;rw[E]
        dsimp only
        rw[E,M,i.2.1,hb.2.1]
        by_cases j:H=0\/v=0\/size=0
        .first|rw[zAk j,zAk j]|rw[zAk j]
         exact aS (.bool _)
        .first|rw[zAh j,zAh j]|rw[zAh j]
         refine aR _ (lR hF i) ?_;rintro W f1 _ ok d rfl;refine aR _ (lR hF (hb.mono d)) ?_;rintro V f2 _ ok f rfl;split
         .exact aU
         .split
          .refine aR _ (nZ ((i.mono d).mono f)) ?_;rintro U _ _ ok g rfl;refine aR _ (nZ (((hb.mono d).mono f).mono g)) ?_;rintro T _ _ ok k rfl;refine aR _ (xN hF ((((i.mono d).mono f).mono g).mono k) ((((hb.mono d).mono f).mono g).mono k)) ?_;rintro S m _ ok K rfl;split
           .refine aR _ (gE _) ?_;rintro R n _ ok J rfl;exact aS (.bool _)
           .exact aS (.bool _)
          .exact aS (.bool _)
     |_=>exact aT
   |void D b0=>exact pN p rs _ _ _ _ _ _ (aH rfl)
   |_=>exact aT
  |void D a0=>
   cases B with
   |slice r v N=>exact pN p rs _ _ _ _ _ _ (aG rfl)
   |void D b0=>exact pN p rs _ _ _ _ _ _ (aG rfl)
   |_=>exact aT
  |_=>exact aT
 |x::y::z::l,s::G::Z::w=>cases(cD h).1<;>first|exact aT|(cases(cD (cD h).2).1<;>exact aT)
 |[],_::_=>simp at c
 |[_],[]=>simp at c
 |[_],_::_::_=>simp at c
 |[_,_],[]=>simp at c
 |[_,_],[_]=>simp at c
 |[_,_],_::_::_::_=>simp at c
 |_::_::_::_,[]=>simp at c
 |_::_::_::_,[_]=>simp at c
 |_::_::_::_,[_,_]=>simp at c
end
end Go.Ren
