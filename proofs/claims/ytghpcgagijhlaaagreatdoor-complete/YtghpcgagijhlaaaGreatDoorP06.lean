import Derived.Test.YtghpcgagijhlaaaGreatDoorRows
import Derived.Deep.RegionWith
import Derived.WalkSpells
import Derived.WalkLawsBesides
import Derived.Lib.ConvBytes
import Derived.Deep.MidRow
import Derived.Shelf.Strings.Repeat
import Derived.Test.YtghpcgagijhlaaaGreatDoorProg
import Derived.Deep.CutRange
import Derived.Deep.RegionHeld3
import Derived.Deep.DrawnRows
import Derived.Deep.AppendLies
import Derived.Deep.RegionLaw
import Derived.WalkMore
import Derived.ScopeJumps
import Derived.Test.YtghpcgagijhlaaaGreatDoorP05
set_option linter.all false
set_option maxRecDepth 100000
set_option maxHeartbeats 16000000
open Option renaming some->aA,none->aB
open Bool renaming true->aE,false->aF
open Or renaming inl->aG,inr->aH
open Go.Ending renaming returned->aL
open Go.Obj renaming cells->aI
open Go.IntKind renaming i64->aD,u32->aO,u64->aQ,u8->aP
open Go.Value renaming slice->aJ,string->aK,pointer->aN,int->aC
open BitVec renaming toNat_add->aGY,ofNat->aGL
open ByteArray renaming push->aGZ,data_extract->aG0,size_data->aG1,size->aG2,size_append->aG3,extract->aG4
open Go.AllReady renaming cons->aG5,nil->aG6
open Go.Ending renaming returned->aG7
open Go.Lib renaming bytesWorld->aG8,bytesWorld_size->aG9,bytesWorld_at_old->aHa,repeatL->aHb
open Option.some renaming injEq->aGC
open Prod.mk renaming injEq->aHc
open UInt8 renaming ofNat->aHd
open Go.Proofs.Tryz
namespace Go.Proofs.Zq
open Go.RowKit Sha
def QD {k a b}(h:a=b):aG7 (.int k a)=aL (.int k b):=by rw[h]
def Wb (n:Nat)(h:1<=n)(a:n<=31):bits .and aQ (IntKind.u64.wrap (-(n))) 31=((32-n:Nat):Int):=by
 have:∀n:Fin 32,1<=n.val->bits .and aQ (IntKind.u64.wrap (-(n.val:Int))) 31=((32-n.val:Nat):Int):=by decide
 exact this ⟨n,by omega⟩ h
def Vn (x:BitVec 32)(n:Nat)(w)(b:1<=n)(h:n<=31):
  Calls zq 130 #[aC aO (V x),aC aD (-(n))] w λe a=>e=aL (aC aO (V (vL x n)))/\a=w:=by
 have c:=Wb n b h;go_enter (Qz.fn func130),ntmps130;go_wp2;go_ret;exact⟨QD (by rw[show 32-(32-n)=n from by omega];exact nb x n),rfl⟩
def Ng (x:BitVec 32)(n:Nat)(w)(b:1<=n)(h:n<=31):
  Calls zq 121 #[aC aO (V x),aC aD n] w λe a=>e=aL (aC aO (V (vL x n)))/\a=w:=by
 go_enter (Qz.fn func121),ntmps121;go_wp2_with (go_at_call 130;refine(Vn x n _ b h).mono ?_;rintro e a ⟨rfl,rfl⟩);go_ret;exact⟨rfl,rfl⟩
def mD (x:BitVec 32)(n:Nat)(m:Int)(w)(h:m=n)(c:1<=n)(b:n<=31):
  Calls zq 121 #[aC aO (V x),aC aD m] w λe a=>e=aL (aC aO (V (vL x n)))/\a=w:=by
 subst h;exact Ng x n w c b
attribute [local go_sem] V_xor V_shr V64_xor
def dv (x:BitVec 32)(w):
  Calls zq 108 #[aC aO (V x)] w λe a=>e=aL (aC aO (V (S0 x)))/\a=w:=by
 go_enter (Qz.fn func108),ntmps108;go_wp2_with fail;refine(mD x 2 _ _ rfl (by omega) (by omega)).mono ?_;rintro e a ⟨rfl,rfl⟩;go_wp2_with fail;refine(mD x 13 _ _ rfl (by omega) (by omega)).mono ?_;rintro e a ⟨rfl,rfl⟩;go_wp2_with fail;refine(mD x 22 _ _ rfl (by omega) (by omega)).mono ?_;rintro e a ⟨rfl,rfl⟩;go_wp2;go_ret;exact⟨rfl,rfl⟩
def du (x:BitVec 32)(w):
  Calls zq 107 #[aC aO (V x)] w λe a=>e=aL (aC aO (V (S1 x)))/\a=w:=by
 go_enter (Qz.fn func107),ntmps107;go_wp2_with fail;refine(mD x 6 _ _ rfl (by omega) (by omega)).mono ?_;rintro e a ⟨rfl,rfl⟩;go_wp2_with fail;refine(mD x 11 _ _ rfl (by omega) (by omega)).mono ?_;rintro e a ⟨rfl,rfl⟩;go_wp2_with fail;refine(mD x 25 _ _ rfl (by omega) (by omega)).mono ?_;rintro e a ⟨rfl,rfl⟩;go_wp2;go_ret;exact⟨rfl,rfl⟩
def Of (x:BitVec 32)(w):
  Calls zq 110 #[aC aO (V x)] w λe a=>e=aL (aC aO (V (s0 x)))/\a=w:=by
 go_enter (Qz.fn func110),ntmps110;go_wp2_with fail;refine(mD x 7 _ _ rfl (by omega) (by omega)).mono ?_;rintro e a ⟨rfl,rfl⟩;go_wp2_with fail;refine(mD x 18 _ _ rfl (by omega) (by omega)).mono ?_;rintro e a ⟨rfl,rfl⟩;go_wp2;go_ret;exact⟨QD (by rw[dp,V_xor];rfl),rfl⟩
def Oe (x:BitVec 32)(w):
  Calls zq 109 #[aC aO (V x)] w λe a=>e=aL (aC aO (V (s1 x)))/\a=w:=by
 go_enter (Qz.fn func109),ntmps109;go_wp2_with fail;refine(mD x 17 _ _ rfl (by omega) (by omega)).mono ?_;rintro e a ⟨rfl,rfl⟩;go_wp2_with fail;refine(mD x 19 _ _ rfl (by omega) (by omega)).mono ?_;rintro e a ⟨rfl,rfl⟩;go_wp2;go_ret;exact⟨QD (by rw[Xm,V_xor];rfl),rfl⟩
open Go Go.RowKit
def bW (w:zW)(g:Nat)(t:zD)(cs:zA):Prop:=w.heap[g]? =aA (aI cs t (0,0))
def bW.cell {w g t cs}(h:bW w g t cs)(i):w.cell? ⟨g,i,aB⟩=cs[i]? :=zHf w g i cs t (0,0) h
def bW.frozen {w g t cs}(h:bW w g t cs)(i):w.frozen? ⟨g,i,aB⟩=aF:=by unfold bW at h;simp[World.frozen?,h]
def bW.lt {w g t cs}(h:bW w g t cs):g<w.heap.size:=(zAb.1 h).1
def bW.drewN {w g t cs}(h:bW w g t cs)(n):bW (w.drewN n) g t cs:=h
def bW.new (w:zW)(t)(cs):bW (w.alloc (aI cs t)) w.heap.size t cs:=zGw w _
def bW.alloc {w g t cs}(h:bW w g t cs)(o):bW (w.alloc o) g t cs:=by unfold bW;rw[Below.heap_alloc w o g h.lt];exact h
def bW.below {w w' B g t cs}(h:bW w g t cs)(b:Below B w w')(a:g<B):bW w' g t cs:=by unfold bW;rw[b.block g a];exact h
def bW.cO {w g t cs}(h:bW w g t cs)(i)(v):bW (w.setCell ⟨g,i,aB⟩ v) g t (cs.setIfInBounds i v):=by unfold bW at*;simp only[World.setCell,zDu,zCy,h];rfl
def bW.bN {w g t cs}(h:bW w g t cs)(a)(v)(b:g≠a.block):bW (w.setCell a v) g t cs:=by unfold bW;rw[zGq w a v g b];exact h
def lH (w:zW)(g k)(cs)(h:k≠g):(w.setRow g cs).heap[k]? =w.heap[k]? :=by simp only[World.setRow,zDu];rw[zAj (by omega)]
def bW.dB {w g t cs}(h:bW w g t cs)(cs'):bW (w.setRow g cs') g t cs':=setRow_heap w g cs cs' t _ h
def bW.uS {w g b t cs}(h:bW w g t cs)(cs')(a:g≠b):bW (w.setRow b cs') g t cs:=by unfold bW;rw[lH w b g cs' a];exact h
def size_setCell (w:zW)(a)(v):(w.setCell a v).heap.size=w.heap.size:=by simp[World.setCell]
def size_alloc (w:zW)(o):(w.alloc o).heap.size=w.heap.size+1:=by simp
def bU {B:Nat}{a w:zW}(h:Below B a w){g:Nat}(c:B<=g)(cs:zA):Below B a (w.setRow g cs):=
 h.trans ⟨rfl,rfl,rfl,by simp[World.setRow],λk b=>lH _ _ _ _ (by omega)⟩
def below_drewN {B a w}(h:Below B a w)(n):Below B a (w.drewN n):=⟨h.os,h.tape,h.output,h.size,h.block⟩
def XZ (w)(e)(s):zb w (aG8 w e s):=by
 refine⟨?_,?_,?_,by rw[aG9];omega,λk h=>aHa w e s k h⟩;all_goals
  unfold aG8 World.freeze
  rw[zAj (by decide)]
  rfl
def Pc (l:zB):∀s:ByteArray,((l.map λb=>(b.toNat:Int)).foldl (λr n=>r.push (aHd n.toNat)) s)=⟨s.data++l.toArray⟩:=by
 induction l with
 |nil=>intro s;simp
 |cons b l i=>intro s;rw[zEa,zFd,i];simp[aGZ]
def mE {P}(w)(src dst e)(g o c)(l:zB)(hs:P.underlying src=aA (.slice e))(i:P.underlying e=aA (.int aP))(k:P.underlying dst=aA .string)
  (h:∀j,j<l.length->w.cell? ⟨g,o+j,aB⟩=aA (aC aP ((l.getD j 0).toNat:Int))):
  (convert src dst (aJ (aA ⟨g,o,aB⟩) l.length c)).run P w= .ok (aK ⟨l.toArray⟩) w:=by
 rw[run_convert_bytes_string w src dst e _ _ _ hs i k];have hl:(loadCells ⟨g,o,aB⟩ (l.map λb=>Value.int aP (b.toNat:Int)).length).run P w= .ok (l.map λb=>Value.int aP (b.toNat:Int)).toArray w:=
  run_loadCells_list w ⟨g,o,aB⟩ (l.map λb=>Value.int aP (b.toNat:Int)) (λj v d=>by
   have f:j<l.length:=by have:=(zAp.1 d).1;simpa using this
   have a:(⟨g,o,aB⟩:Addr).add j=⟨g,o+j,aB⟩:=by unfold Addr.add;split<;>simp_all
   rw[a,h j f];rw[zDr]at d;simp[f]at d;rw[<-d];simp[f])
 rw[zDa]at hl;have e:(l.map λb=>Value.int aP (b.toNat:Int))=(l.map λb=>(b.toNat:Int)).map (Value.int aP):=by simp
 rw[e]at hl;rw[run_bytesToString w ⟨g,o,aB⟩ l.length c _ hl,Pc,show ByteArray.empty.data= #[]from rfl,zCa]
def oN {P:zZ}{ops:zQ}{C:zW->Prop}{Q:Act->Prop}{a:Act}{o:Oper}{rest:List Oper}(b:o.guard=aB)(ty:zD)(x:Operand)(i:o.op= .load ty x)
  (g:Nat) (c:a.eval x=aN (aA ⟨g,0,aB⟩)) (t:zD) (cs:zA) (d:TypeDesc) (j:∀w,C w->bW w g t cs)
  (f:P.underlying ty=aA d) (k:(match d with| .struct _| .array _ _=>aE|_=>aF)=aE) (hi:(P.info? ty).map (·.size)=aA cs.size)
  (h:wpQuiet P ops C Q rest (a.put o.dst (.agg cs))):wpQuiet P ops C Q (o::rest) a:=by
 refine wpQuiet_step λK l=> ?_;rw[zAl (by simp[Region.wanted,b])];refine⟨.agg cs,λw e=> ?_,l _ h⟩;unfold Oper.quietAt execOp;simp only[i,c,Instr.loadAt,Instr.sureAddr,Sem.run_bind,Sem.run_pure,zHe,run_loadVar_row w g t ty cs (0,0) d (j w e) f k hi];exact⟨rfl,rfl⟩
structure R8 where
 a:BitVec 32
 b:BitVec 32
 c:BitVec 32
 d:BitVec 32
 e:BitVec 32
 f:BitVec 32
 g:BitVec 32
 h:BitVec 32
def R8.one (k w:BitVec 32)(s:R8):BitVec 32:=s.h+S1 s.e+(s.e&&&s.f^^^ ~~~s.e&&&s.g)+k+w
def R8.two (s:R8):BitVec 32:=S0 s.a+(s.a&&&s.b^^^s.a&&&s.c^^^s.b&&&s.c)
def R8.step (k w:BitVec 32)(s:R8):R8:=⟨s.one k w+s.two,s.a,s.b,s.c,s.d+s.one k w,s.e,s.f,s.g⟩
def R8.steps (k ws:Nat->BitVec 32):Nat->R8->R8
 |0,s=>s
 |n+1,s=>(R8.steps k ws n s).step (k n) (ws n)
def R8.plus (s t:R8):R8:=⟨s.a+t.a,s.b+t.b,s.c+t.c,s.d+t.d,s.e+t.e,s.f+t.f,s.g+t.g,s.h+t.h⟩
def R8.mix (k ws:Nat->BitVec 32)(s:R8):R8:=s.plus (R8.steps k ws 64 s)
def R8.cells (s:R8):zA:= #[aC aO (V s.a),aC aO (V s.b),aC aO (V s.c),aC aO (V s.d),aC aO (V s.e),aC aO (V s.f),aC aO (V s.g),aC aO (V s.h)]
def sb (a b c d e:BitVec 32):(V a+V b+V c+V d+V e)%4294967296=V (a+b+c+d+e):=by simp only[V,aGY];omega
def il (d p q k w:BitVec 32):(V d+(V p+V q+V k+V w))%4294967296=V (d+(p+q+k+w)):=by simp only[V,aGY];omega
def Table (g:Nat)(k:Nat->BitVec 32)(w:zW):Prop:=g<w.heap.size/\∀t:Nat,t<64->w.cell? ⟨g,t,aB⟩=aA (aC aO (V (k t)))
def IS (s:R8)(xs:zA)(w:zW):zW:=((w.alloc (aI s.cells 136)).alloc (aI xs 157)).alloc (aI #[aC aO 0,aC aO 0,aC aO 0,aC aO 0,aC aO 0,aC aO 0,aC aO 0,aC aO 0] 136)
def Pu (s:R8)(xs)(w)(n b t)(c:b<w.heap.size):((IS s xs w).drewN n).cell? ⟨b,t,aB⟩=w.cell? ⟨b,t,aB⟩:=by
 have h:zb w ((IS s xs w).drewN n):=by have a:zb w (IS s xs w):=(((zGn _ _).alloc (zAa _) _).alloc (by simp) _).alloc (by simp;omega) _;exact⟨a.os,a.tape,a.output,a.size,a.block⟩
 exact h.cell c
def Pt (s:R8)(xs)(w)(n t):((IS s xs w).drewN n).cell? ⟨w.heap.size+1,t,aB⟩=xs[t]? :=by
 show World.cell? (IS s xs w) _=_;have:(IS s xs w).heap[w.heap.size+1]? =aA (aI xs 157):=by show(((w.heap.push _).push _).push _)[w.heap.size+1]? =_;rw[zBk,zAj (by simp),zBk,zAl (by simp)]
 unfold World.cell?;rw[this];rfl
def R8.get (s:R8):Nat->BitVec 32
 |0=>s.a
 |1=>s.b
 |2=>s.c
 |3=>s.d
 |4=>s.e
 |5=>s.f
 |6=>s.g
 |_=>s.h
def R8.part (s u:R8)(t:Nat):R8:=⟨if 0<t then s.a+u.a else s.a,if 1<t then s.b+u.b else s.b,if 2<t then s.c+u.c else s.c,if 3<t then s.d+u.d else s.d,if 4<t then s.e+u.e else s.e,if 5<t then s.f+u.f else s.f,if 6<t then s.g+u.g else s.g,if 7<t then s.h+u.h else s.h⟩
def Je (s u:R8)(t)(h:t<8):(s.part u t).cells[t]? =aA (aC aO (V (s.get t))):=by
 match t,h with
 |0,_|1,_|2,_|3,_|4,_|5,_|6,_|7,_=>rfl
def Jd (s u:R8)(t)(h:t<8):(s.part u t).cells.setIfInBounds t (aC aO (V (s.get t+u.get t)))=(s.part u (t+1)).cells:=by
 match t,h with
 |0,_|1,_|2,_|3,_|4,_|5,_|6,_|7,_=>rfl
def WG (u:R8)(t:Nat)(h:t<8)(w):(Instr.index 136 (.agg #[aC aO (V u.a),aC aO (V u.b),aC aO (V u.c),aC aO (V u.d),aC aO (V u.e),aC aO (V u.f),aC aO (V u.g),aC aO (V u.h)]) (aC aD (t))).run zq w= .ok (aC aO (V (u.get t))) w:=by
 have i0:(Instr.index 136 (.agg #[aC aO (V u.a),aC aO (V u.b),aC aO (V u.c),aC aO (V u.d),aC aO (V u.e),aC aO (V u.f),aC aO (V u.g),aC aO (V u.h)]) (aC aD 0)).run zq w= .ok (aC aO (V u.a)) w:=by kernel_rfl
 have i1:(Instr.index 136 (.agg #[aC aO (V u.a),aC aO (V u.b),aC aO (V u.c),aC aO (V u.d),aC aO (V u.e),aC aO (V u.f),aC aO (V u.g),aC aO (V u.h)]) (aC aD 1)).run zq w= .ok (aC aO (V u.b)) w:=by kernel_rfl
 have i2:(Instr.index 136 (.agg #[aC aO (V u.a),aC aO (V u.b),aC aO (V u.c),aC aO (V u.d),aC aO (V u.e),aC aO (V u.f),aC aO (V u.g),aC aO (V u.h)]) (aC aD 2)).run zq w= .ok (aC aO (V u.c)) w:=by kernel_rfl
 have i3:(Instr.index 136 (.agg #[aC aO (V u.a),aC aO (V u.b),aC aO (V u.c),aC aO (V u.d),aC aO (V u.e),aC aO (V u.f),aC aO (V u.g),aC aO (V u.h)]) (aC aD 3)).run zq w= .ok (aC aO (V u.d)) w:=by kernel_rfl
 have i4:(Instr.index 136 (.agg #[aC aO (V u.a),aC aO (V u.b),aC aO (V u.c),aC aO (V u.d),aC aO (V u.e),aC aO (V u.f),aC aO (V u.g),aC aO (V u.h)]) (aC aD 4)).run zq w= .ok (aC aO (V u.e)) w:=by kernel_rfl
 have i5:(Instr.index 136 (.agg #[aC aO (V u.a),aC aO (V u.b),aC aO (V u.c),aC aO (V u.d),aC aO (V u.e),aC aO (V u.f),aC aO (V u.g),aC aO (V u.h)]) (aC aD 5)).run zq w= .ok (aC aO (V u.f)) w:=by kernel_rfl
 have i6:(Instr.index 136 (.agg #[aC aO (V u.a),aC aO (V u.b),aC aO (V u.c),aC aO (V u.d),aC aO (V u.e),aC aO (V u.f),aC aO (V u.g),aC aO (V u.h)]) (aC aD 6)).run zq w= .ok (aC aO (V u.g)) w:=by kernel_rfl
 have i7:(Instr.index 136 (.agg #[aC aO (V u.a),aC aO (V u.b),aC aO (V u.c),aC aO (V u.d),aC aO (V u.e),aC aO (V u.f),aC aO (V u.g),aC aO (V u.h)]) (aC aD 7)).run zq w= .ok (aC aO (V u.h)) w:=by kernel_rfl
 have:t=0\/t=1\/t=2\/t=3\/t=4\/t=5\/t=6\/t=7:=by omega
 obtain rfl|rfl|rfl|rfl|rfl|rfl|rfl|rfl:=this
 .exact i0
 .exact i1
 .exact i2
 .exact i3
 .exact i4
 .exact i5
 .exact i6
 .exact i7
attribute [local go_sem] V_xor V_and V_or V_not V_add V_shr
def Wd (s:R8)(xs)(ws j)(w)(r:∀t:Nat,t<64->xs[t]? =aA (aC aO (V (ws t))))(R:Table 2 j w):
  Calls zq 95 #[.agg s.cells,.agg xs] w λe y=>e=aL (.agg (s.mix j ws).cells)/\zb w y:=by
 obtain⟨P,O⟩:=R;unfold R8.cells;go_enter (Qz.fn func95),ntmps95;go_wp2;go_quiet (fail);go_wp2;go_quiet (fail);go_wp2;go_loopg [5,6,7,8,9,10,11,12,34] 64 (λk A B C D E F G H i wr=>∃t:Nat,t+k=64/\i=aC aD t/\A=aC aO (V (R8.steps j ws t s).a)/\B=aC aO (V (R8.steps j ws t s).b)/\C=aC aO (V (R8.steps j ws t s).c)/\D=aC aO (V (R8.steps j ws t s).d)
   /\E=aC aO (V (R8.steps j ws t s).e)/\F=aC aO (V (R8.steps j ws t s).f)/\G=aC aO (V (R8.steps j ws t s).g)/\H=aC aO (V (R8.steps j ws t s).h)/\∃n,wr=(IS s xs w).drewN n)
 case atStart=>exact⟨0,rfl,rfl,rfl,rfl,rfl,rfl,rfl,rfl,rfl,rfl,_,World.drewN_drewN _ _ _⟩
 case round=>
  obtain⟨t,v,rfl,rfl,rfl,rfl,rfl,rfl,rfl,rfl,rfl,u⟩:=hrel
  have m:=hid u
  generalize x:R8.steps j ws t s=st
  have l:=hid x
  by_cases bX:t<64
  .have T:wr.cell? ⟨2,t,aB⟩=aA (aC aO (V (j t))):=by
    obtain⟨n,rfl⟩:=m.out;rw[Pu _ _ _ _ _ _ P];exact O t bX
   have S:wr.cell? ⟨w.heap.size+1,t,aB⟩=aA (aC aO (V (ws t))):=by obtain⟨n,rfl⟩:=m.out;rw[Pt];exact r t bX
   go_wp2;go_quiet ((exact zHa (du _ _)));go_wp2_with (go_at_call 108;refine(dv _ _).mono ?_;rintro e y ⟨rfl,rfl⟩);go_roundg (63-t);case measure=>omega
   case rel=>
    go_light
    have M:R8.steps j ws (t+1) s=st.step (j t) (ws t):=by rw[<-l.out];rfl
    refine⟨t+1,by omega,by go_num,?_⟩
    rw[M]
    refine⟨congrArg _ (sb _ _ _ _ _),rfl,rfl,rfl,congrArg _ (il _ _ _ _ _),rfl,rfl,rfl,?_⟩
    obtain⟨n,N⟩:=m.out
    exact⟨_,by rw[N,World.drewN_drewN]⟩
  .have v:t=64:=by omega
   subst v;obtain⟨n,rfl⟩:=m.out;have J:Hid (zb w ((IS s xs w).drewN n)):=below_drewN ((((zGn _ _).alloc (zAa _) _).alloc (by simp) _).alloc (by simp;omega) _) n;have I:Hid (bW ((IS s xs w).drewN n) w.heap.size 136 s.cells):=bW.drewN (((bW.new _ _ _).alloc _).alloc _) n;have b3:Hid (∃z:zA,z.size=8/\bW ((IS s xs w).drewN n) (w.heap.size+1+1) 136 z):=⟨#[aC aO 0,aC aO 0,aC aO 0,aC aO 0,aC aO 0,aC aO 0,aC aO 0,aC aO 0],rfl,by have:=bW.new ((w.alloc (aI s.cells 136)).alloc (aI xs 157)) 136 #[aC aO 0,aC aO 0,aC aO 0,aC aO 0,aC aO 0,aC aO 0,aC aO 0,aC aO 0];rw[size_alloc,size_alloc]at this;exact this.drewN n⟩
   generalize(IS s xs w).drewN n=W at*;go_wp2;go_loopg [94] 8 (λk i wr=>∃t:Nat,t+k=8/\i=aC aD t/\zb w wr/\bW wr w.heap.size 136 (s.part st t).cells/\∃z:zA,z.size=8/\bW wr (w.heap.size+1+1) 136 z);case atStart=>exact⟨0,rfl,rfl,J.out,I.out,b3.out⟩
   case round=>
    obtain⟨t,v,rfl,c1,c2,c3⟩:=hrel
    have L:=hid c1
    have p:=hid c2
    have K:=hid c3
    clear c1 c2 c3 J I b3
    by_cases bX:t<8
    .have hi:=WG st t bX;have T:wr.cell? ⟨w.heap.size,t,aB⟩=aA (aC aO (V (s.get t))):=by{rw[p.out.cell,Je _ _ _ bX]};have S:=p.out.frozen t;go_wp2;go_roundg (7-t);case measure=>omega
     case rel=>
      go_light
      refine⟨t+1,by omega,by go_num,L.out.setCell (zAa _) _,?_,?_⟩
      .have:=p.out.cO t (aC aO (V (s.get t+st.get t)));rw[Jd _ _ _ bX]at this;exact this
      .obtain⟨z,q,o⟩:=K.out;exact⟨z,q,o.bN _ _ (by simp;omega)⟩
    .obtain rfl:t=8:=by{omega};obtain⟨z,q,o⟩:=K.out;have c2:bW wr w.heap.size 136 (s.mix j ws).cells:=by rw[R8.mix,l.out];exact p.out
     have U:=hid c2;have Q:=hid o;clear c2 o;go_wp2_with (first
      |refine zGv rfl 136 _ rfl w.heap.size rfl _ _ _ _ U.out ((Qz.eH 136).trans underlying136) rfl (by kernel_rfl) ?_
      |refine zGr rfl 136 _ _ rfl (w.heap.size+1+1) _ rfl rfl _ _ Q.out (by kernel_rfl) (by rw[q];rfl) (by kernel_rfl) ?_)
     refine zGy ?_ rfl ⟨rfl,?_⟩;{exact results_cell_row results95 _ _ (w.heap.size+1+1) _ _ _ _ rfl (Q.out.dB _) ((Qz.eH 136).trans underlying136) rfl (by kernel_rfl)};{exact bU L.out (by omega) _}
def acc (l:zB):BitVec 32:=l.foldl (λx b=>x<<<8|||aGL 32 b.toNat) 0
def FP (l:zB)(t:Nat):BitVec 32:=acc ((l.drop (4*t)).take 4)
def put (f:Nat->BitVec 32)(t:Nat)(x:BitVec 32):Nat->BitVec 32:=λi=>if i=t then x else f i
def gJ (l:zB)(t:Nat):Nat->BitVec 32:=λi=>if i<t then FP l i else 0
def sched (l:zB):Nat->Nat->BitVec 32
 |0=>gJ l 16
 |n+1=>put (sched l n) (16+n) (s1 (sched l n (16+n-2))+sched l n (16+n-7)+s0 (sched l n (16+n-15))+sched l n (16+n-16))
def row (k:IntKind)(f:Nat->BitVec 32):zA:=((List.range 64).map λi=>Value.int k (V (f i))).toArray
def yB (k:IntKind)(f):(row k f).size=64:=by simp[row]
def mF (k:IntKind)(f)(i)(h:i<64):(row k f)[i]? =aA (.int k (V (f i))):=by simp[row,h]
def En (k:IntKind)(f)(t)(x:BitVec 32):(row k f).setIfInBounds t (.int k (V x))=row k (put f t x):=by
 apply zBu;intro i;rw[zBm,yB];by_cases h:i<64
 .rw[mF k (put f t x) i h];by_cases e:t=i
  .subst e;simp[h,put]
  .rw[zAj e,mF k _ i h];simp[put,zDy e]
 .rw[zBf (by rw[yB];omega),zBf (by rw[yB];omega)];by_cases e:t=i
  .subst e;simp[h]
  .rw[zAj e]
def row_one (k:IntKind)(f):(row k f).all (·.oneCell')=aE:=by rw[zFx];intro v h;simp[row]at h;obtain⟨i,_,rfl⟩:=h;rfl
def Vq (f)(t)(x y:BitVec 32):put (put f t x) t y=put f t y:=by funext i;unfold put;split<;>rfl
def Pa (f)(t)(x:BitVec 32):put f t x t=x:=by simp[put]
def Bx (l)(t):put (gJ l t) t (FP l t)=gJ l (t+1):=by
 funext i;unfold put gJ;by_cases h:i=t
 .subst h;simp
 .rw[zAj h];by_cases a:i<t
  .rw[zAl a,zAl (by omega)]
  .rw[zAj a,zAj (by omega)]
def JF (l)(t):put (gJ l t) t 0=gJ l t:=by
 funext i;unfold put gJ;by_cases h:i=t
 .subst h;simp
 .rw[zAj h]
def Sz (l)(b:UInt8):acc (l++[b])=acc l<<<8|||aGL 32 b.toNat:=by simp[acc]
def Xk:acc []=0:=rfl
def cg (x:BitVec 32)(b:UInt8):bits .or aO (V x*256%4294967296) (b.toNat:Int)=V (x<<<8|||aGL 32 b.toNat):=by
 have a:V x*(256:Int)%(4294967296:Int)=V (x<<<8):=na x 8;have c:=b.toNat_lt;have h:(b.toNat:Int)=V (aGL 32 b.toNat):=by unfold V;rw[BitVec.toNat_ofNat,Nat.mod_eq_of_lt (by omega)]
 rw[a,h,V_or]
def Hh (s:zB)(j)(h:j<s.length):s.take (j+1)=s.take j++[s.getD j 0]:=by rw[zCc h];simp[h]
def lI (s:ByteArray)(a b):(s.extract a b).data.toList=(s.data.toList.take b).drop a:=by simp[aG0,List.drop_take]
attribute [local go_sem] V_xor V_and V_or V_not V_add V_shr
def ZI (s)(hs:s.size=64)(w):
  Calls zq 96 #[aK s] w λe I=>e=aL (.agg (row aO (sched s.data.toList 48)))/\zb w I:=by
 have A:=λW r=>Lib.run_convert_string_bytes W 9 50 5 r ((Qz.eH 9).trans underlying9) ((Qz.eH 50).trans underlying50) ((Qz.eH 5).trans underlying5);have o:=λW r j=>Lib.bytesWorld_cell W 5 r j;have H:=hid o;go_enter (Qz.fn func96),ntmps96;go_wp2;go_loopg [8] 16 (λk i wr=>∃t:Nat,t+k=16/\i=aC aD t/\zb w wr/\w.heap.size+2<=wr.heap.size/\bW wr (w.heap.size+1) 157 (row aO (gJ s.data.toList t))/\∃z:zA,z.size=64/\bW wr w.heap.size 157 z);case atStart=>
  refine⟨0,rfl,rfl,((zGn _ _).alloc (zAa _) _).alloc (by simp) _,by simp,?_,_,rfl,(bW.new _ _ _).alloc _⟩
  have:=bW.new (w.alloc (aI (row aO (gJ s.data.toList 0)) 157)) 157 (row aO (gJ s.data.toList 0))
  rw[size_alloc]at this
  exact this
 case round=>
  obtain⟨t,T,rfl,R,b2,b3,P⟩:=hrel
  have B:=hid R
  have q:=hid b3
  have p:=hid P
  by_cases bX:t<16
  .have J:min (4*t+4) 64-4*t=4:=by omega
   have u:Hid (FP s.data.toList t=acc (s.extract (4*t) (4*t+4)).data.toList):=by show _=_;rw[lI,FP,List.take_drop]
   go_wp2;have c1:Hid (zb w (aG8 wr 5 (s.extract (4*t) (4*t+4)))):=B.out.trans ((XZ _ _ _).mono B.out.size);have a:(s.extract (4*t) (4*t+4)).size=4:=by simp[hs,J]
   have c3:Hid (bW (aG8 wr 5 (s.extract (4*t) (4*t+4))) (w.heap.size+1) 157 (row aO (gJ s.data.toList t))):=by show _=_;rw[aHa _ _ _ _ (by omega)];exact q.out
   have c4:Hid (∃z:zA,z.size=64/\bW (aG8 wr 5 (s.extract (4*t) (4*t+4))) w.heap.size 157 z):=by obtain⟨z,m,l⟩:=p.out;refine⟨z,m,?_⟩;show _=_;rw[aHa _ _ _ _ (by omega)];exact l
   have c5:Hid (∀j,j<4->(aG8 wr 5 (s.extract (4*t) (4*t+4))).cell? ⟨wr.heap.size,j,aB⟩=aA (aC aP ((s.extract (4*t) (4*t+4)).data.toList.getD j 0).toNat)):=λj F=>H.out _ _ j (by rw[a];exact F);have c2:wr.heap.size+1<=(aG8 wr 5 (s.extract (4*t) (4*t+4))).heap.size:=by rw[aG9];omega
   have hl:Hid ((s.extract (4*t) (4*t+4)).data.toList.length=4):=by have:=a;rw[<-aG1]at this;rw[zCp];exact this
   clear B q p a;generalize aG8 wr 5 (s.extract (4*t) (4*t+4))=W1 at*;generalize(s.extract (4*t) (4*t+4)).data.toList=b at*;generalize wr.heap.size=g at*;go_loopg [20] 4 (λk i c=>∃j:Nat,j+k=4/\i=aC aD j/\zb w c/\g+1<=c.heap.size/\bW c (w.heap.size+1) 157 (row aO (put (gJ s.data.toList t) t (acc (b.take j))))/\(∃z:zA,z.size=64/\bW c w.heap.size 157 z)/\(∀j,j<4->c.cell? ⟨g,j,aB⟩=aA (aC aP (b.getD j 0).toNat)));case atStart=>exact⟨0,rfl,rfl,c1.out,c2,by rw[zEy,Xk,JF];exact c3.out,c4.out,c5.out⟩
   case round=>
    obtain⟨j,F,rfl,d1,O,d3,d4,d5⟩:=hrel
    clear c1 c2 c3 c4 c5
    have D1:=hid d1
    have D3:=hid d3
    have D4:=hid d4
    have D5:=hid d5
    clear d1 d3 d4 d5
    by_cases f:j<4
    .have G:=D5.out j f;have N:wr.cell? ⟨w.heap.size+1,t,aB⟩=aA (aC aO (V (acc (b.take j)))):=by{rw[D3.out.cell,mF _ _ _ (by omega),Pa]};have M:=D3.out.frozen t;have C:((b.getD j 0).toNat:Int)<256:=by{have:=(b.getD j 0).toNat_lt;omega};have D:0<=((b.getD j 0).toNat:Int):=zEe _;generalize E:((b.getD j 0).toNat:Int)=y at G C D;have S:=hid E;clear E;go_wp2;go_roundg (3-j);case measure=>omega
     case rel=>
      go_light
      have L:bits .or aO (V (acc (b.take j))*256%4294967296) y=V (acc (b.take (j+1))):=by rw[<-S.out,cg,Hh b j (by rw[hl.out];exact f),Sz]
      rw[L]
      refine⟨j+1,by omega,by go_num,D1.out.setCell (by simp) _,by rw[size_setCell];exact O,?_,?_,λk K=> ?_⟩
      .have:=D3.out.cO t (aC aO (V (acc (b.take (j+1)))));rw[En,Vq]at this;exact this
      .obtain⟨z,m,l⟩:=D4.out;exact⟨z,m,l.bN _ _ (by simp)⟩
      .rw[World.cell?_setCell_other _ _ _ _ (by intro h;injection h;omega)];exact D5.out k K
    .obtain rfl:j=4:=by{omega};go_wp2;go_roundg (15-t);case measure=>omega
     case rel=>
      go_light
      refine⟨t+1,by omega,by go_num,D1.out,by omega,?_,D4.out⟩
      have:=D3.out
      rw[zBn (by rw[hl.out];omega),<-u.out,Bx]at this
      exact this
  .obtain rfl:t=16:=by{omega};clear H A hs;go_wp2;go_loopg [7] 48 (λk i c=>∃n:Nat,n+k=48/\i=aC aD (16+(n:Int))/\zb w c/\bW c (w.heap.size+1) 157 (row aO (sched s.data.toList n))/\∃z:zA,z.size=64/\bW c w.heap.size 157 z);case atStart=>exact⟨0,rfl,rfl,B.out,q.out,p.out⟩
   case round=>
    obtain⟨n,U,rfl,d1,d3,d4⟩:=hrel
    clear B q p
    have D1:=hid d1
    have D3:=hid d3
    have D4:=hid d4
    clear d1 d3 d4
    by_cases bX:n<48
    .have G:wr.cell? ⟨w.heap.size+1,16+n-2,aB⟩=aA (aC aO (V (sched s.data.toList n (16+n-2)))):=by{rw[D3.out.cell,mF _ _ _ (by omega)]};have N:wr.cell? ⟨w.heap.size+1,16+n-7,aB⟩=aA (aC aO (V (sched s.data.toList n (16+n-7)))):=by{rw[D3.out.cell,mF _ _ _ (by omega)]};have M:wr.cell? ⟨w.heap.size+1,16+n-15,aB⟩=aA (aC aO (V (sched s.data.toList n (16+n-15)))):=by{rw[D3.out.cell,mF _ _ _ (by omega)]};have Z:wr.cell? ⟨w.heap.size+1,n,aB⟩=aA (aC aO (V (sched s.data.toList n n))):=by{rw[D3.out.cell,mF _ _ _ (by omega)]};have Y:wr.cell? ⟨w.heap.size+1,16+n,aB⟩=aA (aC aO (V (sched s.data.toList n (16+n)))):=by{rw[D3.out.cell,mF _ _ _ (by omega)]};have X:wr.frozen? ⟨w.heap.size+1,16+n,aB⟩=aF:=D3.out.frozen _;go_wp2;refine Tail.Hj 23 (by kernel_rfl) (by kernel_rfl) ?_;simp only[zFn,zEy,zFp,zEz];(repeat (any_goals(first|go_big_quiet_step ((first|exact zHa (Oe _ _)|exact zHa (Of _ _)))|quiet_step ((first|exact zHa (Oe _ _)|exact zHa (Of _ _))))));refine zHj ?_;intro _ x;obtain⟨nq,rfl⟩:=x;go_wp2;go_roundg (47-n);case measure=>omega
     case rel=>
      go_light
      refine⟨n+1,by omega,by go_num,(below_drewN D1.out nq).setCell (by simp) _,?_,?_⟩
      .have:=(D3.out.drewN nq).cO (16+n) (aC aO (V (s1 (sched s.data.toList n (16+n-2))+sched s.data.toList n (16+n-7)+s0 (sched s.data.toList n (16+n-15))+sched s.data.toList n n)));rw[En]at this;have e:sched s.data.toList (n+1)=put (sched s.data.toList n) (16+n) (s1 (sched s.data.toList n (16+n-2))+sched s.data.toList n (16+n-7)+s0 (sched s.data.toList n (16+n-15))+sched s.data.toList n n):=by
        rw[sched,show 16+n-16=n from by omega]
       rw[e];exact this
      .obtain⟨z,m,l⟩:=D4.out;exact⟨z,m,(l.drewN nq).bN _ _ (by simp)⟩
    .obtain rfl:n=48:=by omega
     obtain⟨z,m,l⟩:=D4.out;have Q:=hid l;clear l;have a:=yB aO (sched s.data.toList 48);have d:=hid a;clear a;go_wp2_with (first
      |refine zGv rfl 157 _ rfl (w.heap.size+1) rfl _ _ _ _ D3.out ((Qz.eH 157).trans underlying157) rfl (by rw[d.out];kernel_rfl) ?_
      |refine zGr rfl 157 _ _ rfl w.heap.size _ rfl rfl _ _ Q.out (by rw[d.out];kernel_rfl) (by rw[m,d.out]) (row_one _ _) ?_)
     refine zGy (v:= .agg (row aO (sched s.data.toList 48))) ?_ rfl ⟨rfl,?_⟩;{exact results_cell_row results96 _ _ w.heap.size _ _ _ _ rfl (Q.out.dB _) ((Qz.eH 157).trans underlying157) rfl (by rw[d.out];kernel_rfl)};{exact bU D1.out (zAa _) _}
def pS (s:R8)(i:Nat):UInt8:=aHd (s.get (i/4)>>>(24-8*(i%4))).toNat
def gE (s:R8):zB:=(List.range 32).map (pS s)
def rV (s:R8)(t:Nat):zA:=((List.range 32).map λi=>Value.int aP (if i<t then((pS s i).toNat:Int)else 0)).toArray
def tR (s:R8)(t):(rV s t).size=32:=by simp[rV]
def rU (s:R8)(t i)(h:i<32):(rV s t)[i]? =aA (aC aP (if i<t then((pS s i).toNat:Int)else 0)):=by simp[rV,h]
def UW (s:R8)(t):(rV s t).setIfInBounds t (aC aP ((pS s t).toNat:Int))=rV s (t+1):=by
 apply zBu;intro i;rw[zBm,tR];by_cases h:i<32
 .rw[rU s (t+1) i h];by_cases e:t=i
  .subst e;simp[h]
  .rw[zAj e,rU s t i h];by_cases a:i<t
   .rw[zAl a,zAl (by omega)]
   .rw[zAj a,zAj (by omega)]
 .rw[zBf (by rw[tR];omega),zBf (by rw[tR];omega)];by_cases e:t=i
  .subst e;simp[h]
  .rw[zAj e]
def ZF (s:R8)(i)(h:i<8):s.cells[i]? =aA (aC aO (V (s.get i))):=by
 have:i=0\/i=1\/i=2\/i=3\/i=4\/i=5\/i=6\/i=7:=by omega
 obtain rfl|rfl|rfl|rfl|rfl|rfl|rfl|rfl:=this<;>rfl
attribute [local go_sem] V_shr
def Le (s:R8)(w):
  Calls zq 78 #[.agg s.cells] w λe d=>e=aL (aK ⟨(gE s).toArray⟩)/\zb w d:=by
 have o:Hid ((#[aC aP 0,aC aP 0,aC aP 0,aC aP 0,aC aP 0,aC aP 0,aC aP 0,aC aP 0,aC aP 0,aC aP 0,aC aP 0,aC aP 0,aC aP 0,aC aP 0,aC aP 0,aC aP 0,aC aP 0,aC aP 0,aC aP 0,aC aP 0,aC aP 0,aC aP 0,aC aP 0,aC aP 0,aC aP 0,aC aP 0,aC aP 0,aC aP 0,aC aP 0,aC aP 0,aC aP 0,aC aP 0]:zA)=rV s 0):=rfl;go_enter (Qz.fn func78),ntmps78;go_wp2;go_loopg [5] 32 (λk i wr=>∃t:Nat,t+k=32/\i=aC aD t/\zb w wr/\bW wr w.heap.size 136 s.cells/\bW wr (w.heap.size+1) 160 (rV s t));case atStart=>
  refine⟨0,rfl,rfl,((zGn _ _).alloc (zAa _) _).alloc (by simp) _,(bW.new _ _ _).alloc _,?_⟩
  have:=bW.new (w.alloc (aI s.cells 136)) 160 (rV s 0)
  rw[size_alloc]at this
  exact this
 case round=>
  obtain⟨t,p,rfl,n,m,b3⟩:=hrel
  have c:=hid n
  have b:=hid m
  have B:=hid b3
  by_cases bX:t<32
  .have r:wr.cell? ⟨w.heap.size,t/4,aB⟩=aA (aC aO (V (s.get (t/4)))):=by{rw[b.out.cell,ZF _ _ (by omega)]};have l:wr.cell? ⟨w.heap.size+1,t,aB⟩=aA (aC aP (if t<t then((pS s t).toNat:Int)else 0)):=by{rw[B.out.cell,rU _ _ _ bX]};rw[zAj (by omega)]at l;have q:wr.frozen? ⟨w.heap.size+1,t,aB⟩=aF:=B.out.frozen _;go_wp2;go_roundg (31-t);case measure=>omega
   case rel=>
    go_light
    have g:V (s.get (t/4)>>>(24-8*(t%4)))%256=((pS s t).toNat:Int):=by unfold V pS;rw[zCv];omega
    rw[g]
    refine⟨t+1,by omega,by go_num,c.out.setCell (by simp) _,b.out.bN _ _ (by simp),?_⟩
    have:=B.out.cO t (aC aP ((pS s t).toNat:Int))
    rw[UW]at this
    exact this
  .obtain rfl:t=32:=by omega
   have a:=mE wr 50 9 5 (w.heap.size+1) 0 32 (gE s) ((Qz.eH 50).trans underlying50) ((Qz.eH 5).trans underlying5) ((Qz.eH 9).trans underlying9) (λj f=>by
    have h:j<32:=by simpa [gE]using f
    rw[zAz,B.out.cell,rU _ _ _ h,zAl h];simp[gE,h])
   rw[show(gE s).length=32 from by simp[gE]]at a;go_wp2;go_ret;exact⟨rfl,c.out⟩
def VZ:List Nat:=[1116352408,1899447441,3049323471,3921009573,961987163,1508970993,2453635748,2870763221,3624381080,310598401,607225278,1426881987,1925078388,2162078206,2614888103,3248222580,3835390401,4022224774,264347078,604807628,770255983,1249150122,1555081692,1996064986,2554220882,2821834349,2952996808,3210313671,3336571891,3584528711,113926993,338241895,666307205,773529912,1294757372,1396182291,1695183700,1986661051,2177026350,2456956037,2730485921,2820302411,3259730800,3345764771,3516065817,3600352804,4094571909,275423344,430227734,506948616,659060556,883997877,958139571,1322822218,1537002063,1747873779,1955562222,2024104815,2227730452,2361852424,2428436474,2756734187,3204031479,3329325298]
def K (i:Nat):BitVec 32:=aGL 32 (VZ.getD i 0)
def H0:R8:=⟨BitVec.ofNat 32 1779033703,aGL 32 3144134277,aGL 32 1013904242,aGL 32 2773480762,aGL 32 1359893119,aGL 32 2600822924,aGL 32 528734635,aGL 32 1541459225⟩
def blk (l:zB)(j:Nat):zB:=(l.drop (64*j)).take 64
def dP (s:R8)(l:zB):Nat->R8
 |0=>s
 |j+1=>(dP s l j).mix K (sched (blk l j) 48)
def Wi (n i:Nat):UInt8:=aHd (8*n/2^(8*(7-i)))
def mU (n:Nat):zB:=(List.range 8).map (Wi n)
def zs (n:Nat):Nat:=(119-n%64)%64
def behind (n:Nat):zB:=128::(List.replicate (zs n) 0++mU n)
def rT (l:zB):zB:=l++behind l.length
def Nx (l:zB):zB:=gE (dP H0 (rT l) ((rT l).length/64))
def qQ (n):(behind n).length=9+zs n:=by simp[behind,mU];omega
def LK (l):(rT l).length=l.length+9+zs l.length:=by simp[rT,qQ];omega
def XW (s:R8)(a b):∀j,64*j<=a.length->dP s (a++b) j=dP s a j:=by
 intro j;induction j with
 |zero=>intro _;rfl
 |succ j i=>
  intro h;have e:blk (a++b) j=blk a j:=by unfold blk;rw[zEx (by omega),zDo (by simp;omega)]
  simp only[dP,i (by omega),e]
def Df (s:R8)(a b)(k)(h:a.length=64*k):∀j,dP s (a++b) (k+j)=dP (dP s a k) b j:=by
 intro j;induction j with
 |zero=>exact XW s a b k (by omega)
 |succ j i=>
  have e:blk (a++b) (k+j)=blk b j:=by unfold blk;rw[Nat.mul_add,<-h,<-List.drop_drop,List.drop_left]
  rw[<-zCi];simp only[dP,i,e]
def Ve (l):Nx l=gE (dP (dP H0 (l.take (l.length-l.length%64)) (l.length/64)) (l.drop (l.length-l.length%64)++behind l.length) ((l.length%64+9+zs l.length)/64)):=by
 have a:l.length-l.length%64=64*(l.length/64):=by omega
 have e:rT l=l.take (l.length-l.length%64)++(l.drop (l.length-l.length%64)++behind l.length):=by rw[<-zCf,zEc];rfl
 have h:(rT l).length/64=l.length/64+(l.length%64+9+zs l.length)/64:=by rw[LK];unfold zs;omega
 unfold Nx;rw[h,e,Df _ _ _ (l.length/64) (by simp;omega)]
def sT (s:R8):(gE s).length=32:=by simp[gE]
def ZU (l):(Nx l).length=32:=sT _
def Own (w:zW)(base:Nat)(e:zD)(v:zY)(n:Nat)(xs:zV):Prop:=
 xs.length=n/\((v=aJ aB 0 0/\n=0)\/
  ∃(g cap:Nat)(c:zA)(f:Nat×Nat),v=aJ (aA ⟨g,0,aB⟩) n cap/\base<=g/\w.heap[g]? =aA (aI c e f)/\(∀j,j<c.size->¬(f.1<=j/\j<f.2))/\n<=cap/\c.size=cap/\c.toList.take n=xs)
def Own.nil (w)(base)(e):Own w base e (aJ aB 0 0) 0 []:=⟨rfl,aG ⟨rfl,rfl⟩⟩
def Own.cell {w base e g n cap xs}(h:Own w base e (aJ (aA ⟨g,0,aB⟩) n cap) n xs)(j)(i:j<n):w.cell? ⟨g,j,aB⟩=xs[j]? :=by
 obtain⟨_,b⟩:=h;obtain⟨b,_⟩|⟨m,c,cur,l,d,_,k,_,_,_,f⟩:=b
 .cases b
 .injection d with a p o;iterate 2 (injection a with a)
  subst a;rw[zHf w g j cur e l k,<-f,zCo,zAl i];simp
def Own.base {w base e g n cap xs}(h:Own w base e (aJ (aA ⟨g,0,aB⟩) n cap) n xs):base<=g/\g<w.heap.size/\n<=cap:=by
 obtain⟨_,b⟩:=h;obtain⟨b,_⟩|⟨k,c,cur,l,d,hb,f,_,i,_,_⟩:=b
 .cases b
 .injection d with a m j;iterate 2 (injection a with a)
  subst a j;exact⟨hb,(zAb.1 f).1,i⟩
def Own.kept {w w' base e v n xs}(h:Own w base e v n xs)(b:∀g,v.ownBlock=aA g->w'.heap[g]? =w.heap[g]?):Own w' base e v n xs:=by
 obtain⟨d,a⟩:=h;refine⟨d,?_⟩;obtain a|⟨g,cap,cur,f,rfl,hb,c,r⟩:=a
 .exact aG a
 .exact aH ⟨g,cap,cur,f,rfl,hb,by rw[b g rfl];exact c,r⟩
def Own.lt {w base e v n xs}(h:Own w base e v n xs):∀g,v.ownBlock=aA g->base<=g/\g<w.heap.size:=by
 intro g a;obtain⟨rfl,_⟩|⟨c,cap,cur,f,rfl,hb,b,_⟩:=h.2
 .cases a
 .injection a with a;subst a;exact⟨hb,(zAb.1 b).1⟩
def Own.alloc {w:zW}{base:Nat}{e:zD}{v:zY}{n:Nat}{xs:zV}(h:Own w base e v n xs)(o:Obj):Own (w.alloc o) base e v n xs:=
 h.kept λg a=>Below.heap_alloc w o g (h.lt g a).2
def Own.below {w w':zW}{B base:Nat}{e:zD}{v:zY}{n:Nat}{xs:zV}(h:Own w base e v n xs)(b:Below B w w')(c:w.heap.size<=B):Own w' base e v n xs:=
 h.kept λg a=>b.block g (zAc (h.lt g a).2 c)
def Own.setRow {w:zW}{base:Nat}{e:zD}{v:zY}{n:Nat}{xs:zV}(h:Own w base e v n xs)(k:Nat)(cs:zA)(b:k<base):Own (w.setRow k cs) base e v n xs:=
 h.kept λg a=>lH w k g cs (by have:=(h.lt g a).1;omega)
def LP (b):∀(d)(o)(w:zW)(c)(e)(f:Nat×Nat),w.heap[b]? =aA (aI c e f)->o+d.length<=c.size->
  ∃a,(w.setCells b o d).heap[b]? =aA (aI a e f)/\a.size=c.size/\a.toList.take (o+d.length)=c.toList.take o++d:=by
 intro d;induction d with
 |nil=>intro o w c e f h _;exact⟨c,h,rfl,by simp⟩
 |cons v r i=>
  intro o w c e f h hl;simp only[zAi]at hl;have l:(w.setCell ⟨b,o,aB⟩ v).heap[b]? =aA (aI (c.setIfInBounds o v) e f):=by simp only[World.setCell,zDu,zCy,h];rfl
  obtain⟨a,k,j,g⟩:=i (o+1) _ _ e f l (by simp;omega);refine⟨a,k,by rw[j];simp,?_⟩;rw[zAi,show o+(r.length+1)=o+1+r.length from by omega,g];have:(c.setIfInBounds o v).toList.take (o+1)=c.toList.take o++[v]:=by rw[zDx,zCc (by simp;omega)];simp only[List.getElem_set_self];rw[List.take_set,List.set_eq_of_length_le (by simp;omega)]
  rw[this,zCf];rfl
def vM (b k)(h:k≠b):∀(a)(o)(w:zW),(w.setCells b o a).heap[k]? =w.heap[k]? :=by
 intro a;induction a with
 |nil=>intro o w;rfl
 |cons v r i=>intro o w;rw[World.setCells,i,zGq _ _ _ _ h]
def LD (b):∀(e)(o)(w:zW),(w.setCells b o e).os=w.os/\(w.setCells b o e).tape=w.tape/\(w.setCells b o e).output=w.output/\(w.setCells b o e).heap.size=w.heap.size:=by
 intro e;induction e with
 |nil=>intro o w;exact⟨rfl,rfl,rfl,rfl⟩
 |cons v r i=>intro o w;obtain⟨a,b,c,d⟩:=i (o+1) (w.setCell ⟨b,o,aB⟩ v);exact⟨a,b,c,by rw[World.setCells,d,size_setCell]⟩
def EK {P}(w)(base)(t ty e)(i:TypeInfo)(z)(H:P.underlying t=aA (.slice e))(hi:P.info? e=aA i)(S:i.zero=aA z)
  (d:i.size=1) (G:z.cells.size=1) (v) (n) (xs) (b:Own w base e v n xs)
  (a) (m c) (news) (Z:0<m) (hl:news.length=m) (l:∀j u,news[j]? =aA u->w.cell? (a.add j)=aA u) (h1:∀u∈news,u.oneCell'=aE)
  (N:n+m<=maxLen) (o:(n+m)*i.bytes<=140737488355328) (x:base<=w.heap.size):
  ∃Q F,(Builtin.append_ #[t,t] ty #[v,aJ (aA a) m c]).run P w= .ok Q F/\Own F base e Q (n+m) (xs++news)/\w.grownBy F v.ownBlock:=by
 have q:(xs++news).length=n+m:=by rw[zAg,b.1,hl]
 have D:n+m<=9223372036854775807:=by simp only[maxLen]at N;omega
 have grown:∀(old:Nat)(row:Option Nat),
   Own (w.drew.alloc (aI (xs.toArray++news.toArray++Builtin.zeroCells z.cells (grownCap w (n+m) old e-(n+m))) e)) base e (aJ (aA ⟨w.heap.size,0,aB⟩) (n+m) (grownCap w (n+m) old e)) (n+m) (xs++news)/\
   w.grownBy (w.drew.alloc (aI (xs.toArray++news.toArray++Builtin.zeroCells z.cells (grownCap w (n+m) old e-(n+m))) e)) row:=by
  intro old row
  have K:=grownCap_ge w (n+m) old e
  refine⟨⟨q,aH ⟨w.heap.size,_,_,(0,0),rfl,x,zGw w.drew _,λj _ h=>by simp at h,K,?_,?_⟩⟩,⟨rfl,rfl,rfl,by simp,λk E _=>(by first|exact heap_alloc_old w.drew _ E|exact heap_alloc_old w.drew _ k E)⟩⟩
  .simp only[zEi,zAq,size_zeroCells,G,b.1,hl];omega
  .simp only[zGd];rw[<-q];exact List.take_left
 obtain⟨rfl,rfl⟩|⟨g,cap,cur,O,rfl,M,L,A,Y,B,s⟩:=b.2
 .have X:=zDp b.1;subst X;have I:=run_append_nil w t ty e i z H hi S a m c news (by rw[hl,d];omega) l Z (by omega) (by rw[zAz]at o;omega);have p:=grown 0 (Value.ownBlock (aJ aB 0 0));simp only[zAz,zCe,zCa]at p⊢;exact⟨_,_,I,p.1,p.2⟩
 .by_cases f:n+m<=cap
  .obtain⟨C,W,R,V⟩:=LP g news n w cur e O L (by rw[hl,B];exact f);obtain⟨s1,s2,U,s4⟩:=LD g news n w;have hf:=run_firstCells_some (P:=P) w 1 m a m c news (by omega) l;have y:=run_storeCells_cells (P:=P) g n news 0 w (λj J=>by rw[zFs,zHf w g _ cur e O L];simp;omega) (λj J=>by
    have:=A (n+j) (by omega);simp only[World.frozen?,zFs,L];rw[Bool.and_eq_false_iff];simp only[zEg];omega) h1
   rw[zFs]at y;have r:(⟨g,0,aB⟩:Addr).add n=⟨g,n,aB⟩:=by{unfold Addr.add;split<;>simp_all};refine⟨aJ (aA ⟨g,0,aB⟩) (n+m) cap,w.setCells g n news,?_,⟨q,aH ⟨g,cap,C,O,rfl,M,W,by rw[R];exact A,f,by rw[R,B],?_⟩⟩,⟨s1,s2,U,by omega,λk _ E=>vM g k (λh=>E (by rw[h];rfl)) news n w⟩⟩;{simp[Builtin.append_,run_underlying H,sizeOf,typeInfo,hi,d,Builtin.lenOf,f,hf,r,y]};{rw[<-hl,V,s]}
  .have holds:∀j u,xs[j]? =aA u->w.cell? ((⟨g,0,aB⟩:Addr).add j)=aA u:=λj u T=>by
    have r:(⟨g,0,aB⟩:Addr).add j=⟨g,j,aB⟩:=by{unfold Addr.add;split<;>simp_all};have J:j<n:=by{have:=(zAp.1 T).1;rw[b.1]at this;exact this};rw[r,b.cell j J,T]
   have I:=run_append_grow w t ty e i z H hi S ⟨g,0,aB⟩ n cap xs (by rw[b.1,d];omega) holds a m c news (by rw[hl,d];omega) l (by omega) (by omega) (growslice_fits (by omega) o);have p:=grown cap (Value.ownBlock (aJ (aA ⟨g,0,aB⟩) n cap));exact⟨_,_,I,p.1,p.2⟩
def wL {P w ops rest o a Q}(p:o.guard=aB)(s x)(t)
  (C:o.op= .call {callee:= .builtin .append,args:= #[s,x],argTypes:= #[t,t]})
  (base) (e) (i:TypeInfo) (z) (A:P.underlying t=aA (.slice e)) (hi:P.info? e=aA i) (r:i.zero=aA z)
  (d:i.size=1) (l:z.cells.size=1) (v) (n) (xs) (hs:a.eval s=v) (k:Own w base e v n xs)
  (ad) (m c) (news) (D:0<m) (y:a.eval x=aJ (aA ad) m c) (hl:news.length=m) (f:∀j u,news[j]? =aA u->w.cell? (ad.add j)=aA u) (H:∀u∈news,u.oneCell'=aE)
  (q:n+m<=maxLen) (b:(n+m)*i.bytes<=140737488355328) (g:base<=w.heap.size)
  (h:∀v' w',Own w' base e v' (n+m) (xs++news)->w.grownBy w' v.ownBlock->wpList P ops Q rest (a.put o.dst v') w'):wpList P ops Q (o::rest) a w:=by
 obtain⟨v',w',B,G,F⟩:=EK w base t o.type e i z A hi r d l v n xs k ad m c news D hl f H q b g;refine wpList_plain p λ_ E=> ?_;unfold Oper.wp execOp;simp only[C,resolve,invoke,builtin,Sem.run_bind,Sem.run_pure,zHe,zFm,zEa,List.map_nil,hs,y,B];exact E _ _ (h v' w' G F)
def Own.form {w base e v n xs}(h:Own w base e v n xs)(b:0<n):∃g cap,v=aJ (aA ⟨g,0,aB⟩) n cap:=by
 obtain⟨_,c⟩|⟨g,cap,_,_,a,_⟩:=h.2
 .omega
 .exact⟨g,cap,a⟩
def iV {w w':zW}{o:Obj}{row:Option Nat}(h:(w.alloc o).grownBy w' row):w.grownBy w' row:=
 ⟨h.os,h.tape,h.output,by have:=h.size;rw[size_alloc]at this;omega,λk b a=>by rw[h.block k (by rw[size_alloc];omega) a];exact Below.heap_alloc w o k b⟩
def bW.grown {w w' row g t cs}(h:bW w g t cs)(b:w.grownBy w' row)(a:aA g≠row):bW w' g t cs:=by unfold bW;rw[b.block g h.lt a];exact h
def uY {w base e v n xs}(h:Own w base e v n xs)(g)(b:g<base):aA g≠v.ownBlock:=by intro a;have:=(h.lt g a.symm).1;omega
def pY {w0 w w':zW}{B base:Nat}{e:zD}{v:zY}{n:Nat}{xs:zV}(d:Below B w0 w)(h:Own w base e v n xs)(c:w.grownBy w' v.ownBlock)(f:B<=base)(a:B<=w.heap.size):Below B w0 w':=
 d.grown c a λk b=>zAv f (h.lt k b).1
def CH:∃i,zq.info? 5=aA i/\i.zero=aA (aC aP 0)/\i.size=1/\i.bytes=1:=by
 have h:(zq.info? 5).map (λi=>(i.zero,i.size,i.bytes))=aA (aA (aC aP 0),1,1):=by kernel_rfl
 cases a:zq.info? 5 with
 |none=>rw[a]at h;cases h
 |some i=>rw[a]at h;simp only[zBh,aGC,aHc]at h;exact⟨i,rfl,h.1,h.2.1,h.2.2⟩
def TC:∃i,zq.info? 9=aA i/\i.zero=aA (aK ⟨#[]⟩)/\i.size=1/\i.bytes=16:=by
 have h:(zq.info? 9).map (λi=>(i.zero,i.size,i.bytes))=aA (aA (aK ⟨#[]⟩),1,16):=by kernel_rfl
 cases a:zq.info? 9 with
 |none=>rw[a]at h;cases h
 |some i=>rw[a]at h;simp only[zBh,aGC,aHc]at h;exact⟨i,rfl,h.1,h.2.1,h.2.2⟩
def qB {W ops rest o a Q}(f:o.guard=aB)(s x)
  (r:o.op= .call {callee:= .builtin .append,args:= #[s,x],argTypes:= #[82,82]})
  (base) (v) (n) (xs) (hs:a.eval s=v) (b:Own W base 9 v n xs) (ys) (c) (p:a.eval x=aJ (aA ⟨W.heap.size,0,aB⟩) ys.length c) (m:0<ys.length) (y:∀u∈ys,u.oneCell'=aE)
  (z:n+ys.length<=1000000) (k:base<=W.heap.size)
  (h:∀v' w',Own w' base 9 v' (n+ys.length) (xs++ys)->W.grownBy w' v.ownBlock->wpList zq ops Q rest (a.put o.dst v') w'):wpList zq ops Q (o::rest) a (W.alloc (aI ys.toArray 9)):=by
 obtain⟨i,hi,l,e,g⟩:=TC;refine wL f s x 82 r base 9 i (aK ⟨#[]⟩) ((Qz.eH 82).trans underlying82) hi l e rfl v n xs hs (b.alloc _) _ ys.length c ys m p rfl (λj u q=> ?_) y (by simp only[maxLen];omega) (by rw[g];omega) (by rw[size_alloc];omega) (λv' w' w t=>h v' w' w (iV t));have d:(⟨W.heap.size,0,aB⟩:Addr).add j=⟨W.heap.size,j,aB⟩:=by unfold Addr.add;split<;>simp_all
 rw[d,(bW.new W 9 ys.toArray).cell j];simpa using q
def cP (s:R8):s.cells.size=8:=rfl
def cells_one (s:R8):s.cells.all (·.oneCell')=aE:=by simp[R8.cells,Value.oneCell']
def Table.below {g:Nat}{k:Nat->BitVec 32}{w w':zW}{B:Nat}(h:Table g k w)(a:Below B w w')(c:w.heap.size<=B):Table g k w':=
 ⟨zAc h.1 a.size,λt b=>by rw[a.cell (p:=⟨g,t,aB⟩) (zAc h.1 c)];exact h.2 t b⟩
def wA (s:R8)(text)(w)(M:Table 2 K w)(_hl:text.size<=9223372036854775807):
  Calls zq 76 #[.agg s.cells,aK text] w λe E=>e=aL (.agg (dP s text.data.toList (text.size/64)).cells)/\zb w E:=by
 have S:=hid M;have N:Hid (text.data.toList.length=text.size):=by show _=_;simp
 generalize O:text.data.toList=L at*;have T:=hid O;generalize G:text.size=n at*;have R:=hid G;go_enter (Qz.fn func76),ntmps76;go_wp2;go_loopg [1] (n/64) (λq v wr=>∃(j:Nat)(b:ByteArray),j+q=n/64/\v=aK b/\b.data.toList=L.drop (64*j)/\b.size=n-64*j/\zb w wr/\bW wr w.heap.size 136 (dP s L j).cells/\∃z:zA,z.size=8/\bW wr (w.heap.size+1) 136 z);case atStart=>
  refine⟨0,text,by omega,rfl,by rw[T.out];rfl,by rw[R.out];rfl,((zGn _ _).alloc (zAa _) _).alloc (by simp) _,(bW.new _ _ _).alloc _,#[aC aO 0,aC aO 0,aC aO 0,aC aO 0,aC aO 0,aC aO 0,aC aO 0,aC aO 0],rfl,?_⟩
  have:=bW.new (w.alloc (aI s.cells 136)) 136 #[aC aO 0,aC aO 0,aC aO 0,aC aO 0,aC aO 0,aC aO 0,aC aO 0,aC aO 0]
  rw[size_alloc]at this
  exact this
 case round=>
  obtain⟨j,b,U,rfl,d1,y,C,A,b3⟩:=hrel
  have D1:=hid d1
  have D2:=hid y
  have g:=hid C
  have B:=hid A
  have D:=hid b3
  clear d1 y C A b3
  have I:b.size<=n:=by rw[D2.out];omega
  by_cases bX:j<n/64
  .have m:64<=b.size:=by rw[D2.out];omega
   have f:(b.extract 0 64).data.toList=blk L j:=by rw[lI,zEz,D1.out];rfl
   have H:=hid f;clear f;have o:Hid (∀(d:Nat)(os:zJ),Calls zq 96 #[aK (b.extract 0 64)] (Go.Sort.grow (redrawn wr d) os) λe c=>e=aL (.agg (row aO (sched (blk L j) 48)))/\∃p:Regrown,c=Go.Sort.grow (redrawn wr p.d) p.os):=λd os=>by have h:=ZI (b.extract 0 64) (by simp;omega) (Go.Sort.grow (redrawn wr d) os);rw[H.out]at h;exact zHi h
   have r:Hid (∀(d:Nat)(os:zJ),Calls zq 95 #[.agg (dP s L j).cells,.agg (row aO (sched (blk L j) 48))] (Go.Sort.grow (redrawn wr d) os) λe c=>e=aL (.agg (dP s L (j+1)).cells)/\∃p:Regrown,c=Go.Sort.grow (redrawn wr p.d) p.os):=λd os=>
    zHi (Wd (dP s L j) (row aO (sched (blk L j) 48)) (sched (blk L j) 48) K _ (λt F=>mF _ _ _ F) ((S.out.below g.out (zAa _)).below (zGu wr d os) (zAa _)))
   go_wp2;refine Tail.wM 5 (by kernel_rfl) (by kernel_rfl) ?_;simp only[zFn,zEy,zFp,zEz];refine oN rfl 136 _ rfl w.heap.size rfl 136 (dP s L j).cells _ (λW J=> ?_) ((Qz.eH 136).trans underlying136) rfl (by rw[cP];kernel_rfl) ?_;{obtain⟨p,rfl⟩:=J;exact B.out.below (zGu wr p.d p.os) B.out.lt};simp only[Act.put,zCd,zDh,zDb];(repeat (any_goals(first|go_big_quiet_step ((first|(go_at_call 96;exact o.out _ _)|(go_at_call 95;exact r.out _ _)))|quiet_step ((first|(go_at_call 96;exact o.out _ _)|(go_at_call 95;exact r.out _ _))))));refine zHj ?_;intro P k;obtain⟨p,x⟩:=k;have l:Hid (zb wr P):=by{rw[x];exact zGu wr p.d p.os};clear x o r;have u:=hid (B.out.below l.out B.out.lt);go_wp2_with (refine zGr rfl 136 _ _ rfl w.heap.size _ rfl rfl _ _ u.out (by rw[cP];kernel_rfl) (by rw[cP,cP]) (cells_one _) ?_);go_roundg (n/64-(j+1));case measure=>omega
   case rel=>
    go_light
    refine⟨j+1,_,by omega,rfl,?_,?_,bU (g.out.trans (l.out.mono g.out.size)) (zAa _) _,u.out.dB _,?_⟩
    .rw[lI,zBn (by simp),D1.out,List.drop_drop,show 64*j+64=64*(j+1)from by omega]
    .have:=D2.out;simp;omega
    .obtain⟨z,i,a⟩:=D.out;exact⟨z,i,(a.below l.out a.lt).uS _ (by omega)⟩
  .obtain rfl:j=n/64:=by{omega};have m:b.size<64:=by rw[D2.out];omega
   obtain⟨z,i,a⟩:=D.out;have Q:=hid a;clear a;go_wp2_with (first
    |refine zGv rfl 136 _ rfl w.heap.size rfl _ _ _ _ B.out ((Qz.eH 136).trans underlying136) rfl (by rw[cP];kernel_rfl) ?_
    |refine zGr rfl 136 _ _ rfl (w.heap.size+1) _ rfl rfl _ _ Q.out (by rw[cP];kernel_rfl) (by rw[i,cP]) (cells_one _) ?_)
   refine zGy ?_ rfl ⟨rfl,?_⟩;{exact results_cell_row results76 _ _ (w.heap.size+1) _ _ _ _ rfl (Q.out.dB _) ((Qz.eH 136).trans underlying136) rfl (by rw[cP];kernel_rfl)};{exact bU g.out (by omega) _}
end Go.Proofs.Zq
namespace Go.Proofs
open Go.Shelf
def Qz.DY:Go.Shelf.Ren:=⟨λ|105=>97|212=>111|99=>112|165=>113|166=>114|170=>115|169=>116|263=>122|264=>123|206=>124|240=>125|241=>126|276=>131|277=>132|n=>n,λ|9=>9|3=>3|4=>4|20=>20|0=>0|46=>139|109=>174|5=>5|72=>178|76=>181|51=>135|146=>187|53=>122|148=>189|70=>176|37=>50|75=>180|127=>184|164=>191|80=>161|n=>n,λ|n=>n⟩
def Qz.Wm:Go.Proofs.Lays.n105 zq Qz.DY:={
 mixed:=by kernel_rfl
 f99:=(Qz.fn func112).trans (congrArg aA (by kernel_rfl))
 f105:=(Qz.fn func97).trans (congrArg aA (by kernel_rfl))
 f165:=(Qz.fn func113).trans (congrArg aA (by kernel_rfl))
 f166:=(Qz.fn func114).trans (congrArg aA (by kernel_rfl))
 f169:=(Qz.fn func116).trans (congrArg aA (by kernel_rfl))
 f170:=(Qz.fn func115).trans (congrArg aA (by kernel_rfl))
 f206:=(Qz.fn func124).trans (congrArg aA (by kernel_rfl))
 f212:=(Qz.fn func111).trans (congrArg aA (by kernel_rfl))
 f240:=(Qz.fn func125).trans (congrArg aA (by kernel_rfl))
 f241:=(Qz.fn func126).trans (congrArg aA (by kernel_rfl))
 f263:=(Qz.fn func122).trans (congrArg aA (by kernel_rfl))
 f264:=(Qz.fn func123).trans (congrArg aA (by kernel_rfl))
 f276:=(Qz.fn func131).trans (congrArg aA (by kernel_rfl))
 f277:=(Qz.fn func132).trans (congrArg aA (by kernel_rfl))
 t0:=((Qz.eH 0).trans Tryz.underlying0)
 a0:=(λw=>(Qz.isAgg w 0).trans (Tryz.isAgg0 w))
 z0:=(λw=>(Qz.sizeOf w 0).trans (Tryz.sizeOf0 w))
 v0:=(λw=>(Qz.zeroValue w 0).trans (Tryz.zeroValue0 w))
 t3:=((Qz.eH 3).trans Tryz.underlying3)
 a3:=(λw=>(Qz.isAgg w 3).trans (Tryz.isAgg3 w))
 z3:=(λw=>(Qz.sizeOf w 3).trans (Tryz.sizeOf3 w))
 v3:=(λw=>(Qz.zeroValue w 3).trans (Tryz.zeroValue3 w))
 t4:=((Qz.eH 4).trans Tryz.underlying4)
 a4:=(λw=>(Qz.isAgg w 4).trans (Tryz.isAgg4 w))
 z4:=(λw=>(Qz.sizeOf w 4).trans (Tryz.sizeOf4 w))
 v4:=(λw=>(Qz.zeroValue w 4).trans (Tryz.zeroValue4 w))
 t5:=((Qz.eH 5).trans Tryz.underlying5)
 a5:=(λw=>(Qz.isAgg w 5).trans (Tryz.isAgg5 w))
 z5:=(λw=>(Qz.sizeOf w 5).trans (Tryz.sizeOf5 w))
 v5:=(λw=>(Qz.zeroValue w 5).trans (Tryz.zeroValue5 w))
 t9:=((Qz.eH 9).trans Tryz.underlying9)
 a9:=(λw=>(Qz.isAgg w 9).trans (Tryz.isAgg9 w))
 z9:=(λw=>(Qz.sizeOf w 9).trans (Tryz.sizeOf9 w))
 v9:=(λw=>(Qz.zeroValue w 9).trans (Tryz.zeroValue9 w))
 t20:=((Qz.eH 20).trans Tryz.underlying20)
 a20:=(λw=>(Qz.isAgg w 20).trans (Tryz.isAgg20 w))
 z20:=(λw=>(Qz.sizeOf w 20).trans (Tryz.sizeOf20 w))
 v20:=(λw=>(Qz.zeroValue w 20).trans (Tryz.zeroValue20 w))
 t37:=((Qz.eH 50).trans Tryz.underlying50)
 a37:=(λw=>(Qz.isAgg w 50).trans (Tryz.isAgg50 w))
 z37:=(λw=>(Qz.sizeOf w 50).trans (Tryz.sizeOf50 w))
 v37:=(λw=>(Qz.zeroValue w 50).trans (Tryz.zeroValue50 w))
 t46:=((Qz.eH 139).trans Tryz.underlying139)
 a46:=(λw=>(Qz.isAgg w 139).trans (Tryz.isAgg139 w))
 z46:=(λw=>(Qz.sizeOf w 139).trans (Tryz.sizeOf139 w))
 v46:=(λw=>(Qz.zeroValue w 139).trans (Tryz.zeroValue139 w))
 t51:=((Qz.eH 135).trans Tryz.underlying135)
 a51:=(λw=>(Qz.isAgg w 135).trans (Tryz.isAgg135 w))
 z51:=(λw=>(Qz.sizeOf w 135).trans (Tryz.sizeOf135 w))
 v51:=(λw=>(Qz.zeroValue w 135).trans (Tryz.zeroValue135 w))
 t53:=((Qz.eH 122).trans Tryz.underlying122)
 a53:=(λw=>(Qz.isAgg w 122).trans (Tryz.isAgg122 w))
 z53:=(λw=>(Qz.sizeOf w 122).trans (Tryz.sizeOf122 w))
 v53:=(λw=>(Qz.zeroValue w 122).trans (Tryz.zeroValue122 w))
 t70:=((Qz.eH 176).trans Tryz.underlying176)
 a70:=(λw=>(Qz.isAgg w 176).trans (Tryz.isAgg176 w))
 z70:=(λw=>(Qz.sizeOf w 176).trans (Tryz.sizeOf176 w))
 v70:=(λw=>(Qz.zeroValue w 176).trans (Tryz.zeroValue176 w))
 t72:=((Qz.eH 178).trans Tryz.underlying178)
 a72:=(λw=>(Qz.isAgg w 178).trans (Tryz.isAgg178 w))
 z72:=(λw=>(Qz.sizeOf w 178).trans (Tryz.sizeOf178 w))
 v72:=(λw=>(Qz.zeroValue w 178).trans (Tryz.zeroValue178 w))
 t75:=((Qz.eH 180).trans Tryz.underlying180)
 a75:=(λw=>(Qz.isAgg w 180).trans (Tryz.isAgg180 w))
 z75:=(λw=>(Qz.sizeOf w 180).trans (Tryz.sizeOf180 w))
 v75:=(λw=>(Qz.zeroValue w 180).trans (Tryz.zeroValue180 w))
 t76:=((Qz.eH 181).trans Tryz.underlying181)
 a76:=(λw=>(Qz.isAgg w 181).trans (Tryz.isAgg181 w))
 z76:=(λw=>(Qz.sizeOf w 181).trans (Tryz.sizeOf181 w))
 v76:=(λw=>(Qz.zeroValue w 181).trans (Tryz.zeroValue181 w))
 t109:=((Qz.eH 174).trans Tryz.underlying174)
 a109:=(λw=>(Qz.isAgg w 174).trans (Tryz.isAgg174 w))
 z109:=(λw=>(Qz.sizeOf w 174).trans (Tryz.sizeOf174 w))
 v109:=(λw=>(Qz.zeroValue w 174).trans (Tryz.zeroValue174 w))
 t127:=((Qz.eH 184).trans Tryz.underlying184)
 a127:=(λw=>(Qz.isAgg w 184).trans (Tryz.isAgg184 w))
 z127:=(λw=>(Qz.sizeOf w 184).trans (Tryz.sizeOf184 w))
 v127:=(λw=>(Qz.zeroValue w 184).trans (Tryz.zeroValue184 w))
 t146:=((Qz.eH 187).trans Tryz.underlying187)
 a146:=(λw=>(Qz.isAgg w 187).trans (Tryz.isAgg187 w))
 z146:=(λw=>(Qz.sizeOf w 187).trans (Tryz.sizeOf187 w))
 v146:=(λw=>(Qz.zeroValue w 187).trans (Tryz.zeroValue187 w))
 t148:=((Qz.eH 189).trans Tryz.underlying189)
 a148:=(λw=>(Qz.isAgg w 189).trans (Tryz.isAgg189 w))
 z148:=(λw=>(Qz.sizeOf w 189).trans (Tryz.sizeOf189 w))
 v148:=(λw=>(Qz.zeroValue w 189).trans (Tryz.zeroValue189 w))
 t164:=((Qz.eH 191).trans Tryz.underlying191)
 a164:=(λw=>(Qz.isAgg w 191).trans (Tryz.isAgg191 w))
 z164:=(λw=>(Qz.sizeOf w 191).trans (Tryz.sizeOf191 w))
 v164:=(λw=>(Qz.zeroValue w 191).trans (Tryz.zeroValue191 w))}
def Qz.AU:Builder.Extra zq Qz.DY:={
 sizeBuilder:=by kernel_rfl
 liesBuilder:=by kernel_rfl
 t5:=((Qz.eH 5).trans Tryz.underlying5)
 a5:=(λw=>(Qz.isAgg w 5).trans (Tryz.isAgg5 w))
 z5:=(λw=>(Qz.sizeOf w 5).trans (Tryz.sizeOf5 w))
 v5:=(λw=>(Qz.zeroValue w 5).trans (Tryz.zeroValue5 w))
 infoByte:=by kernel_rfl
 cellsByte:=by kernel_rfl
 sizeByte:=by kernel_rfl
 neB5:=by decide}
open Go.RowKit Go.Lib in
def Qz.strings_Repeat (s:ByteArray)(c:Nat)(w:zW)(b:c<=9223372036854775807)(h:s.size*c<=140737488355328):
  Calls zq 97 #[aK s,aC aD c] w λe a=>e=aL (aK ⟨(aHb s.data.toList c).toArray⟩)/\zb w a:=Any.strings_Repeat Qz.Wm Qz.AU s c w b h
end Go.Proofs
namespace Go.Proofs.Zq
open Go.RowKit Sha
def sC (m i:Nat):UInt8:=aHd (m/2^(8*(7-i)))
def eight (m:Nat):zB:=(List.range 8).map (sC m)
def Kz (n):mU n=eight (8*n):=rfl
def Cp (m i):(m)/2^(8*(7-i))%256=((sC m i).toNat:Int):=by rw[sC,zCv,show(2:Nat)^8=256 from rfl,Int.natCast_emod,Int.natCast_ediv,nM];rfl
def oZ (n t:Nat):zA:=((List.range 8).map λi=>Value.int aP (if i<t then((sC n i).toNat:Int)else 0)).toArray
def qN (n t):(oZ n t).size=8:=by simp[oZ]
def nS (n t i)(h:i<8):(oZ n t)[i]? =aA (aC aP (if i<t then((sC n i).toNat:Int)else 0)):=by simp[oZ,h]
def LR (n t):(oZ n t).setIfInBounds t (aC aP ((sC n t).toNat:Int))=oZ n (t+1):=by
 apply zBu;intro i;rw[zBm,qN];by_cases h:i<8
 .rw[nS n (t+1) i h];by_cases e:t=i
  .subst e;simp[h]
  .rw[zAj e,nS n t i h];by_cases a:i<t
   .rw[zAl a,zAl (by omega)]
   .rw[zAj a,zAj (by omega)]
 .rw[zBf (by rw[qN];omega),zBf (by rw[qN];omega)];by_cases e:t=i
  .subst e;simp[h]
  .rw[zAj e]
def uH (n:Nat)(w):
  Calls zq 64 #[aC aQ n] w λe d=>e=aL (aK ⟨(eight n).toArray⟩)/\zb w d:=by
 go_enter (Qz.fn func64),ntmps64;go_wp2;go_loopg [5] 8 (λq i wr=>∃t:Nat,t+q=8/\i=aC aD (t:Int)/\zb w wr/\bW wr w.heap.size 149 (oZ n t));case atStart=>exact⟨0,rfl,rfl,(zGn _ _).alloc (zAa _) _,bW.new _ _ _⟩
 case round=>
  obtain⟨t,o,rfl,m,l⟩:=hrel
  have c:=hid m
  have B:=hid l
  by_cases bX:t<8
  .have k:wr.cell? ⟨w.heap.size,t,aB⟩=aA (aC aP (if t<t then((sC n t).toNat:Int)else 0)):=by{rw[B.out.cell,nS _ _ _ bX]};rw[zAj (by omega)]at k;have p:wr.frozen? ⟨w.heap.size,t,aB⟩=aF:=B.out.frozen _;go_wp2;go_roundg (7-t);case measure=>omega
   case rel=>
    go_light
    have g:(n:Int)/2^(56-8*t)%256=((sC n t).toNat:Int):=by rw[<-Cp,show 56-8*t=8*(7-t) by omega]
    rw[g]
    refine⟨t+1,by omega,by go_num,c.out.setCell (zAa _) _,?_⟩
    have:=B.out.cO t (aC aP ((sC n t).toNat:Int))
    rw[LR]at this
    exact this
  .obtain rfl:t=8:=by omega
   have a:Hid ((convert 50 9 (aJ (aA ⟨w.heap.size,0,aB⟩) 8 8)).run zq wr= .ok (aK ⟨(eight n).toArray⟩) wr):=
    mE _ 50 9 5 w.heap.size 0 8 (eight n) ((Qz.eH 50).trans underlying50) ((Qz.eH 5).trans underlying5) ((Qz.eH 9).trans underlying9) (λj f=>by
     have h:j<8:=by simpa [eight]using f
     rw[zAz,B.out.cell,nS _ _ _ h,zAl h];simp[eight,h])
   have b:=a.out;go_wp2;go_ret;exact⟨rfl,c.out⟩
def US (n:Nat)(w)(o:n<=140737488351232):
  Calls zq 77 #[aC aD n] w λe a=>e=aL (aK ⟨(behind n).toArray⟩)/\zb w a:=by
 have m:(64-((n:Int)+1+8)%64)%64=((zs n:Nat):Int):=by unfold zs;omega
 have H:Hid (∀w:zW,Calls zq 97 #[aK ⟨#[0]⟩,aC aD (zs n:Nat)] w λe a=>e=aL (aK ⟨(List.replicate (zs n) 0).toArray⟩)/\zb w a):=λw=>by
  have f:zs n<=63:=by unfold zs;omega
  have h:=Qz.strings_Repeat ⟨#[0]⟩ (zs n) w (by omega) (by show 1*zs n<=_;omega);have e:aHb ([0]:zB) (zs n)=List.replicate (zs n) 0:=by have:=Lib.repeatL_replicate 0 1 (zs n);rwa [zEv]at this
  have j:=e;rw[j]at h;exact h
 have k:Hid (∀w:zW,Calls zq 64 #[aC aQ ((n:Int)*8)] w λe a=>e=aL (aK ⟨(mU n).toArray⟩)/\zb w a):=λw=>by have h:=uH (8*n) w;rw[<-Kz,show((8*n:Nat):Int)=(n:Int)*8 by omega]at h;exact h
 have g:(List.replicate (zs n) (0:UInt8)).length<=63:=by rw[zDj];unfold zs;omega
 have i:(mU n).length=8:=by simp[mU]
 have d:Hid (behind n=128::(List.replicate (zs n) 0++mU n)):=rfl;generalize List.replicate (zs n) (0:UInt8)=Z at*;generalize mU n=L at*;go_enter (Qz.fn func77),ntmps77;go_wp2_with fail;refine(H.out _).mono ?_;rintro e w1 ⟨rfl,c⟩;have B:=hid c;go_wp2_with fail;refine(k.out _).mono ?_;rintro e w2 ⟨rfl,b⟩;have l:=hid b;go_wp2_with fail;go_ret;refine⟨congrArg aG7 (congrArg Value.string ?_),B.out.trans (l.out.mono B.out.size)⟩;rw[d.out];apply zDv;simp[zEo]
structure fJ (w:zW):Prop where
 nL:Table 2 K w
 lt:0<w.heap.size
 jY:w.rangeAt 0 0 H0.cells.toList
def fJ.below {w w':zW}{B:Nat}(h:fJ w)(a:Below B w w')(b:w.heap.size<=B):fJ w':=
 ⟨h.nL.below a b,zAc h.lt a.size,λj v c=>by rw[a.cell (p:=⟨_,_,aB⟩) (zAc h.lt b)];exact h.jY j v c⟩
def sK (k:Nat)(m)(w)(T:1<=k)(R:k<=32)(Q:m.size<=140737488351232)(z:fJ w):
  Calls zq 53 #[aC aD k,aK m] w λe M=>e=aL (aK ⟨((Nx m.data.toList).take k).toArray⟩)/\zb w M:=by
 have C:=hid z;go_enter (Qz.fn func53),ntmps53;go_upto_region 2 with(first
  |refine wpList_load_mid rfl 136 _ rfl 0 0 rfl H0.cells.toList _ C.out.jY ((Qz.eH 136).trans underlying136) rfl (by kernel_rfl) ?_
  |refine zGr rfl 136 _ _ rfl w.heap.size H0.cells rfl rfl _ _ (bW.new w 136 #[aC aO 0,aC aO 0,aC aO 0,aC aO 0,aC aO 0,aC aO 0,aC aO 0,aC aO 0]) (by rw[cP];kernel_rfl) (by rw[cP];rfl) (cells_one _) ?_)
 have A:Hid (zb w ((w.alloc (aI #[aC aO 0,aC aO 0,aC aO 0,aC aO 0,aC aO 0,aC aO 0,aC aO 0,aC aO 0] 136)).setRow w.heap.size H0.cells)):=bU ((zGn _ _).alloc (zAa _) _) (zAa _) _;have r:Hid (bW ((w.alloc (aI #[aC aO 0,aC aO 0,aC aO 0,aC aO 0,aC aO 0,aC aO 0,aC aO 0,aC aO 0] 136)).setRow w.heap.size H0.cells) w.heap.size 136 H0.cells):=(bW.new w 136 _).dB _;generalize(w.alloc (aI #[aC aO 0,aC aO 0,aC aO 0,aC aO 0,aC aO 0,aC aO 0,aC aO 0,aC aO 0] 136)).setRow w.heap.size H0.cells=wr at*;have z:=C.out.below A.out (zAa _);have x:=hid z;have K:=hid C;clear z C;simp only[Act.put];have n:Hid (m.data.toList.length=m.size):=by show _=_;simp
 have H:=Ve m.data.toList;rw[n.out]at H;have Z:=hid H;clear H;have O:m.size-m.size%64<=m.size:=by omega
 have N:(m.size:Int)-(m.size:Int)%64=((m.size-m.size%64:Nat):Int):=by omega
 have Y:Hid ((m.size-m.size%64)/64=m.size/64):=by show _=_;omega
 have X:Hid (m.size-(m.size-m.size%64)=m.size%64):=by show _=_;omega
 generalize m.size-m.size%64=b at*;have j:Hid (∀(d:Nat)(os:zJ),Calls zq 76 #[.agg H0.cells,aK (m.extract 0 b)] (Go.Sort.grow (redrawn wr d) os) λe c=>e=aL (.agg (dP H0 (m.data.toList.take b) (m.size/64)).cells)/\∃p:Regrown,c=Go.Sort.grow (redrawn wr p.d) p.os):=λd os=>by have h:=wA H0 (m.extract 0 b) (Go.Sort.grow (redrawn wr d) os) (x.out.below (zGu wr d os) (zAa _)).nL (by simp;omega);have G:(m.extract 0 b).data.toList=m.data.toList.take b:=by{rw[lI,zEz]};have F:(m.extract 0 b).size/64=m.size/64:=by{rw[<-Y.out];simp;omega};rw[G,F]at h;exact zHi h
 go_wp2;refine Tail.wM 5 (by kernel_rfl) (by kernel_rfl) ?_;simp only[zFn,zEy,zFp,zEz];refine oN rfl 136 _ rfl w.heap.size rfl 136 H0.cells _ (λW E=> ?_) ((Qz.eH 136).trans underlying136) rfl (by rw[cP];kernel_rfl) ?_
 .obtain⟨p,rfl⟩:=E;exact r.out.below (zGu wr p.d p.os) r.out.lt
 simp only[Act.put,zCd,zDh,zDb];repeat (any_goals(first|go_big_quiet_step ((exact j.out _ _))|quiet_step ((exact j.out _ _))))
 refine zHj ?_;intro t f;obtain⟨p,l⟩:=f;have g:Hid (zb wr t):=by rw[l];exact zGu wr p.d p.os
 clear l j;have q:=hid (r.out.below g.out r.out.lt);generalize dP H0 (m.data.toList.take b) (m.size/64)=S1 at*;go_upto_region 4 with(refine zGr rfl 136 _ _ rfl w.heap.size _ rfl rfl _ _ q.out (by rw[cP];kernel_rfl) (by rw[cP,cP]) (cells_one _) ?_)
 have c1:Hid (zb w (t.setRow w.heap.size S1.cells)):=bU (A.out.trans (g.out.mono A.out.size)) (zAa _) _;have c2:Hid (bW (t.setRow w.heap.size S1.cells) w.heap.size 136 S1.cells):=q.out.dB _;have v:Hid (fJ (t.setRow w.heap.size S1.cells)):=K.out.below c1.out (zAa _);generalize t.setRow w.heap.size S1.cells=a at*;clear A r g q x;simp only[Act.put];have U:(behind m.size).length<=72:=by rw[qQ];unfold zs;omega
 have J:Hid ((behind m.size).length=9+zs m.size):=qQ m.size;have I:Hid (∀(d:Nat)(os:zJ),Calls zq 77 #[aC aD (m.size:Nat)] (Go.Sort.grow (redrawn a d) os) λe c=>e=aL (aK ⟨(behind m.size).toArray⟩)/\∃p:Regrown,c=Go.Sort.grow (redrawn a p.d) p.os):=λd os=>zHi (US m.size _ Q);generalize behind m.size=B at*;have o:(⟨B.toArray⟩:ByteArray).size=B.length:=by simp[aG2]
 have y:=hid o;clear o;have i:Hid (∀(d:Nat)(os:zJ),Calls zq 76 #[.agg S1.cells,aK (m.extract b m.size++⟨B.toArray⟩)] (Go.Sort.grow (redrawn a d) os) λe c=>e=aL (.agg (dP S1 (m.data.toList.drop b++B) ((m.size%64+9+zs m.size)/64)).cells)/\∃p:Regrown,c=Go.Sort.grow (redrawn a p.d) p.os):=λd os=>by
  have h:=wA S1 (m.extract b m.size++⟨B.toArray⟩) (Go.Sort.grow (redrawn a d) os) (v.out.below (zGu a d os) (zAa _)).nL (by rw[aG3,y.out];simp;omega);have G:(m.extract b m.size++⟨B.toArray⟩).data.toList=m.data.toList.drop b++B:=by rw[zEo,zGd,lI,zBn (by rw[n.out];omega)]
  have F:(m.extract b m.size++⟨B.toArray⟩).size=m.size%64+9+zs m.size:=by rw[<-X.out,zCi,<-J.out,aG3,y.out];simp
  rw[G,F]at h;exact zHi h
 refine Tail.wM 9 (by kernel_rfl) (by kernel_rfl) ?_;simp only[zFn,zEy,zFp,zEz];refine oN rfl 136 _ rfl w.heap.size rfl 136 S1.cells _ (λW E=> ?_) ((Qz.eH 136).trans underlying136) rfl (by rw[cP];kernel_rfl) ?_
 .obtain⟨p,rfl⟩:=E;exact c2.out.below (zGu a p.d p.os) c2.out.lt
 simp only[Act.put,zCd,zDh,zDb];repeat (any_goals(first|go_big_quiet_step ((first|(go_at_call 77;exact I.out _ _)|(go_at_call 76;exact i.out _ _)))|quiet_step ((first|(go_at_call 77;exact I.out _ _)|(go_at_call 76;exact i.out _ _)))))
 refine zHj ?_;intro s f;obtain⟨p,l⟩:=f;have g:Hid (zb a s):=by rw[l];exact zGu a p.d p.os
 clear l I i;have q:Hid (bW s w.heap.size 136 S1.cells):=c2.out.below g.out c2.out.lt;generalize dP S1 (m.data.toList.drop b++B) ((m.size%64+9+zs m.size)/64)=S at*;go_upto_region 5 with(refine zGr rfl 136 _ _ rfl w.heap.size _ rfl rfl _ _ q.out (by rw[cP];kernel_rfl) (by rw[cP,cP]) (cells_one _) ?_)
 have d1:Hid (zb w (s.setRow w.heap.size S.cells)):=bU (c1.out.trans (g.out.mono c1.out.size)) (zAa _) _;have V:Hid (bW (s.setRow w.heap.size S.cells) w.heap.size 136 S.cells):=q.out.dB _;generalize s.setRow w.heap.size S.cells=L at*;clear c1 c2 g q v;simp only[Act.put];have P:(gE S).length=32:=sT S;have u:Hid (Value.string (aG4 ⟨(gE S).toArray⟩ 0 k)=Value.string ⟨((Nx m.data.toList).take k).toArray⟩):=by show _=_;rw[Z.out];congr 1;apply zDv;simp[aG0]
 go_wp2_with (first
  |refine zGv rfl 136 _ rfl w.heap.size rfl _ _ _ _ V.out ((Qz.eH 136).trans underlying136) rfl (by rw[cP];kernel_rfl) ?_
  |(go_at_call 78;refine(Le S _).mono ?_;rintro e w5 ⟨rfl,D⟩))
 go_ret;exact⟨congrArg aG7 u.out,d1.out.trans (D.mono d1.out.size)⟩
def rF (l:zB):Nat->List (BitVec 32)
 |0=>((List.range 16).map (FP l)).reverse
 |n+1=>(s1 ((rF l n).getD 1 0)+(rF l n).getD 6 0+s0 ((rF l n).getD 14 0)+(rF l n).getD 15 0)::rF l n
def Kt (l):∀n i,i<16+n->(rF l n).getD i 0=sched l n (15+n-i):=by
 intro n;induction n with
 |zero=>intro i hi;have h:i=0\/i=1\/i=2\/i=3\/i=4\/i=5\/i=6\/i=7\/i=8\/i=9\/i=10\/i=11\/i=12\/i=13\/i=14\/i=15:=by{omega};obtain rfl|rfl|rfl|rfl|rfl|rfl|rfl|rfl|rfl|rfl|rfl|rfl|rfl|rfl|rfl|rfl:=h<;>rfl
 |succ n a=>
  intro i hi;cases i with
  |zero=>show _=put (sched l n) (16+n) _ (15+(n+1)-0);rw[show 15+(n+1)-0=16+n from by omega,Pa,rF,List.getD_cons_zero,a 1 (by omega),a 6 (by omega),a 14 (by omega),a 15 (by omega),show 15+n-1=16+n-2 from by omega,show 15+n-6=16+n-7 from by omega,show 15+n-14=16+n-15 from by omega,show 15+n-15=16+n-16 from by omega]
  |succ i=>rw[rF,List.getD_cons_succ,a i (by omega)];show _=put (sched l n) (16+n) _ (15+(n+1)-(i+1));rw[show 15+(n+1)-(i+1)=15+n-i from by omega,put,zAj (by omega)]
def yC:List (BitVec 32×BitVec 32)->R8->R8
 |[],s=>s
 |(k,w)::r,s=>yC r (s.step k w)
def QC (p)(k w:BitVec 32):∀s,yC (p++[(k,w)]) s=(yC p s).step k w:=by
 induction p with
 |nil=>intro s;rfl
 |cons a p i=>intro s;obtain⟨c,b⟩:=a;exact i _
def ZE (k ws)(s:R8):∀n,R8.steps k ws n s=yC ((List.range n).map λt=>(k t,ws t)) s:=by
 intro n;induction n with
 |zero=>rfl
 |succ n i=>rw[R8.steps,i,List.range_succ,zDm];exact(QC _ _ _ _).symm
def QX (l:zB)(s:R8):R8:=s.plus (yC ((VZ.map (aGL 32)).zip (rF l 48).reverse) s)
def nR (l):∀n,(rF l n).length=16+n:=by
 intro n;induction n with
 |zero=>rfl
 |succ n i=>rw[rF,zAi,i];omega
def YQ (l):(VZ.map (aGL 32)).zip (rF l 48).reverse=(List.range 64).map λt=>(K t,sched l 48 t):=by
 apply List.ext_getElem
 .simp[VZ,nR]
 .intro t d c;have a:t<64:=by simpa using c
  have b:(rF l 48).reverse[t]'(by rw[List.length_reverse,nR];omega)=sched l 48 t:=by have h:=Kt l 48 (63-t) (by omega);rw[List.getElem_reverse];simp only[nR];rw[zBe,zAe (by rw[nR];omega)]at h;rw[show 15+48-(63-t)=t from by omega]at h;simp only[zCs]at h;rw[<-h]
  rw[List.getElem_zip,List.getElem_map,List.getElem_map,List.getElem_range,b];congr 1;rw[K,zBe,zAe (by show t<64;exact a)];rfl
def Ps (l)(s:R8):s.mix K (sched l 48)=QX l s:=by rw[R8.mix,QX,YQ,ZE]
def MR (l)(h:(rT l).length=64):Nx l=gE (QX (rT l) H0):=by rw[Nx,h];show gE (R8.mix K (sched (blk (rT l) 0) 48) H0)=_;rw[Ps,blk,Nat.mul_zero,zEz,zBn (by omega)]
def Vf:Nx [97,98,99]=[186,120,22,191,143,1,207,234,65,65,64,222,93,174,34,35,176,3,97,163,150,23,122,156,180,16,255,97,242,0,21,173]:=by rw[MR _ (by decide+kernel)];decide+kernel
def Nw:(Nx [0]).take 2=[110,52]:=by rw[MR _ (by decide+kernel)];decide+kernel
def mj (k:Nat)(l:zB):ByteArray:=⟨((Nx l).take k).toArray⟩
def uB (n)(w)(b:1<=n)(h:n<=32):Calls zq 52 #[aC aD n] w λe a=>e=aL (.bool aE)/\a=w:=by go_enter (Qz.fn func52),ntmps52;go_wp2;go_ret;exact⟨by simp,rfl⟩
def Bt (n)(w)(h:n<1\/32<n):Calls zq 52 #[aC aD n] w λe a=>e=aL (.bool aF)/\a=w:=by
 obtain h|h:=h
 .go_enter (Qz.fn func52),ntmps52;go_wp2;go_ret;exact⟨rfl,rfl⟩
 .have b:1<=n:=by{omega};go_enter (Qz.fn func52),ntmps52;go_wp2;go_ret;exact⟨by simp;omega,rfl⟩
def Cs (k:Nat)(m)(w)(b:1<=k)(h:k<=32)(c:m.size<=140737488351232)(d:fJ w):
  Calls zq 33 #[aC aD k,aK m] w λe a=>e=aL (.tuple #[aK (mj k m.data.toList),aC aD 0])/\zb w a:=by
 have H:=hid d;go_enter (Qz.fn func33),ntmps33;go_wp2_with (first
  |(go_at_call 52;refine(uB _ _ (by omega) (by omega)).mono ?_;rintro e a ⟨rfl,rfl⟩)
  |(go_at_call 53;refine(sK k m _ b h c H.out).mono ?_;rintro e a ⟨rfl,hb⟩))
 go_ret2;exact⟨rfl,hb⟩
def Ry:mj 2 [97,98,99]=⟨#[186,120]⟩:=by rw[mj,Vf];rfl
def bP (l:zB)(k:Nat):Nat:=(l.getD (k/8) 0).toNat/2^(7-k%8)%2
def byte_at (s:ByteArray)(i)(h:i<s.size):s[i]=s.data.toList.getD i 0:=by
 show s.data[i]=_;have hi:i<s.data.toList.length:=by simpa using h
 rw[zBe,zAe hi];simp
def jH (l)(k):bP l k=0\/bP l k=1:=by unfold bP;omega
def dg (k:Nat)(l:zB):zB:=(Nx l).take k
def dW (k)(l)(h:k<=32):(dg k l).length=k:=by rw[dg,zBg,ZU];omega
structure PW where
 kind:Nat
 bJ:zLL
 value:zB
 other:zB
 dI:zB
def kindOf (s:zB):Nat:=(s.getD 0 0).toNat
def dN (s:zB):Nat:=256*(s.getD 1 0).toNat+(s.getD 2 0).toNat
def cV (s:zB):Nat:=(dN s+7)/8
def marksOf (s:zB):zB:=(s.drop 3).take (cV s)
def dX (k:Nat)(s:zB):Nat->Option (zLL×Nat)
 |0=>aA ([],3+cV s)
 |i+1=>(dX k s i).bind λp=>
   if bP (marksOf s) i=1 then
    if p.2+k<=s.length/\(s.drop p.2).take k≠dg k [0]then aA (p.1++[(s.drop p.2).take k],p.2+k)else aB
   else aA (p.1++[dg k [0]],p.2)
def RJ (s:zB)(m:Nat):Prop:=∀i,dN s<=i->i<m->bP (marksOf s) i=0
def sameBits (a b:zB)(d:Nat):Prop:=∀i,i<d->bP a i=bP b i
def oX (k:Nat)(idx s:zB)(S:zLL)(rest:zB):Option PW:=
 if kindOf s=0 then(if rest=[]then aA ⟨0,S,[],[],[]⟩else aB)
 else if kindOf s=1 then(if rest.length<=100 then aA ⟨1,S,rest,[],[]⟩else aB)
 else if rest.length=32+k/\rest.take 32≠idx/\(List.range (dN s)).all (λi=>bP idx i==bP (rest.take 32) i)=aE then aA ⟨2,S,[],rest.take 32,rest.drop 32⟩else aB
def parse (k:Nat)(idx s:zB):Option PW:=
 if s.length<3\/2<kindOf s\/256<dN s\/s.length<3+cV s\/(List.range (8*cV s)).all (λi=>decide (i<dN s)||bP (marksOf s) i==0)=aF then aB
 else(dX k s (dN s)).bind λp=>oX k idx s p.1 (s.drop p.2)
def OH (s)(m):(List.range m).all (λi=>decide (i<dN s)||bP (marksOf s) i==0)=aE↔RJ s m:=by
 rw[zBt];constructor
 .intro h i a b;have:=h i (zBs.2 b);rw[zDn,zBo,zCm]at this;omega
 .intro h i hi;rw[zDn,zBo,zCm];have:=zBs.1 hi;by_cases a:i<dN s
  .exact aG a
  .exact aH (h i (by omega) this)
def GY (a b)(d):(List.range d).all (λi=>bP a i==bP b i)=aE↔sameBits a b d:=by
 rw[zBt];constructor
 .intro h i hi;exact zCm.1 (h i (zBs.2 hi))
 .intro h i hi;exact zCm.2 (h i (zBs.1 hi))
def pR {k idx s}(h:s.length<3\/2<kindOf s\/256<dN s\/s.length<3+cV s):parse k idx s=aB:=by
 unfold parse;rw[zAl];obtain h|h|h|h:=h
 .exact aG h
 .exact aH (aG h)
 .exact aH (aH (aG h))
 .exact aH (aH (aH (aG h)))
def UQ {k idx s}(i)(b:dN s<=i)(a:i<8*cV s)(c:bP (marksOf s) i=1):parse k idx s=aB:=by
 unfold parse;rw[zAl];refine aH (aH (aH (aH ?_)));cases h:(List.range (8*cV s)).all (λi=>decide (i<dN s)||bP (marksOf s) i==0)with
 |false=>rfl
 |true=>have:=(OH s _).1 h i b a;omega
def IK {k idx s}(h:dX k s (dN s)=aB):parse k idx s=aB:=by
 unfold parse;split
 .rfl
 .rw[h];rfl
def MP {k s i}(h:dX k s i=aB):∀j,dX k s (i+j)=aB:=by
 intro j;induction j with
 |zero=>exact h
 |succ j a=>rw[<-zCi,dX,a];rfl
def tP {k idx s S a}(f:3<=s.length)(d:kindOf s<=2)(e:dN s<=256)(hl:3+cV s<=s.length)(b:RJ s (8*cV s))(c:dX k s (dN s)=aA (S,a)):parse k idx s=oX k idx s S (s.drop a):=by
 unfold parse;rw[zAj,c]
 .rfl
 .rintro(h|h|h|h|h)
  .omega
  .omega
  .omega
  .omega
  .rw[(OH s _).2 b]at h;cases h
def GU {k s i a S}(h:dX k s i=aA (S,a))(b:bP (marksOf s) i=0):dX k s (i+1)=aA (S++[dg k [0]],a):=by rw[dX,h,zCz,zAj (by omega)]
def GS {k s i a S}(h:dX k s i=aA (S,a))(b:bP (marksOf s) i=1)(d:a+k<=s.length)(c:(s.drop a).take k≠dg k [0]):dX k s (i+1)=aA (S++[(s.drop a).take k],a+k):=by rw[dX,h,zCz,zAl b,zAl ⟨d,c⟩]
def MQ {k s i a S}(h:dX k s i=aA (S,a))(c:bP (marksOf s) i=1)(b:¬(a+k<=s.length/\(s.drop a).take k≠dg k [0])):dX k s (i+1)=aB:=by rw[dX,h,zCz,zAl c,zAj b]
def Eh {k s}(hl:3+cV s<=s.length):∀{i a S},dX k s i=aA (S,a)->S.length=i/\a<=s.length/\3+cV s<=a:=by
 intro i;induction i with
 |zero=>intro a S h;simp only[dX,aGC,aHc]at h;obtain⟨rfl,rfl⟩:=h;exact⟨rfl,hl,zAa _⟩
 |succ i e=>
  intro a S h;rw[dX]at h;cases b:dX k s i with
  |none=>rw[b]at h;cases h
  |some p=>
   obtain⟨S0,a0⟩:=p;rw[b,zCz]at h;obtain⟨q,d,c⟩:=e b;split at h
   .split at h
    .rename_i f;simp only[aGC,aHc]at h;obtain⟨rfl,rfl⟩:=h;exact⟨by simp[q],f.1,by omega⟩
    .cases h
   .simp only[aGC,aHc]at h;obtain⟨rfl,rfl⟩:=h;exact⟨by simp[q],d,c⟩
def Nv {k s}(f:k<=32):∀{i a S},dX k s i=aA (S,a)->∀x∈S,x.length=k:=by
 intro i;induction i with
 |zero=>intro a S h;simp only[dX,aGC,aHc]at h;obtain⟨rfl,rfl⟩:=h;intro x c;cases c
 |succ i e=>
  intro a S h x c;rw[dX]at h;cases d:dX k s i with
  |none=>rw[d]at h;cases h
  |some p=>
   obtain⟨S0,a0⟩:=p;rw[d,zCz]at h;split at h
   .split at h
    .rename_i g;simp only[aGC,aHc]at h;obtain⟨rfl,rfl⟩:=h;obtain b|b:=zAh.1 c
     .exact e d x b
     .rw[zAn]at b;subst b;have:=g.1;simp;omega
    .cases h
   .simp only[aGC,aHc]at h;obtain⟨rfl,rfl⟩:=h;obtain b|b:=zAh.1 c
    .exact e d x b
    .rw[zAn]at b;subst b;exact dW k [0] f
structure PW.Ok (k:Nat)(p:PW):Prop where
 depth:p.bJ.length<=256
 iq:∀x∈p.bJ,x.length=k
 value:p.value.length<=100
 other:p.other.length<=32
 dI:p.dI.length<=32
 kind:p.kind<=2
def tQ {k idx s p}(g:k<=32)(h:parse k idx s=aA p):p.Ok k:=by
 unfold parse at h;split at h
 .cases h
 .rename_i j;cases b:dX k s (dN s)with
  |none=>rw[b]at h;cases h
  |some q=>
   obtain⟨S,a⟩:=q;rw[b,zCz]at h;have c:dN s<=256:=by{omega};have hl:3+cV s<=s.length:=by{omega};have f:=Eh hl b;have e:=Nv g b;unfold oX at h;dsimp only at h;split at h
   .split at h
    .simp only[aGC]at h;subst h;exact⟨by rw[f.1];exact c,e,by simp,by simp,by simp,by simp⟩
    .cases h
   .split at h
    .split at h
     .rename_i d;simp only[aGC]at h;subst h;exact⟨by rw[f.1];exact c,e,d,by simp,by simp,by simp⟩
     .cases h
    .split at h
     .rename_i d;simp only[aGC]at h;subst h;have i:=d.1;refine⟨by rw[f.1];exact c,e,by simp,?_,?_,by simp⟩
      .rw[zBg];omega
      .rw[zCk,i];omega
     .cases h
def PW.fT (k:Nat)(idx:zB)(p:PW):zB:=
 if p.kind=1 then 1::(idx++dg k (4::p.value))else if p.kind=2 then 1::(p.other++p.dI)else [0]
def PW.up (k:Nat)(idx:zB)(p:PW):Nat->zB
 |0=>p.fT k idx
 |j+1=>if bP idx (p.bJ.length-1-j)=0 then 2::(dg k (p.up k idx j)++p.bJ.getD (p.bJ.length-1-j) [])else 2::(p.bJ.getD (p.bJ.length-1-j) []++dg k (p.up k idx j))
def PW.iO (k:Nat)(idx:zB)(p:PW)(depth:Nat):zB:=p.up k idx (p.bJ.length-depth)
def PW.root (k:Nat)(idx:zB)(p:PW):zB:=dg k (p.iO k idx 0)
def PW.said (p:PW):Nat×zB:=if p.kind=1 then(1,p.value)else(2,[])
def MJ (k)(idx)(p:PW)(a:k<=32)(hi:idx.length=32)(h:p.Ok k):∀j,j<=p.bJ.length->(p.up k idx j).length<=65:=by
 intro j;induction j with
 |zero=>
  intro _;unfold PW.up PW.fT;have:=h.other;have:=h.dI;split;{simp[hi,dW k _ a];omega}
  .split
   .simp;omega
   .simp
 |succ j i=>
  intro c;have b:(p.bJ.getD (p.bJ.length-1-j) []).length<=32:=by rw[zBe,zAe (by omega)];have:=h.iq _ (zCt (n:=p.bJ.length-1-j) (by omega));simp only[zCs];omega
  unfold PW.up;split;{rw[zAi,zAg,dW k _ a];omega};{rw[zAi,zAg,dW k _ a];omega}
def verdict (root idx s:zB):Nat×zB×Nat:=
 if root.length<1\/32<root.length\/idx.length≠32 then(0,[],1)
 else match parse root.length idx s with
  |none=>(0,[],2)
  |some p=>if p.root root.length idx=root then(p.said.1,p.said.2,0)else(0,[],3)
def mS (x:UInt8)(r:Nat):UInt8:=aHd (x.toNat|||128/2^r)
def Jg (x:UInt8)(r s)(h:r<8)(hs:s<8):(mS x r).toNat/2^(7-s)%2=if r=s then 1 else x.toNat/2^(7-s)%2:=by
 have H:∀x:Fin 256,∀r s:Fin 8,((x.val|||128/2^r.val)%256)/2^(7-s.val)%2=if r.val=s.val then 1 else x.val/2^(7-s.val)%2:=by decide+kernel
 have:=H ⟨x.toNat,x.toNat_lt⟩ ⟨r,h⟩ ⟨s,hs⟩;rw[mS,zCv];exact this
def Qu (l:zB)(i j)(b:UInt8)(hi:i<l.length):(l.set i b).getD j 0=if i=j then b else l.getD j 0:=by
 rw[zBe,List.getElem?_set,zBe];by_cases h:i=j
 .subst h;simp[hi]
 .simp[h]
def dk (l)(t i)(b:t/8<l.length):bP (l.set (t/8) (mS (l.getD (t/8) 0) (t%8))) i=if t=i then 1 else bP l i:=by
 unfold bP;rw[Qu _ _ _ _ b];by_cases h:t/8=i/8
 .rw[zAl h,Jg _ _ _ (zFr _ (by omega)) (zFr _ (by omega)),<-h];by_cases a:t=i
  .rw[zAl a,zAl (by omega)]
  .rw[zAj a,zAj (by omega)]
 .rw[zAj h,zAj (by intro a;exact h (by rw[a]))]
def Ln (n i):bP (List.replicate n 0) i=0:=by
 unfold bP;have:((List.replicate n (0:UInt8)).getD (i/8) 0)=0:=by rw[zBe,zFv];split<;>rfl
 rw[this];simp
def eC (D:zB)(S:zLL):Nat->zB
 |0=>List.replicate ((S.length+7)/8) 0
 |j+1=>if S.getD j []=D then eC D S j else(eC D S j).set (j/8) (mS ((eC D S j).getD (j/8) 0) (j%8))
def eY (D)(S)(j):(eC D S j).length=(S.length+7)/8:=by
 induction j with
 |zero=>simp[eC]
 |succ j i=>unfold eC;split;{exact i};{rw[zEk];exact i}
def DX (D)(S)(j)(d:j<=S.length)(i):bP (eC D S j) i=if i<j/\S.getD i []≠D then 1 else 0:=by
 induction j with
 |zero=>rw[eC,Ln,zAj (by omega)]
 |succ j b=>
  have b:=b (by omega);unfold eC;by_cases h:S.getD j []=D
  .rw[zAl h,b];by_cases hi:i=j
   .subst hi;rw[zAj (by omega),zAj (λa=>a.2 h)]
   .by_cases a:i<j/\S.getD i []≠D
    .rw[zAl a,zAl ⟨by omega,a.2⟩]
    .rw[zAj a,zAj (λc=>a ⟨by omega,c.2⟩)]
  .rw[zAj h,dk _ _ _ (by rw[eY];omega),b];by_cases hi:j=i
   .subst hi;rw[zAl rfl,zAl ⟨by omega,h⟩]
   .rw[zAj hi];by_cases a:i<j/\S.getD i []≠D
    .rw[zAl a,zAl ⟨by omega,a.2⟩]
    .rw[zAj a,zAj (λc=>a ⟨by omega,c.2⟩)]
def eI (D:zB):zLL->zB
 |[]=>[]
 |s::r=>(if s=D then []else s)++eI D r
def jA (D)(a b):eI D (a++b)=eI D a++eI D b:=by
 induction a with
 |nil=>rfl
 |cons s r i=>rw[zCl,eI,eI,i,zCf]
def wT (p:PW):zB:=if p.kind=1 then p.value else if p.kind=2 then p.other++p.dI else []
section
variable {k:Nat}{I X:zB}{p:PW}
end
def fD {P:zZ}{fn:Func}{p q:Tmp}{ty:zD}(h:fn.results= #[.cell p ty,.tmp q])(tmps:zA)(w:zW)(g:Nat)(t:zD)(cs:zA)(fr:Nat×Nat)(d:TypeDesc)
  (f:tmps.getD p undef=aN (aA ⟨g,0,aB⟩)) (i:w.heap[g]? =aA (aI cs t fr))
  (e:P.underlying ty=aA d) (j:(match d with| .struct _| .array _ _=>aE|_=>aF)=aE) (hi:(P.info? ty).map (·.size)=aA cs.size) (v:zY) (c:tmps.getD q undef=v):
  (results fn tmps).run P w= .ok (.tuple #[.agg cs,v]) w:=by
 have b:tmps[p]?.getD undef=aN (aA ⟨g,0,aB⟩):=by simpa using f
 have a:tmps[q]?.getD undef=v:=by simpa using c
 simp[results,h,b,a,asAddr,run_loadVar_row w g t ty cs fr d i e j hi]
def JC (s)(i:Nat)(hi:i<s.size)(W):(Instr.index 9 (aK s) (aC aD (i))).run zq W= .ok (aC aP ((s.data.toList.getD i 0).toNat:Int)) W:=by rw[run_index_string W 9 s aD i ((Qz.eH 9).trans underlying9),dif_pos ⟨by omega,by omega⟩];have e:=zFh i;simp only[e];rw[byte_at s i hi]
def Sa (l):dN l<65536:=by have a:=(l.getD 1 0).toNat_lt;have h:=(l.getD 2 0).toNat_lt;unfold dN;omega
def Own.lower {w base b e v n xs}(h:Own w base e v n xs)(a:b<=base):Own w b e v n xs:=by refine⟨h.1,h.2.imp id ?_⟩;rintro⟨g,cap,c,j,i,f,d⟩;exact⟨g,cap,c,j,i,zAv a f,d⟩
def Js {a:ByteArray}{l}(h:¬a=⟨l.toArray⟩):(a.toList==l)=aF:=by rw[zBy];intro e;apply h;rw[zGx]at e;subst e;rfl
def Di {B:Nat}{w w1 w2:zW}(h:Below B w w1)(b:zb w1 w2)(a:B<=w1.heap.size:=by first|exact h.size|assumption):Hid (Below B w w2):=h.trans (b.mono a)
def bT (root idx s:zB):Nat:=
 if root.length<1\/32<root.length\/idx.length≠32 then 1
 else match parse root.length idx s with
  |none=>2
  |some p=>if p.root root.length idx=root then 0 else 3
def dQ {root idx s}(h:¬(root.length<1\/32<root.length\/idx.length≠32))(a:parse root.length idx s=aB):bT root idx s=2:=by rw[bT,zAj h,a]
def rX {root idx s p}(h:¬(root.length<1\/32<root.length\/idx.length≠32))(b:parse root.length idx s=aA p)(a:p.root root.length idx≠root):bT root idx s=3:=by rw[bT,zAj h,b];exact zAj a
def rY {root idx s p}(h:¬(root.length<1\/32<root.length\/idx.length≠32))(b:parse root.length idx s=aA p)(a:p.root root.length idx=root):bT root idx s=0:=by rw[bT,zAj h,b];exact zAl a
def cW:zA:= #[aC aD 0,aK ⟨#[]⟩]
def gV (n:Nat)(l:zB):zA:= #[aC aD (n:Int),aK ⟨l.toArray⟩]
def SQ {root idx s}(h:bT root idx s≠0):verdict root idx s=(0,[],bT root idx s):=by
 unfold bT verdict at*;by_cases a:root.length<1\/32<root.length\/idx.length≠32
 .rw[zAl a,zAl a]
 .rw[zAj a]at h;rw[zAj a,zAj a];cases c:parse root.length idx s with
  |none=>rfl
  |some p=>rw[c]at h;dsimp only at h⊢;by_cases b:p.root root.length idx=root;{rw[zAl b]at h;exact absurd rfl h};{rw[zAj b,zAj b]}
def FU {root idx s p}(h:bT root idx s=0)(b:parse root.length idx s=aA p)(a:p.root root.length idx=root):verdict root idx s=(p.said.1,p.said.2,0):=by
 unfold bT verdict at*;split
 .rename_i c;rw[zAl c]at h;cases h
 .rw[b];exact zAl a
def Bg (root idx s):bT root idx s<=3:=by
 unfold bT;split
 .omega
 .split
  .omega
  .split<;>omega
def gG (k:Nat)(p:PW):zB:=[aHd p.kind,aHd (p.bJ.length/256),aHd (p.bJ.length%256)]++(eC (dg k [0]) p.bJ p.bJ.length++(eI (dg k [0]) p.bJ++wT p))
structure Gl (k:Nat)(I:zB)(p:PW):Prop where
 kind:p.kind<=2
 depth:p.bJ.length<=256
 iq:∀x∈p.bJ,x.length=k
 zero:p.kind=0->p.value=[]/\p.other=[]/\p.dI=[]
 one:p.kind=1->p.value.length<=100/\p.other=[]/\p.dI=[]
 two:p.kind=2->p.value=[]/\p.other.length=32/\p.dI.length=k/\p.other≠I/\sameBits I p.other p.bJ.length
section
variable {k:Nat}{I X:zB}{p:PW}
def oY (k:Nat)(p:PW)(X:zB):zB:=[aHd p.kind,aHd (p.bJ.length/256),aHd (p.bJ.length%256)]++(eC (dg k [0]) p.bJ p.bJ.length++(eI (dg k [0]) p.bJ++X))
def JS (h:p.kind<=2):kindOf (oY k p X)=p.kind:=by show(aHd p.kind).toNat=_;rw[zCv];omega
def mY (h:p.bJ.length<=256):dN (oY k p X)=p.bJ.length:=by show 256*(aHd (p.bJ.length/256)).toNat+(aHd (p.bJ.length%256)).toNat=_;rw[zCv,zCv];omega
def uG (h:p.bJ.length<=256):cV (oY k p X)=(p.bJ.length+7)/8:=by rw[cV,mY h]
def uF (h:p.bJ.length<=256):marksOf (oY k p X)=eC (dg k [0]) p.bJ p.bJ.length:=by rw[marksOf,uG h];show List.take _ (eC (dg k [0]) p.bJ p.bJ.length++(eI (dg k [0]) p.bJ++X))=_;rw[zDo (by rw[eY];omega),zBn (by rw[eY];omega)]
def vC:(oY k p X).length=3+(p.bJ.length+7)/8+(eI (dg k [0]) p.bJ).length+X.length:=by simp[oY,eY];omega
def wX (i):(oY k p X).drop (3+(p.bJ.length+7)/8+(eI (dg k [0]) (p.bJ.take i)).length)=eI (dg k [0]) (p.bJ.drop i)++X:=by
 have a:eI (dg k [0]) p.bJ=eI (dg k [0]) (p.bJ.take i)++eI (dg k [0]) (p.bJ.drop i):=by rw[<-jA,zEc]
 rw[oY,a,<-List.drop_drop,<-List.drop_drop];show List.drop _ (List.drop _ (eC (dg k [0]) p.bJ p.bJ.length++(eI (dg k [0]) (p.bJ.take i)++eI (dg k [0]) (p.bJ.drop i)++X)))=_;have h:List.drop ((p.bJ.length+7)/8) (eC (dg k [0]) p.bJ p.bJ.length)=[]:=List.drop_of_length_le (by rw[eY];omega);rw[zEx (by rw[eY];omega),h,zCe,zCf,zEx (zAa _),List.drop_length,zCe]
def Co (f:p.bJ.length<=256)(hs:∀x∈p.bJ,x.length=k):∀i,i<=p.bJ.length->dX k (oY k p X) i=aA (p.bJ.take i,3+(p.bJ.length+7)/8+(eI (dg k [0]) (p.bJ.take i)).length):=by
 intro i;induction i with
 |zero=>intro _;rw[dX,uG f];rfl
 |succ i c=>
  intro hi;have c:=c (by omega);have l:p.bJ.getD i []=p.bJ[i]:=by{rw[zBe,zAe (by omega)];rfl};have g:p.bJ.take (i+1)=p.bJ.take i++[p.bJ[i]]:=by{rw[zCc (by omega)]};have e:p.bJ.drop i=p.bJ[i]::p.bJ.drop (i+1):=zGh (by omega);have hl:p.bJ[i].length=k:=hs _ (zCt _);have a:=DX (dg k [0]) p.bJ p.bJ.length (zAa _) i;by_cases h:p.bJ[i]=dg k [0];{rw[l,zAj (λn=>n.2 h)]at a;rw[GU c (by rw[uF f];exact a),g,jA,h];simp[eI]}
  .rw[l,zAl ⟨by omega,h⟩]at a;have d:((oY k p X).drop (3+(p.bJ.length+7)/8+(eI (dg k [0]) (p.bJ.take i)).length)).take k=p.bJ[i]:=by
    rw[wX,e,eI,zAj h,zCf,zDo (by omega),zBn (by omega)]
   have b:3+(p.bJ.length+7)/8+(eI (dg k [0]) (p.bJ.take i)).length+k<=(oY k p X).length:=by have:=congrArg List.length d;rw[zBg,zCk,hl]at this;by_cases j:k=0;{have:=congrArg List.length (wX (k:=k) (p:=p) (X:=X) i);rw[vC,j,zFs];have m:eI (dg k [0]) p.bJ=eI (dg k [0]) (p.bJ.take i)++eI (dg k [0]) (p.bJ.drop i):=by{rw[<-jA,zEc]};rw[j]at m;rw[m,zAg];omega};{omega}
   rw[GS c (by rw[uF f];exact a) b (by rw[d];exact h),d,g,jA];simp[eI,h,hl];omega
def XF (a:p.kind<=2)(h:p.bJ.length<=256)(hs:∀x∈p.bJ,x.length=k):parse k I (oY k p X)=oX k I (oY k p X) p.bJ X:=by
 have b:=Co (X:=X) h hs p.bJ.length (zAa _);rw[zFl]at b;have c:=wX (k:=k) (p:=p) (X:=X) p.bJ.length;rw[zFl,List.drop_length]at c;have:=tP (idx:=I) (s:=oY k p X) (by rw[vC];omega) (by rw[JS a];exact a) (by rw[mY h];omega) (by rw[uG h,vC];omega) (λi d e=>by rw[uF h,DX _ _ _ (zAa _),zAj (by rw[mY h]at d;omega)]) (by rw[mY h];exact b)
 rw[this,c];rfl
end
def wG {k I p}(h:Gl k I p):parse k I (gG k p)=aA p:=by
 have:=XF (I:=I) (X:=wT p) h.kind h.depth h.iq;rw[show gG k p=oY k p (wT p)from rfl,this,oX,JS h.kind,mY h.depth];obtain⟨g,S,a,b,c⟩:=p;have o:=h.kind;dsimp only at*;obtain rfl|rfl|rfl:g=0\/g=1\/g=2:=by omega
 .obtain⟨f,e,d⟩:=h.zero rfl;dsimp only at f e d;subst f;subst e;subst d;rfl
 .obtain⟨f,e,d⟩:=h.one rfl;dsimp only at f e d;subst e;subst d;rw[zAj (by decide),zAl rfl];exact zAl f
 .obtain⟨f,e,d,j,i⟩:=h.two rfl;dsimp only at f e d j i;subst f;have n:wT ⟨2,S,[],b,c⟩=b++c:=rfl;have m:(b++c).take 32=b:=by{rw[zDo (by omega),zBn (by omega)]};have l:(b++c).drop 32=c:=by{rw[zEx (by omega),List.drop_of_length_le (by omega),zCe]};rw[zAj (by decide),zAj (by decide),n,m,l,zAl ⟨by rw[zAg,e,d],j,by rw[GY];exact i⟩]
def LM {k I p}(c:1<=k)(a:k<=32)(e:I.length=32)(h:Gl k I p):verdict (p.root k I) I (gG k p)=(p.said.1,p.said.2,0):=by
 have hl:(p.root k I).length=k:=dW k _ a;have b:parse (p.root k I).length I (gG k p)=aA p:=by rw[hl];exact wG h
 have d:bT (p.root k I) I (gG k p)=0:=rY (by rw[hl,e];omega) b (by rw[hl]);exact FU d b (by rw[hl])
abbrev qW:=zB×zB
def cN (l:List qW)(d b:Nat):List qW:=l.filter λe=>bP e.1 d==b
def rB (k:Nat)(e:qW):zB:=1::(e.1++dg k (4::e.2))
def gK (k:Nat):Nat->List qW->Nat->zB
 |0,[],_=>[0]
 |0,e::_,_=>rB k e
 |_+1,[],_=>[0]
 |_+1,[e],_=>rB k e
 |f+1,a::b::l,d=>2::(dg k (gK k f (cN (a::b::l) d 0) (d+1))++dg k (gK k f (cN (a::b::l) d 1) (d+1)))
def kX (k:Nat)(l:List qW)(d:Nat):zB:=dg k (gK k (256-d) l d)
def AI (k:Nat)(I:zB):List qW->PW
 |[]=>⟨0,[],[],[],[]⟩
 |e::_=>if e.1=I then⟨1,[],e.2,[],[]⟩else⟨2,[],[],e.1,dg k (4::e.2)⟩
def eF (k:Nat)(I:zB):Nat->List qW->Nat->PW
 |0,l,_=>AI k I l
 |_+1,[],_=>AI k I []
 |_+1,[e],_=>AI k I [e]
 |f+1,a::b::l,d=>
  {eF k I f (cN (a::b::l) d (bP I d)) (d+1)with
   bJ:=dg k (gK k f (cN (a::b::l) d (1-bP I d)) (d+1))::(eF k I f (cN (a::b::l) d (bP I d)) (d+1)).bJ}
def PW.oG (k:Nat)(idx:zB)(p:PW)(o:Nat):Nat->zB
 |0=>p.fT k idx
 |j+1=>if bP idx (o+(p.bJ.length-1-j))=0 then 2::(dg k (p.oG k idx o j)++p.bJ.getD (p.bJ.length-1-j) [])else 2::(p.bJ.getD (p.bJ.length-1-j) []++dg k (p.oG k idx o j))
def SR (k)(idx)(p:PW):∀j,p.oG k idx 0 j=p.up k idx j:=by
 intro j;induction j with
 |zero=>rfl
 |succ j i=>rw[PW.oG,PW.up,i,zAz]
def SS (k)(idx)(p:PW)(s)(o):∀j,j<=p.bJ.length->({p with bJ:=s::p.bJ}:PW).oG k idx o j=p.oG k idx (o+1) j:=by
 intro j;induction j with
 |zero=>intro _;rfl
 |succ j i=>
  intro h;rw[PW.oG,PW.oG,i (by omega)];have e:({p with bJ:=s::p.bJ}:PW).bJ.length-1-j=(p.bJ.length-1-j)+1:=by show(p.bJ.length+1)-1-j=_;omega
  rw[e,show o+(p.bJ.length-1-j+1)=o+1+(p.bJ.length-1-j) by omega];rfl
def BW (k)(I)(e)(l):AI k I (e::l)=if e.1=I then⟨1,[],e.2,[],[]⟩else⟨2,[],[],e.1,dg k (4::e.2)⟩:=rfl
def kQ (k)(I)(e)(l):(AI k I (e::l)).fT k I=rB k e/\(AI k I (e::l)).bJ=[]:=by
 rw[BW];by_cases h:e.1=I
 .rw[zAl h];exact⟨by unfold PW.fT rB;rw[zAl rfl,h],rfl⟩
 .rw[zAj h];exact⟨by unfold PW.fT rB;rw[zAj (by show¬(2=1);decide),zAl rfl],rfl⟩
def Mt (k)(I):∀f l d,(eF k I f l d).oG k I d (eF k I f l d).bJ.length=gK k f l d:=by
 intro f;induction f with
 |zero=>
  intro l d;cases l with
  |nil=>rfl
  |cons e l=>obtain⟨g,c⟩:=kQ k I e l;rw[eF,c];exact g
 |succ f j=>
  intro l d;match l with
  |[]=>rfl
  |[e]=>obtain⟨g,c⟩:=kQ k I e [];rw[eF,c];exact g
  |a::b::l=>
   have i:=j (cN (a::b::l) d (bP I d)) (d+1);rw[eF,gK];generalize m:cN (a::b::l) d=H at*;generalize eF k I f (H (bP I d)) (d+1)=p at*;show PW.oG k I _ d (p.bJ.length+1)=_;rw[PW.oG];have e:(({p with bJ:=dg k (gK k f (H (1-bP I d)) (d+1))::p.bJ}:PW).bJ.length-1-p.bJ.length)=0:=by show(p.bJ.length+1)-1-p.bJ.length=0;omega
   rw[e,SS _ _ _ _ _ _ (zAa _),i,zFs];show(if bP I d=0 then 2::(dg k (gK k f (H (bP I d)) (d+1))++dg k (gK k f (H (1-bP I d)) (d+1)))else 2::(dg k (gK k f (H (1-bP I d)) (d+1))++dg k (gK k f (H (bP I d)) (d+1))))=_;obtain h|h:=jH I d;{rw[h,zAl rfl]};{rw[h,zAj (by decide)]}
def Mx (k)(I)(l):(eF k I 256 l 0).root k I=kX k l 0:=by have h:=Mt k I 256 l 0;rw[SR]at h;show dg k ((eF k I 256 l 0).up k I ((eF k I 256 l 0).bJ.length-0))=dg k (gK k 256 l 0);rw[Nat.sub_zero,h]
def Gu (k)(I):∀f l d,(eF k I f l d).bJ.length<=f:=by
 intro f;induction f with
 |zero=>
  intro l d;cases l with
  |nil=>exact zAa _
  |cons e l=>rw[eF,(kQ k I e l).2];exact zAa _
 |succ f i=>
  intro l d;match l with
  |[]=>exact zBq _
  |[e]=>rw[eF,(kQ k I e []).2];exact zBq _
  |a::b::l=>rw[eF];exact Nat.succ_le_succ (i _ _)
def Uj (k)(I)(g:k<=32):∀f l d,∀x∈(eF k I f l d).bJ,x.length=k:=by
 intro f;induction f with
 |zero=>
  intro l d x c;cases l with
  |nil=>cases c
  |cons e l=>rw[eF,(kQ k I e l).2]at c;cases c
 |succ f i=>
  intro l d;match l with
  |[]=>intro x c;cases c
  |[e]=>intro x c;rw[eF,(kQ k I e []).2]at c;cases c
  |a::b::l=>intro x c;rw[eF]at c;obtain h|h:=zAf.1 c;{subst h;exact dW k _ g};{exact i _ _ x h}
def Uk (k)(I):∀f l d,(∀e∈l,∀i,i<d->bP e.1 i=bP I i)->
  ((eF k I f l d).kind=0/\(eF k I f l d).value=[]/\(eF k I f l d).other=[]/\(eF k I f l d).dI=[]/\∀e∈l,e.1≠I)\/
  ∃e∈l,(∀i,i<d+(eF k I f l d).bJ.length->bP e.1 i=bP I i)/\
   ((e.1=I/\(eF k I f l d).kind=1/\(eF k I f l d).value=e.2/\(eF k I f l d).other=[]/\(eF k I f l d).dI=[])\/
    (e.1≠I/\(eF k I f l d).kind=2/\(eF k I f l d).value=[]/\(eF k I f l d).other=e.1/\(eF k I f l d).dI=dg k (4::e.2)/\
     ((eF k I f l d).bJ.length<f\/l=[e]->∀x∈l,x.1≠I))):=by
 intro f;induction f with
 |zero=>
  intro l d hl;cases l with
  |nil=>exact aG ⟨rfl,rfl,rfl,rfl,λe j=>by cases j⟩
  |cons e l=>
   refine aH ⟨e,zBj ..,?_⟩;rw[eF,(kQ k I e l).2];refine⟨λi hi=>hl e (zBj ..) i (by simpa using hi),?_⟩;rw[BW];by_cases h:e.1=I;{rw[zAl h];exact aG ⟨h,rfl,rfl,rfl,rfl⟩}
   .rw[zAj h];refine aH ⟨h,rfl,rfl,rfl,rfl,λm=> ?_⟩;obtain m|m:=m
    .cases m
    .rw[m];intro x c;rw[zAn.1 c];exact h
 |succ f s=>
  intro l d hl;match l with
  |[]=>exact aG ⟨rfl,rfl,rfl,rfl,λe j=>by cases j⟩
  |[e]=>refine aH ⟨e,zBj ..,?_⟩;rw[eF,(kQ k I e []).2];refine⟨λi hi=>hl e (zBj ..) i (by simpa using hi),?_⟩;rw[BW];by_cases h:e.1=I;{rw[zAl h];exact aG ⟨h,rfl,rfl,rfl,rfl⟩};{rw[zAj h];refine aH ⟨h,rfl,rfl,rfl,rfl,λ_=> ?_⟩;intro x c;rw[zAn.1 c];exact h}
  |a::b::l=>
   have n:∀e∈cN (a::b::l) d (bP I d),∀i,i<d+1->bP e.1 i=bP I i:=by intro e j i hi;obtain⟨p,o⟩:=zAx.1 j;by_cases h:i<d;{exact hl e p i h};{obtain rfl:i=d:=by{omega};exact zCm.1 o}
   have g:∀x∈a::b::l,(∀y∈cN (a::b::l) d (bP I d),y.1≠I)->x.1≠I:=by intro x c t h;exact t x (zAx.2 ⟨c,by rw[h];exact zEw _⟩) h
   obtain⟨A,m,z,w,v⟩|⟨e,j,u,r⟩:=s _ _ n;{refine aG ⟨A,m,z,w,λx c=>g x c v⟩}
   .have q:=(zAx.1 j).1;refine aH ⟨e,q,λi hi=>u i ?_,?_⟩
    .have:(eF k I (f+1) (a::b::l) d).bJ.length=(eF k I f (cN (a::b::l) d (bP I d)) (d+1)).bJ.length+1:=rfl;omega
    .obtain r|⟨g1,g2,g3,g4,g5,g6⟩:=r
     .exact aG r
     .refine aH ⟨g1,g2,g3,g4,g5,λh=> ?_⟩;obtain h|h:=h
      .intro x c;refine g x c (g6 (aG ?_));have:(eF k I (f+1) (a::b::l) d).bJ.length=(eF k I f (cN (a::b::l) d (bP I d)) (d+1)).bJ.length+1:=rfl;omega
      .cases h
def RP {a b}(f:a.length=32)(c:b.length=32)(h:∀i,i<256->bP a i=bP b i):a=b:=by
 have H:∀x:Fin 256,x.val=x.val/2^7%2*128+x.val/2^6%2*64+x.val/2^5%2*32+x.val/2^4%2*16+x.val/2^3%2*8+x.val/2^2%2*4+x.val/2^1%2*2+x.val/2^0%2:=by decide+kernel
 apply List.ext_getElem (by omega);intro n s p;have c:∀r,r<8->a[n].toNat/2^(7-r)%2=b[n].toNat/2^(7-r)%2:=λr t=>by have:=h (8*n+r) (by omega);unfold bP at this;rw[show(8*n+r)/8=n by omega,show(8*n+r)%8=r by omega]at this;rw[zBe,zAe s,zBe,zAe p]at this;exact this
 have e:a[n].toNat=b[n].toNat:=by have f:=H ⟨a[n].toNat,a[n].toNat_lt⟩;have d:=H ⟨b[n].toNat,b[n].toNat_lt⟩;have q0:=c 0 (by omega);have o:=c 1 (by omega);have m:=c 2 (by omega);have l:=c 3 (by omega);have k:=c 4 (by omega);have j:=c 5 (by omega);have g:=c 6 (by omega);have q:=c 7 (by omega);simp only[Nat.sub_zero,Nat.reduceSub]at q0 o m l k j g q f d;rw[f,d,q0,o,m,l,k,j,g,q]
 exact UInt8.toNat_inj.1 e
structure mA (l:List qW):Prop where
 idx:∀e∈l,e.1.length=32
 val:∀e∈l,e.2.length<=100
 one:∀e∈l,∀e'∈l,e.1=e'.1->e=e'
def eZ (l:List qW)(I:zB):Option (zB):=(l.find? λe=>e.1==I).map (·.2)
def UB (o:Option (zB)):Nat×zB:=match o with|some v=>(1,v)|none=>(2,[])
def NW {l I v}(h:mA l)(b:(I,v)∈l):eZ l I=aA v:=by
 unfold eZ;cases a:l.find? λe=>e.1==I with
 |none=>have:=List.find?_eq_none.1 a (I,v) b;simp at this
 |some e=>have d:=List.find?_some a;have c:=List.mem_of_find?_eq_some a;have:=h.one e c (I,v) b (zCm.1 d);rw[this];rfl
def fP {l I}(h:∀e∈l,e.1≠I):eZ l I=aB:=by unfold eZ;rw[List.find?_eq_none.2 (λe a=>by simpa using h e a)];rfl
def SN {k I l}(d:k<=32)(o:I.length=32)(h:mA l):Gl k I (eF k I 256 l 0)/\(eF k I 256 l 0).said=UB (eZ l I):=by
 have c:=Gu k I 256 l 0;have b:=Uj k I d 256 l 0;obtain⟨u,t,s,r,q⟩|⟨e,he,j,p⟩:=Uk k I 256 l 0 (λe _ i hi=>by omega)
 .refine⟨⟨by omega,c,b,λ_=>⟨t,s,r⟩,λh=>by omega,λh=>by omega⟩,?_⟩;rw[fP q];unfold PW.said;rw[zAj (by omega)];rfl
 .obtain⟨a,m,g,g4,g5⟩|⟨a,m,g,g4,g5,g6⟩:=p
  .refine⟨⟨by omega,c,b,λh=>by omega,λ_=>⟨by rw[g];exact h.val e he,g4,g5⟩,λh=>by omega⟩,?_⟩;have n:(I,e.2)∈l:=by{rw[<-a];exact he};rw[NW h n];unfold PW.said;rw[zAl m,g];rfl
  .refine⟨⟨by omega,c,b,λh=>by omega,λh=>by omega,λ_=>⟨g,?_,?_,?_,?_⟩⟩,?_⟩
   .rw[g4];exact h.idx e he
   .rw[g5];exact dW k _ d
   .rw[g4];exact a
   .intro i hi;rw[g4];exact(j i (by omega)).symm
   .have bX:(eF k I 256 l 0).bJ.length<256:=by
     obtain f|f:=zDi (eF k I 256 l 0).bJ.length 256;{exact f};{exact absurd (RP (h.idx e he) o (λi hi=>j i (by omega))) a}
    rw[fP (g6 (aG bX))];unfold PW.said;rw[zAj (by omega)];rfl
def Hc {k I l}(b:1<=k)(a:k<=32)(c:I.length=32)(h:mA l):
  verdict (kX k l 0) I (gG k (eF k I 256 l 0))=((UB (eZ l I)).1,(UB (eZ l I)).2,0):=by
 obtain⟨e,d⟩:=SN a c h;rw[<-Mx k I l,LM b a c e,d]
def Sl (y r:Nat)(h:y<256)(a:r<8):(bits .and aP ((y)*2^r%256) 128 !=0)=decide (y/2^(7-r)%2=1):=by
 have H:∀y:Fin 256,∀r:Fin 8,(bits .and aP ((y.val:Int)*2^r.val%256) 128 !=0)=decide (y.val/2^(7-r.val)%2=1):=by decide+kernel
 exact H ⟨y,h⟩ ⟨r,a⟩
def lE (s)(k:Nat)(w)(b:k/8<s.size)(hs:s.size<=9223372036854775807)(h:k<=4611686018427387904):
  Calls zq 82 #[aK s,aC aD k] w λe a=>e=aL (.bool (decide (bP s.data.toList k=1)))/\a=w:=by
 go_enter (Qz.fn func82),ntmps82;go_wp2;have c:Hid (decide (bP s.data.toList k=1)=(bits .and aP ((s[k/8].toNat:Int)*2^(k%8)%256) 128 !=0)):=by show _=_;rw[Sl _ _ s[k/8].toNat_lt (zFr _ (by omega)),byte_at s (k/8) b,bP]
 rw[c.out];go_ret;exact⟨rfl,rfl⟩
def uM (d:Nat)(w)(h:d<=65536):Calls zq 80 #[aC aD d] w λe a=>e=aL (aC aD (((d+7)/8:Nat):Int))/\a=w:=by go_enter (Qz.fn func80),ntmps80;go_wp2;go_ret;exact⟨by rw[Int.natCast_ediv];rfl,rfl⟩
def wK (w):Calls zq 98 #[] w λe a=>e=aL (aK ⟨#[0]⟩)/\a=w:=by go_enter (Qz.fn func98),ntmps98;go_wp2;go_ret;exact⟨rfl,rfl⟩
def MB (a)(w)(h:a.size<=1000):Calls zq 133 #[aK a] w λe b=>e=aL (aK ⟨(4::a.data.toList).toArray⟩)/\b=w:=by
 have e:Hid ((⟨#[4]⟩:ByteArray)++a=⟨(4::a.data.toList).toArray⟩):=by apply zDv;apply zCu.1;simp[zEo]
 go_enter (Qz.fn func133),ntmps133;go_wp2;rw[e.out];go_ret;exact⟨rfl,rfl⟩
def sM (a b)(w)(h:a.size<=1000)(d:b.size<=1000):Calls zq 127 #[aK a,aK b] w λe c=>e=aL (aK ⟨(1::(a.data.toList++b.data.toList)).toArray⟩)/\c=w:=by
 have e:Hid ((⟨#[1]⟩:ByteArray)++a++b=⟨(1::(a.data.toList++b.data.toList)).toArray⟩):=by apply zDv;apply zCu.1;simp[zEo]
 go_enter (Qz.fn func127),ntmps127;go_wp2;rw[e.out];go_ret;exact⟨rfl,rfl⟩
def sL (a b)(w)(h:a.size<=1000)(d:b.size<=1000):Calls zq 118 #[aK a,aK b] w λe c=>e=aL (aK ⟨(2::(a.data.toList++b.data.toList)).toArray⟩)/\c=w:=by
 have e:Hid ((⟨#[2]⟩:ByteArray)++a++b=⟨(2::(a.data.toList++b.data.toList)).toArray⟩):=by apply zDv;apply zCu.1;simp[zEo]
 go_enter (Qz.fn func118),ntmps118;go_wp2;rw[e.out];go_ret;exact⟨rfl,rfl⟩
def Bb (s)(d:Nat)(w)(hs:s.size<=65536):
  Calls zq 81 #[aK s,aC aD d] w λe m=>m=w/\∃b:Bool,e=aL (.bool b)/\(b=aE->∃i,d<=i/\i<8*s.size/\bP s.data.toList i=1)/\(b=aF->∀i,d<=i->i<8*s.size->bP s.data.toList i=0):=by
 go_enter (Qz.fn func81),ntmps81;go_wp2_with fail;go_loopg [5] (8*s.size-d) (λq i wr=>∃j:Nat,(8*s.size-j)=q/\d<=j/\i=aC aD (j:Int)/\(∀i,d<=i->i<j->bP s.data.toList i=0)/\wr=w);case atStart=>exact⟨d,rfl,zAa _,rfl,λi a l=>by omega,rfl⟩
 case round=>
  obtain⟨j,o,n,rfl,c0,rfl⟩:=hrel
  have C:=hid c0
  by_cases bX:j<8*s.size
  .go_wp2_with fail;refine(lE s j wr (by omega) (by omega) (by omega)).mono ?_;rintro e w2 ⟨rfl,c⟩;obtain rfl:wr=w2:=c.symm;have k:=jH s.data.toList j;generalize g:bP s.data.toList j=b at*;have H:=hid g;obtain rfl|rfl:=k
   .go_wp2;go_roundg (8*s.size-(j+1));case measure=>omega
    case rel=>
     go_light
     refine⟨j+1,rfl,by omega,by go_num,λi a l=> ?_,rfl⟩
     by_cases f:i=j
     .rw[f];exact H.out
     .exact C.out i a (by omega)
   .go_wp2;go_ret;exact⟨rfl,aE,rfl,λ_=>⟨j,n,bX,H.out⟩,(λh=>by cases h)⟩
  .go_wp2;go_ret;exact⟨rfl,aF,rfl,(λh=>by cases h),λ_ i a l=>C.out i a (by omega)⟩
def LG (s t)(d:Nat)(w)(hs:s.size=32)(x:t.size=32)(z:d<=256):
  Calls zq 83 #[aK s,aK t,aC aD d] w λe r=>r=w/\∃b:Bool,e=aL (.bool b)/\(b=aE↔∀i,i<d->bP s.data.toList i=bP t.data.toList i):=by
 go_enter (Qz.fn func83),ntmps83;go_wp2_with fail;go_loopg [9] d (λq i wr=>∃j:Nat,j+q=d/\i=aC aD (j:Int)/\(∀i,i<j->bP s.data.toList i=bP t.data.toList i)/\wr=w);case atStart=>exact⟨0,by omega,rfl,λi h=>by omega,rfl⟩
 case round=>
  obtain⟨j,y,rfl,c0,rfl⟩:=hrel
  have C:=hid c0
  by_cases bX:j<d
  .go_wp2_with fail;refine(lE s j wr (by omega) (by omega) (by omega)).mono ?_;rintro e w2 ⟨rfl,a⟩;obtain rfl:wr=w2:=a.symm;have p:=jH s.data.toList j;generalize o:bP s.data.toList j=b at*;have m:=hid o;go_wp2_with fail;refine(lE t j wr (by omega) (by omega) (by omega)).mono ?_;rintro e w2 ⟨rfl,a⟩;obtain rfl:wr=w2:=a.symm;have k:=jH t.data.toList j;generalize g:bP t.data.toList j=c at*;have H:=hid g;by_cases f:b=c
   .subst f;go_wp2;go_roundg (d-(j+1));case measure=>omega
    case rel=>
     go_light
     refine⟨j+1,by omega,by go_num,λi h=> ?_,rfl⟩
     by_cases n:i=j
     .rw[n,m.out,H.out]
     .exact C.out i (by omega)
   .have v:(decide (b=1)==decide (c=1))=aF:=by{obtain rfl|rfl:=p<;>obtain rfl|rfl:=k<;>first|rfl|exact absurd rfl f};have l:=hid f;have u:(decide (b=1)!=decide (c=1))=aE:=by{simp only[bne,v];rfl};go_wp2;go_ret;refine⟨rfl,aF,rfl,(λh=>by cases h),λh=> ?_⟩;have:=h j bX;rw[m.out,H.out]at this;exact absurd this l.out
  .go_wp2;go_ret;exact⟨rfl,aE,rfl,λ_=>λi h=>C.out i (by omega),λ_=>rfl⟩
def bF (k d:Nat)(v:zY)(a b c:zB):zA:= #[aC aD (k:Int),aC aD (d:Int),v,aK ⟨a.toArray⟩,aK ⟨b.toArray⟩,aK ⟨c.toArray⟩]
def OU (k:Nat)(w)(b:1<=k)(a:k<=32)(d:fJ w):
  Calls zq 79 #[aC aD k] w λe c=>e=aL (aK ⟨(dg k [0]).toArray⟩)/\zb w c:=by
 have H:=hid d;go_enter (Qz.fn func79),ntmps79;go_wp2_with fail;refine(wK w).mono ?_;rintro e w2 ⟨rfl,h⟩;obtain rfl:w=w2:=h.symm;go_wp2_with fail;refine(sK k ⟨#[0]⟩ w b a (by decide) H.out).mono ?_;rintro e w3 ⟨rfl,hb⟩;have f:=hid hb;go_wp2;go_ret;exact⟨rfl,f.out⟩
def CJ (k:Nat)(a)(w)(c:1<=k)(b:k<=32)(d:a.size<=1000)(i:fJ w):
  Calls zq 128 #[aC aD k,aK a] w λe f=>e=aL (aK ⟨(dg k (4::a.data.toList)).toArray⟩)/\zb w f:=by
 have j:=hid i;go_enter (Qz.fn func128),ntmps128;go_wp2_with fail;refine(MB a w d).mono ?_;rintro e w2 ⟨rfl,h⟩;obtain rfl:w=w2:=h.symm;have hl:(4::a.data.toList).length<=1001:=by simp;exact d
 generalize g:4::a.data.toList=Y at*;have H:=hid g;go_wp2_with fail;refine(sK k ⟨Y.toArray⟩ w c b (by show Y.length<=_;omega) j.out).mono ?_;rintro e w3 ⟨rfl,hb⟩;have l:=hid hb;go_wp2;go_ret;exact⟨by rw[<-H.out];rfl,l.out⟩
def Xa (k)(idx)(p:PW)(v)(w)(n:1<=k)(j:k<=32)(hi:idx.size=32)(g:p.Ok k)(s:fJ w):
  Calls zq 117 #[.agg (bF k p.kind v p.value p.other p.dI),aK idx] w λe t=>e=aL (aK ⟨(p.fT k idx.data.toList).toArray⟩)/\zb w t:=by
 obtain⟨d,S,a,b,c⟩:=p;have A:=g.value;have y:=g.other;have z:=g.dI;have u:d<=2:=g.kind;clear g;have m:Hid (zb w (w.alloc (aI (bF k d v a b c) 112))):=(zGn _ _).alloc (zAa _) _;have f:Hid (bW (w.alloc (aI (bF k d v a b c) 112)) w.heap.size 112 (bF k d v a b c)):=bW.new _ _ _;have t0:=hid (s.below m.out (zAa _));clear s;dsimp only;go_enter (Qz.fn func117),ntmps117;go_upto_region 1 with(fail)
 generalize w.alloc (aI (bF k d v a b c) 112)=w0 at*;have F:w0.cell? ⟨w.heap.size,0,aB⟩=aA (aC aD (k:Int)):=by rw[f.out.cell];rfl
 have E:w0.cell? ⟨w.heap.size,1,aB⟩=aA (aC aD (d:Int)):=by rw[f.out.cell];rfl
 have D:w0.cell? ⟨w.heap.size,3,aB⟩=aA (aK ⟨a.toArray⟩):=by rw[f.out.cell];rfl
 have C:w0.cell? ⟨w.heap.size,4,aB⟩=aA (aK ⟨b.toArray⟩):=by rw[f.out.cell];rfl
 have B:w0.cell? ⟨w.heap.size,5,aB⟩=aA (aK ⟨c.toArray⟩):=by rw[f.out.cell];rfl
 obtain o|l|i:d=0\/d=1\/d=2:=by omega
 .subst o;go_wp2_with fail;refine(wK w0).mono ?_;rintro e w2 ⟨rfl,h⟩;obtain rfl:w0=w2:=h.symm;clear h;go_wp2;go_ret;exact⟨by rw[PW.fT];simp,m.out⟩
 .subst l;go_wp2_with fail;refine(CJ k ⟨a.toArray⟩ w0 n j (by show a.length<=_;omega) t0.out).mono ?_;rintro e w2 ⟨rfl,h⟩;have H:=hid (m.out.trans (h.mono m.out.size));clear h;have x:(dg k (4::(⟨a.toArray⟩:ByteArray).data.toList)).length=k:=dW k _ j;generalize r:dg k (4::(⟨a.toArray⟩:ByteArray).data.toList)=Y at*;have q:=hid r.symm;clear r;go_wp2_with fail;refine(sM idx ⟨Y.toArray⟩ w2 (by omega) (by show Y.length<=_;omega)).mono ?_;rintro e w3 ⟨rfl,h⟩;obtain rfl:w2=w3:=h.symm;clear h;go_wp2;go_ret;exact⟨by rw[PW.fT];simp[q.out],H.out⟩
 .subst i;go_wp2_with fail;refine(sM ⟨b.toArray⟩ ⟨c.toArray⟩ w0 (by show b.length<=_;omega) (by show c.length<=_;omega)).mono ?_;rintro e w3 ⟨rfl,h⟩;obtain rfl:w0=w3:=h.symm;clear h;go_wp2;go_ret;exact⟨by rw[PW.fT];simp,m.out⟩
def bD {B w w1 w2}(h:Below B w w1)(b:zb w1 w2)(a:B<=w1.heap.size):Hid (Below B w w2):=h.trans (b.mono a)
def xC (k:Nat)(I:zB)(p:PW)(n j:Nat)(cs:zA):Prop:=cs.size=n+1/\∀i,n-j<=i->i<=n->cs[i]? =aA (aK ⟨(p.iO k I i).toArray⟩)
def xC.step {k I p n j t cs}(h:xC k I p n j cs)(c:n-(j+1)=t)(d:j<n){x}(a:p.iO k I t=x):xC k I p n (j+1) (cs.setIfInBounds t (aK ⟨x.toArray⟩)):=by
 refine⟨by rw[zCq];exact h.1,λi f b=> ?_⟩;rw[zBm];by_cases e:t=i
 .subst e;rw[zAl rfl,zAl (by rw[h.1];omega),a]
 .rw[zAj e];exact h.2 i (by omega) b
def xC.all {k I p n cs}(h:xC k I p n n cs):cs=((List.range (n+1)).map λi=>Value.string ⟨(p.iO k I i).toArray⟩).toArray:=by
 apply zBu;intro i;by_cases hi:i<=n
 .rw[h.2 i (by omega) hi];simp[show i<n+1 by omega]
 .rw[zBf (by rw[h.1];omega),zBf (by simp;omega)]
def iM (n:Nat):zA:=madeCells #[aK ⟨#[]⟩] (n+1)
def Be (n:Nat)(d:n<=256)(W):(Instr.makeSlice 82 (aC aD ((n)+1)) (aC aD ((n)+1))).run zq W= .ok (aJ (aA ⟨W.heap.size,0,aB⟩) (n+1) (n+1)) (W.alloc (aI (iM n) 9)):=by obtain⟨i,c,b,a,h⟩:=TC;have:=run_make W 82 9 i (aK ⟨#[]⟩) ((Qz.eH 82).trans underlying82) c b aD aD ((n:Int)+1) ((n:Int)+1) (by omega) (Int.le_refl _) (by rw[h];omega) (by omega);rw[this,a,zEv,show((n:Int)+1).toNat=n+1 from by omega];rfl
def VG (n i)(h:i<=n):(iM n)[i]? =aA (aK ⟨#[]⟩):=by rw[iM,<-zBr,toList_madeCells_one,zFv,zAl (by omega)]
def yP (n):(iM n).size=n+1:=size_madeCells _ _
def Hg (k)(idx)(p:PW)(v)(base)(w)(E:1<=k)(u:k<=32)(hi:idx.size=32)(A:p.Ok k)(hT:fJ w)
  (m:Own w base 9 v p.bJ.length (p.bJ.map λx=>aK ⟨x.toArray⟩)):
  Calls zq 99 #[.agg (bF k p.kind v p.value p.other p.dI),aK idx] w λe w'=>zb w w'/\∃g,e=aL (aJ (aA ⟨g,0,aB⟩) (p.bJ.length+1) (p.bJ.length+1))/\
   w.heap.size<=g/\bW w' g 9 ((List.range (p.bJ.length+1)).map λi=>aK ⟨(p.iO k idx.data.toList i).toArray⟩).toArray:=by
 generalize hI:idx.data.toList=I at*;have HI:=hid hI;have HIl:Hid (I.length=32):=by show _=_;rw[<-hI,zCp];exact hi
 have H:=hid A;obtain⟨f,S,a,b,c⟩:=p;have hSl:S.length<=256:=A.depth;clear A;obtain⟨o,cap,rfl⟩:∃o cap,v=aJ o S.length cap:=by obtain⟨rfl,h0⟩|⟨g,cap,_,_,rfl,_⟩:=m.2;{exact⟨aB,0,by rw[h0]⟩};{exact⟨_,cap,rfl⟩}
 have o0:Hid (Own (w.alloc (aI (bF k f (aJ o S.length cap) a b c) 112)) base 9 (aJ o S.length cap) S.length (S.map λx=>aK ⟨x.toArray⟩)):=m.alloc _;have b0:Hid (zb w (w.alloc (aI (bF k f (aJ o S.length cap) a b c) 112))):=(zGn _ _).alloc (zAa _) _;have P:Hid (bW (w.alloc (aI (bF k f (aJ o S.length cap) a b c) 112)) w.heap.size 112 (bF k f (aJ o S.length cap) a b c)):=bW.new _ _ _;have HT:=hid hT;have HG:Hid (∀g,(Value.slice o S.length cap).ownBlock=aA g->g<w.heap.size):=λg y=>(m.lt g y).2;clear hT m;have Fb:=Be S.length hSl;dsimp only;go_enter (Qz.fn func99),ntmps99;go_upto_region 1 with(fail)
 generalize w.alloc (aI (bF k f (aJ o S.length cap) a b c) 112)=w0 at*;have hG:=P.out.lt;have e2:w0.cell? ⟨w.heap.size,2,aB⟩=aA (aJ o S.length cap):=by rw[P.out.cell];rfl
 go_upto_region 3 with(fail)
 clear e2;have o1:Hid (Own (w0.alloc (aI (iM S.length) 9)) base 9 (aJ o S.length cap) S.length (S.map λx=>aK ⟨x.toArray⟩)):=o0.out.alloc _;have Q:Hid (zb w (w0.alloc (aI (iM S.length) 9))):=b0.out.alloc b0.out.size _;have k1:Hid (bW (w0.alloc (aI (iM S.length) 9)) w.heap.size 112 (bF k f (aJ o S.length cap) a b c)):=P.out.alloc _;have t1:Hid (bW (w0.alloc (aI (iM S.length) 9)) w0.heap.size 9 (iM S.length)):=bW.new _ _ _;clear o0 b0 P;generalize w0.alloc (aI (iM S.length) 9)=w1 at*;generalize w0.heap.size=G at*;have T1:Hid (fJ w1):=HT.out.below Q.out (zAa _);go_wp2_with (first
  |refine zGv rfl 112 _ rfl w.heap.size rfl _ _ _ _ k1.out ((Qz.eH 112).trans underlying112) rfl (by kernel_rfl) ?_
  |fail)
 refine(Xa k idx ⟨f,S,a,b,c⟩ (aJ o S.length cap) w1 E u hi H.out T1.out).mono ?_;rintro e w2 ⟨rfl,r⟩;rw[HI.out];have b2:=bD Q.out r Q.out.size;have k2:Hid (bW w2 w.heap.size 112 (bF k f (aJ o S.length cap) a b c)):=k1.out.below r k1.out.lt;have t2:Hid (bW w2 G 9 (iM S.length)):=t1.out.below r t1.out.lt;have o2:Hid (Own w2 base 9 (aJ o S.length cap) S.length (S.map λx=>aK ⟨x.toArray⟩)):=o1.out.below r (zAa _);clear r Q k1 t1 o1 T1;have e1:w2.cell? ⟨G,S.length,aB⟩=aA (aK ⟨#[]⟩):=by rw[t2.out.cell];exact VG _ _ (zAa _)
 have f1:w2.frozen? ⟨G,S.length,aB⟩=aF:=t2.out.frozen _;have pw:((S.length:Nat):Int)<((S.length+1:Nat):Int):=by omega
 go_upto_region 4 with(fail)
 have b3:Hid (zb w (w2.setCell ⟨G,S.length,aB⟩ (aK ⟨(PW.fT k I ⟨f,S,a,b,c⟩).toArray⟩))):=b2.out.setCell (by simp only;omega) _;have k3:Hid (bW (w2.setCell ⟨G,S.length,aB⟩ (aK ⟨(PW.fT k I ⟨f,S,a,b,c⟩).toArray⟩)) w.heap.size 112 (bF k f (aJ o S.length cap) a b c)):=k2.out.bN _ _ (by simp only;omega);have t3:Hid (bW (w2.setCell ⟨G,S.length,aB⟩ (aK ⟨(PW.fT k I ⟨f,S,a,b,c⟩).toArray⟩)) G 9 ((iM S.length).setIfInBounds S.length (aK ⟨(PW.fT k I ⟨f,S,a,b,c⟩).toArray⟩))):=t2.out.cO _ _;have o3:Hid (Own (w2.setCell ⟨G,S.length,aB⟩ (aK ⟨(PW.fT k I ⟨f,S,a,b,c⟩).toArray⟩)) base 9 (aJ o S.length cap) S.length (S.map λx=>aK ⟨x.toArray⟩)):=o2.out.kept λg y=>zGq _ _ _ _ (by have:=HG.out g y;simp only;omega);have F3:Hid (xC k I ⟨f,S,a,b,c⟩ S.length 0 ((iM S.length).setIfInBounds S.length (aK ⟨(PW.fT k I ⟨f,S,a,b,c⟩).toArray⟩))):=by refine⟨by rw[zCq];exact yP _,λi h1 h2=> ?_⟩;obtain rfl:i=S.length:=by{omega};rw[zBm,zAl rfl,zAl (by rw[yP];omega)];simp only[PW.iO,zGf];rfl
 clear e1 f1 pw b2 k2 t2 o2 Fb;generalize(iM S.length).setIfInBounds S.length (aK ⟨(PW.fT k I ⟨f,S,a,b,c⟩).toArray⟩)=cs0 at*;generalize w2.setCell ⟨G,S.length,aB⟩ (aK ⟨(PW.fT k I ⟨f,S,a,b,c⟩).toArray⟩)=w3 at*;go_wp2;go_loopg [7] S.length (λq x wr=>∃(j:Nat)(cs:zA),j+q=S.length/\x=aC aD ((S.length:Int)-1-(j:Int))/\xC k I ⟨f,S,a,b,c⟩ S.length j cs/\zb w wr/\bW wr w.heap.size 112 (bF k f (aJ o S.length cap) a b c)/\bW wr G 9 cs/\Own wr base 9 (aJ o S.length cap) S.length (S.map λx=>aK ⟨x.toArray⟩));case atStart=>exact⟨0,cs0,by omega,by go_num,F3.out,b3.out,k3.out,t3.out,o3.out⟩
 case round=>
  obtain⟨j,cs,hj,rfl,c0,c1,c2,c3,c4⟩:=hrel
  clear F3 b3 k3 t3 o3
  have N:=hid c0
  have R:=hid c1
  have M:=hid c2
  have C:=hid c3
  have C4:=hid c4
  have CT:Hid (fJ wr):=HT.out.below c1 (zAa _)
  clear c0 c1 c2 c3 c4
  by_cases bX:j<S.length
  .obtain⟨t,ht⟩:∃t:Nat,t=S.length-1-j:=⟨_,rfl⟩;have D:(S.length:Int)-1-(j:Int)=(t:Int):=by{omega};rw[D];have L:=hid ht;have s:t<S.length:=by{omega};have K:Hid ((t:Int)-1=(S.length:Int)-1-((j+1:Nat):Int)):=by{show _=_;omega};have J:Hid (PW.iO k I ⟨f,S,a,b,c⟩ (t+1)=PW.up k I ⟨f,S,a,b,c⟩ j):=by{show _=_;rw[PW.iO];exact congrArg (PW.up k I ⟨f,S,a,b,c⟩) (show S.length-(t+1)=j by omega)};have z:Hid (PW.iO k I ⟨f,S,a,b,c⟩ t=PW.up k I ⟨f,S,a,b,c⟩ (j+1)):=by show _=_;rw[PW.iO];exact congrArg (PW.up k I ⟨f,S,a,b,c⟩) (show S.length-t=j+1 by omega)
   clear ht D;have hul:(PW.up k I ⟨f,S,a,b,c⟩ j).length<=65:=MJ k I _ u HIl.out H.out j (by show j<=S.length;omega);have HH:Hid (∀(d:Nat)(os:zJ),Calls zq 53 #[aC aD k,aK ⟨(PW.up k I ⟨f,S,a,b,c⟩ j).toArray⟩] (Go.Sort.grow (redrawn wr d) os) λe T=>e=aL (aK ⟨(dg k (PW.up k I ⟨f,S,a,b,c⟩ j)).toArray⟩)/\∃p:Regrown,T=Go.Sort.grow (redrawn wr p.d) p.os):=λd os=>
    zHi (sK k _ _ E u (by show(PW.up k I ⟨f,S,a,b,c⟩ j).length<=_;omega) (CT.out.below (zGu wr d os) (zAa _)))
   have e0:∀(d:Nat)(os:zJ),(Go.Sort.grow (redrawn wr d) os).cell? ⟨w.heap.size,0,aB⟩=aA (aC aD (k:Int)):=λd os=>((M.out.below (zGu wr d os) M.out.lt).cell 0).trans rfl;have eT:∀(d:Nat)(os:zJ),(Go.Sort.grow (redrawn wr d) os).cell? ⟨G,t+1,aB⟩=aA (aK ⟨(PW.up k I ⟨f,S,a,b,c⟩ j).toArray⟩):=λd os=>by rw[(C.out.below (zGu wr d os) C.out.lt).cell,N.out.2 (t+1) (by have:=L.out;omega) (by omega),J.out]
   have U0:Hid (bP I t=0->PW.iO k I ⟨f,S,a,b,c⟩ t=2::(dg k (PW.up k I ⟨f,S,a,b,c⟩ j)++S.getD t [])):=λh=>by rw[z.out];rw[L.out]at h⊢;rw[PW.up,zAl h]
   have U1:Hid (bP I t=1->PW.iO k I ⟨f,S,a,b,c⟩ t=2::(S.getD t []++dg k (PW.up k I ⟨f,S,a,b,c⟩ j))):=λh=>by rw[z.out];rw[L.out]at h⊢;rw[PW.up];dsimp only;rw[zAj (by omega)]
   have pe:(S.getD t []).length<=32:=by rw[zBe,zAe s];have:=H.out.iq _ (zCt (l:=S) s);simp only[zCs];omega
   have bq:(dg k (PW.up k I ⟨f,S,a,b,c⟩ j)).length=k:=dW k _ u;clear z J;generalize dg k (PW.up k I ⟨f,S,a,b,c⟩ j)=Y at*;generalize PW.up k I ⟨f,S,a,b,c⟩ j=U at*;generalize hZ:S.getD t []=Z at*;have HZ:=hid hZ;clear hZ;have we:=jH I t;go_wp2;refine zHb (by kernel_rfl) (by kernel_rfl) ?_;(repeat (any_goals(first|go_big_quiet_step ((exact HH.out _ _))|quiet_step ((exact HH.out _ _)))));refine zHj ?_;intro W V;obtain⟨p,A⟩:=V;have F:Hid (zb wr W):=by rw[A];exact zGu wr p.d p.os
   clear A HH e0 eT;have B1:=bD R.out F.out R.out.size;have K1:Hid (bW W w.heap.size 112 (bF k f (aJ o S.length cap) a b c)):=M.out.below F.out M.out.lt;have t1:Hid (bW W G 9 cs):=C.out.below F.out C.out.lt;have O:Hid (Own W base 9 (aJ o S.length cap) S.length (S.map λx=>aK ⟨x.toArray⟩)):=C4.out.below F.out (zAa _);clear R M C C4 CT F;obtain⟨g,cap',ho⟩:=O.out.form (by omega);injection ho with ho1 pq X;subst ho1;subst X;clear pq;have e2:W.cell? ⟨w.heap.size,2,aB⟩=aA (aJ (aA ⟨g,0,aB⟩) S.length cap):=(K1.out.cell 2).trans rfl;have eS:W.cell? ⟨g,t,aB⟩=aA (aK ⟨Z.toArray⟩):=by rw[O.out.cell t s,<-HZ.out];simp[s]
   obtain⟨_,vu,fE⟩:=O.out.base;obtain⟨x,hx⟩:∃x,cs[t]? =aA x:=⟨_,zAk (by have:=N.out.1;omega)⟩;have eG:W.cell? ⟨G,t,aB⟩=aA x:=by{rw[t1.out.cell];exact hx};have fG:W.frozen? ⟨G,t,aB⟩=aF:=t1.out.frozen _;clear hx;go_wp2_with fail;refine(lE idx t W (by rw[hi];omega) (by rw[hi];omega) (by omega)).mono ?_;rw[HI.out];rintro e w2 ⟨rfl,B⟩;obtain rfl:W=w2:=B.symm;clear B;generalize bP I t=x at*;obtain rfl|rfl:=we
   .have hq:decide (0=1)=aF:=by{decide};go_wp2_with fail;refine(sL ⟨Y.toArray⟩ ⟨Z.toArray⟩ W (by show _<=1000;simp only[zAq,aG2];omega) (by show _<=1000;simp only[zAq,aG2];omega)).mono ?_;rintro e w4 ⟨rfl,n⟩;obtain rfl:W=w4:=n.symm;clear n;go_wp2;go_roundg (S.length-(j+1));case measure=>omega
    case rel=>
     go_light
     refine⟨j+1,_,by omega,by rw[<-K.out],N.out.step (t:=t) (by have:=L.out;omega) bX (U0.out (by first|trivial|rfl)),B1.out.setCell (by simp only;omega) _,K1.out.bN _ _ (by simp only;omega),t1.out.cO _ _,O.out.kept λg y=>zGq _ _ _ _ (by have:=HG.out g y;simp only;omega)⟩
   .have hq:decide (1=1)=aE:=rfl;go_wp2_with fail;refine(sL ⟨Z.toArray⟩ ⟨Y.toArray⟩ W (by show _<=1000;simp only[zAq,aG2];omega) (by show _<=1000;simp only[zAq,aG2];omega)).mono ?_;rintro e w4 ⟨rfl,n⟩;obtain rfl:W=w4:=n.symm;clear n;go_wp2;go_roundg (S.length-(j+1));case measure=>omega
    case rel=>
     go_light
     refine⟨j+1,_,by omega,by rw[<-K.out],N.out.step (t:=t) (by have:=L.out;omega) bX (U1.out (by first|trivial|rfl)),B1.out.setCell (by simp only;omega) _,K1.out.bN _ _ (by simp only;omega),t1.out.cO _ _,O.out.kept λg y=>zGq _ _ _ _ (by have:=HG.out g y;simp only;omega)⟩
  .obtain rfl:j=S.length:=by{omega};go_wp2;go_ret;refine⟨R.out,G,rfl,by omega,?_⟩;have:=C.out;rw[N.out.all]at this;exact this
def BL (k)(idx)(p:PW)(v)(base)(w)(f:1<=k)(b:k<=32)(hi:idx.size=32)(C:p.Ok k)(E:fJ w)
  (d:Own w base 9 v p.bJ.length (p.bJ.map λx=>aK ⟨x.toArray⟩)):
  Calls zq 84 #[.agg (bF k p.kind v p.value p.other p.dI),aK idx] w λe r=>e=aL (aK ⟨(p.root k idx.data.toList).toArray⟩)/\zb w r:=by
 have H:=hid C;have n:=hid E;have J:=hid d;have a:Hid (bW (w.alloc (aI (bF k p.kind v p.value p.other p.dI) 112)) w.heap.size 112 (bF k p.kind v p.value p.other p.dI)):=bW.new _ _ _;have m:Hid (zb w (w.alloc (aI (bF k p.kind v p.value p.other p.dI) 112))):=(zGn _ _).alloc (zAa _) _;have A:Hid (Own (w.alloc (aI (bF k p.kind v p.value p.other p.dI) 112)) base 9 v p.bJ.length (p.bJ.map λx=>aK ⟨x.toArray⟩)):=J.out.alloc _;go_enter (Qz.fn func84),ntmps84;go_upto_region 1 with(fail)
 generalize w.alloc (aI (bF k p.kind v p.value p.other p.dI) 112)=w0 at*;have R:=hid (n.out.below m.out (zAa _));have Q:w0.cell? ⟨w.heap.size,0,aB⟩=aA (aC aD (k:Int)):=by rw[a.out.cell];rfl
 have bX:=a.out.lt;have F:idx.data.toList.length=32:=by rw[zCp];exact hi
 have B:(p.iO k idx.data.toList 0).length<=65:=MJ k _ p b F H.out _ (by omega);have h:Hid (p.root k idx.data.toList=dg k (p.iO k idx.data.toList 0)):=rfl;have P:w0.cell? ⟨w.heap.size,1,aB⟩=aA (aC aD (p.kind:Int)):=by rw[a.out.cell];rfl
 have O:w0.cell? ⟨w.heap.size,2,aB⟩=aA v:=by rw[a.out.cell];rfl
 have N:w0.cell? ⟨w.heap.size,3,aB⟩=aA (aK ⟨p.value.toArray⟩):=by rw[a.out.cell];rfl
 have M:w0.cell? ⟨w.heap.size,4,aB⟩=aA (aK ⟨p.other.toArray⟩):=by rw[a.out.cell];rfl
 have L:w0.cell? ⟨w.heap.size,5,aB⟩=aA (aK ⟨p.dI.toArray⟩):=by rw[a.out.cell];rfl
 have T:=hid (n.out.below m.out.drew (zAa _));have o:Hid (Own w0.drew base 9 v p.bJ.length (p.bJ.map λx=>aK ⟨x.toArray⟩)):=A.out.kept λ_ _=>rfl;have i:Hid (zb w w0.drew):=m.out.drew;have j:Hid (bW w0.drew w.heap.size 112 (bF k p.kind v p.value p.other p.dI)):=a.out;go_region_with (first
   |(go_at_call 99;refine(Hg k idx p v base w0.drew f b hi H.out T.out o.out).mono ?_;rintro e w1 ⟨hb,g,rfl,D,q⟩;
     have k1:Hid (bW w1 w.heap.size 112 (bF k p.kind v p.value p.other p.dI)):=j.out.below hb bX;
     have l:Hid (zb w w1):=i.out.trans (hb.mono i.out.size);
     have I:Hid (fJ w1):=n.out.below l.out (zAa _);
     have K:w1.cell? ⟨g,0,aB⟩=aA (aK ⟨(p.iO k idx.data.toList 0).toArray⟩):=(q.cell 0).trans (by simp);
     clear hb D q;
     have q0:w1.cell? ⟨w.heap.size,0,aB⟩=aA (aC aD (k:Int)):=(k1.out.cell 0).trans rfl;
     have z:w1.cell? ⟨w.heap.size,1,aB⟩=aA (aC aD (p.kind:Int)):=(k1.out.cell 1).trans rfl;
     have y:w1.cell? ⟨w.heap.size,2,aB⟩=aA v:=(k1.out.cell 2).trans rfl;
     have u:w1.cell? ⟨w.heap.size,3,aB⟩=aA (aK ⟨p.value.toArray⟩):=(k1.out.cell 3).trans rfl;
     have t:w1.cell? ⟨w.heap.size,4,aB⟩=aA (aK ⟨p.other.toArray⟩):=(k1.out.cell 4).trans rfl;
     have s:w1.cell? ⟨w.heap.size,5,aB⟩=aA (aK ⟨p.dI.toArray⟩):=(k1.out.cell 5).trans rfl)
   |(go_at_call 53;refine(sK k ⟨(p.iO k idx.data.toList 0).toArray⟩ _ f b (by show(p.iO k idx.data.toList 0).length<=_;omega) I.out).mono ?_;rintro e w2 ⟨rfl,c⟩;
     have k2:Hid (bW w2 w.heap.size 112 (bF k p.kind v p.value p.other p.dI)):=k1.out.below c k1.out.lt;
     have G:Hid (zb w w2):=l.out.trans (c.mono l.out.size);
     clear c;
     have q0:w2.cell? ⟨w.heap.size,0,aB⟩=aA (aC aD (k:Int)):=(k2.out.cell 0).trans rfl;
     have z:w2.cell? ⟨w.heap.size,1,aB⟩=aA (aC aD (p.kind:Int)):=(k2.out.cell 1).trans rfl;
     have y:w2.cell? ⟨w.heap.size,2,aB⟩=aA v:=(k2.out.cell 2).trans rfl;
     have u:w2.cell? ⟨w.heap.size,3,aB⟩=aA (aK ⟨p.value.toArray⟩):=(k2.out.cell 3).trans rfl;
     have t:w2.cell? ⟨w.heap.size,4,aB⟩=aA (aK ⟨p.other.toArray⟩):=(k2.out.cell 4).trans rfl;
     have s:w2.cell? ⟨w.heap.size,5,aB⟩=aA (aK ⟨p.dI.toArray⟩):=(k2.out.cell 5).trans rfl))
 all_goals
  go_wp2
  go_ret
  exact⟨by rw[h.out];rfl,G.out⟩
def cZ:zA:= #[aC aD 0,aC aD 0,aJ aB 0 0,aK ⟨#[]⟩,aK ⟨#[]⟩,aK ⟨#[]⟩]
def OS (root idx s:zB)(w:zW)(e:Ending)(w':zW):Prop:=
 zb w w'/\
 ((bT root idx s≠0/\e=aL (.tuple #[.agg cZ,aC aD (bT root idx s:Nat)]))\/
  ∃p v,bT root idx s=0/\parse root.length idx s=aA p/\p.root root.length idx=root/\e=aL (.tuple #[.agg (bF root.length p.kind v p.value p.other p.dI),aC aD 0])/\Own w' w.heap.size 9 v p.bJ.length (p.bJ.map λx=>aK ⟨x.toArray⟩))
def Ai {root idx s:zB}{w w':zW}{n:Nat}(h:bT root idx s=n)(a:n≠0)(b:zb w w'):OS root idx s w (aL (.tuple #[.agg cZ,aC aD (n:Int)])) w':=
 ⟨b,aG ⟨by rw[h];exact a,by rw[h]⟩⟩
def QE {w base e v n xs}(h:Own w base e v n xs){k kd a b c}:(bF k kd v a b c).all (·.oneCell')=aE:=by obtain⟨rfl,_⟩|⟨g,cap,_,_,rfl,_⟩:=h.2<;>simp[bF,Value.oneCell']
def Pk (a b:Nat)(f:a<256)(e:b<256):bits .or aD ((a)*256) (b)=256*(a)+(b):=by
 have d:((a:Int)*256%((2^64:Nat):Int)).toNat=a<<<8:=by rw[Nat.shiftLeft_eq];omega
 have c:((b:Int)%((2^64:Nat):Int)).toNat=b:=by omega
 have h:a<<<8|||b=a*256+b:=by rw[<-Nat.shiftLeft_add_eq_or_of_lt (by omega:b<2^8),Nat.shiftLeft_eq]
 unfold bits;simp only[BitVec.toNat_or,BitVec.toNat_ofInt];rw[zGs,show IntKind.i64.bits=64 from rfl,d,c,h];omega
def Jump (root idx s:zB)(w:zW)(a:Act)(w':zW):Prop:=
 a.defers=[]/\a.tmps.size=146/\a.tmps[6]? =aA (aN (aA ⟨w.heap.size,0,aB⟩))/\a.tmps[10]? =aA (aC aD (bT root idx s:Nat))/\bT root idx s≠0/\zb w w'/\bW w' w.heap.size 112 cZ
def Jb (root idx s)(w)(hs:s.size<=140737488351232)(Ml:1<=root.size)(F:root.size<=32)(hi:idx.size=32)(hT:fJ w):
  Calls zq 55 #[aK root,aK idx,aK s] w (OS root.data.toList idx.data.toList s.data.toList w):=by
 have HT:Hid (fJ w):=hT;clear hT;have m:Hid (root.data.toList.length=root.size):=by show _=_;simp
 have fq:Hid (idx.data.toList.length=idx.size):=by show _=_;simp
 have E:Hid (¬(root.data.toList.length<1\/32<root.data.toList.length\/idx.data.toList.length≠32)):=by show¬_;rw[m.out,fq.out];omega
 generalize hk:root.size=k at*;have Hk:Hid (root.size=k):=hk;go_enter (Qz.fn func55),ntmps55;go_upto_region 1 with(fail)
 refine wp_scope_jumps 0 (Jump root.data.toList idx.data.toList s.data.toList w) (λ_ _=>0) rfl ?_ ?_;case refine_2=>
  rintro⟨T,df⟩ W ⟨h0,h1,h2,h3,h4,h5,h6⟩
  obtain rfl:df=[]:=h0
  dsimp only at h1 h2 h3
  have hB:Hid (zb w W):=h5
  have hZ:Hid (bW W w.heap.size 112 cZ):=h6
  have f:Hid (bT root.data.toList idx.data.toList s.data.toList≠0):=h4
  have g6:T[6]'(by omega)=aN (aA ⟨w.heap.size,0,aB⟩):=(zAb.1 h2).2
  have g10:T[10]'(by omega)=aC aD (bT root.data.toList idx.data.toList s.data.toList:Nat):=(zAb.1 h3).2
  clear h2 h3 h4 h5 h6
  generalize hn:bT root.data.toList idx.data.toList s.data.toList=n at*
  have Hn:Hid (bT root.data.toList idx.data.toList s.data.toList=n):=hn
  clear hn
  go_wp2_with (refine zGr rfl 112 _ _ rfl w.heap.size cZ (by simp[Act.eval,h1,g6]) (by simp[Act.eval,h1,cZ]) _ _ hZ.out (by kernel_rfl) rfl (by kernel_rfl) ?_)
  change bodyPost zq f55 _ Exit.ret _ _
  exact zGy (fD results55 _ _ w.heap.size _ _ _ _ (by simp[h1,g6]) (hZ.out.dB _) ((Qz.eH 112).trans underlying112) rfl (by kernel_rfl) (aC aD (n:Int)) (by simp[h1])) rfl (Ai Hn.out f.out (bU hB.out (zAa _) _))
 go_upto_region 2 with(fail)
 have b1:Hid (zb w ((w.alloc (aI cZ 112)).alloc (aI (bF k 0 (aJ aB 0 0) [] [] []) 112))):=((zGn _ _).alloc (zAa _) _).alloc (by simp) _;have b2:Hid (bW ((w.alloc (aI cZ 112)).alloc (aI (bF k 0 (aJ aB 0 0) [] [] []) 112)) w.heap.size 112 cZ):=(bW.new _ _ _).alloc _;have b3:Hid (bW ((w.alloc (aI cZ 112)).alloc (aI (bF k 0 (aJ aB 0 0) [] [] []) 112)) (w.heap.size+1) 112 (bF k 0 (aJ aB 0 0) [] [] [])):=by have:=bW.new (w.alloc (aI cZ 112)) 112 (bF k 0 (aJ aB 0 0) [] [] []);rw[size_alloc]at this;exact this
 have b4:Hid (w.heap.size+2<=((w.alloc (aI cZ 112)).alloc (aI (bF k 0 (aJ aB 0 0) [] [] []) 112)).heap.size):=by show _<=_;rw[size_alloc,size_alloc];omega
 rw[show((w.alloc (aI #[aC aD 0,aC aD 0,aJ aB 0 0,aK ⟨#[]⟩,aK ⟨#[]⟩,aK ⟨#[]⟩] 112)).alloc (aI #[aC aD (k:Int),aC aD 0,aJ aB 0 0,aK ⟨#[]⟩,aK ⟨#[]⟩,aK ⟨#[]⟩] 112))=((w.alloc (aI cZ 112)).alloc (aI (bF k 0 (aJ aB 0 0) [] [] []) 112))from rfl];generalize(w.alloc (aI cZ 112)).alloc (aI (bF k 0 (aJ aB 0 0) [] [] []) 112)=w0 at*;have e0:w0.cell? ⟨w.heap.size+1,0,aB⟩=aA (aC aD (k:Int)):=by rw[b3.out.cell];rfl
 go_wp2_with fail;refine(OU k w0 Ml F (HT.out.below b1.out (zAa _))).mono ?_;rintro e w1 ⟨rfl,P⟩;have c1:=bD b1.out P b1.out.size;have c2:Hid (bW w1 w.heap.size 112 cZ):=b2.out.below P b2.out.lt;have c3:Hid (bW w1 (w.heap.size+1) 112 (bF k 0 (aJ aB 0 0) [] [] [])):=b3.out.below P b3.out.lt;have c4:Hid (w.heap.size+2<=w1.heap.size):=zAv b4.out P.size;clear b1 b2 b3 b4 e0 P;have hDl:(dg k [0]).length=k:=dW k _ F;generalize hD:dg k [0]=D at*;have HD:Hid (dg k [0]=D):=hD;have u:Hid (s.data.toList.length=s.size):=by show _=_;simp
 clear hD;by_cases h3:s.size<3
 .have f:Hid (bT root.data.toList idx.data.toList s.data.toList=2):=dQ E.out (pR (aG (by rw[u.out];exact h3)));go_wp2;go_step3;show 0=0/\Jump root.data.toList idx.data.toList s.data.toList w _ _;exact⟨rfl,rfl,rfl,rfl,by rw[f.out];rfl,by rw[f.out];decide,c1.out,c2.out⟩
 have h3':3<=s.size:=by omega
 have hx0:∀W,(Instr.index 9 (aK s) (aC aD 0)).run zq W= .ok (aC aP ((kindOf s.data.toList:Nat):Int)) W:=JC s 0 (by omega);have fe:∀W,(Instr.index 9 (aK s) (aC aD 1)).run zq W= .ok (aC aP ((s.data.toList.getD 1 0).toNat:Int)) W:=JC s 1 (by omega);have pc:∀W,(Instr.index 9 (aK s) (aC aD 2)).run zq W= .ok (aC aP ((s.data.toList.getD 2 0).toNat:Int)) W:=JC s 2 (by omega);have i3:(3:Int)<=(s.size:Int):=by omega
 have hd:bits .or aD (((s.data.toList.getD 1 0).toNat:Int)*256) ((s.data.toList.getD 2 0).toNat:Int)=((dN s.data.toList:Nat):Int):=by rw[Pk _ _ (s.data.toList.getD 1 0).toNat_lt (s.data.toList.getD 2 0).toNat_lt];unfold dN;omega
 have hn:(((dN s.data.toList:Nat):Int)+7)/8=((cV s.data.toList:Nat):Int):=by unfold cV;omega
 have bq:=Sa s.data.toList;have hnl:cV s.data.toList<8193:=by unfold cV;omega
 have hkl:kindOf s.data.toList<256:=(s.data.toList.getD 0 0).toNat_lt;have P:((s.data.toList.getD 1 0).toNat:Int)<256:=by have:=(s.data.toList.getD 1 0).toNat_lt;omega
 have Bz:((s.data.toList.getD 2 0).toNat:Int)<256:=by have:=(s.data.toList.getD 2 0).toNat_lt;omega
 have qj:0<=((s.data.toList.getD 1 0).toNat:Int):=zEe _;have qi:0<=((s.data.toList.getD 2 0).toNat:Int):=zEe _;generalize((s.data.toList.getD 1 0).toNat:Int)=y1 at*;generalize((s.data.toList.getD 2 0).toNat:Int)=y2 at*;generalize hL:s.data.toList=L at*;have HL:Hid (s.data.toList=L):=hL;clear hL;generalize hI:idx.data.toList=I at*;have HI:Hid (idx.data.toList=I):=hI;clear hI;generalize hR:root.data.toList=l at*;have HR:Hid (root.data.toList=l):=hR;clear hR;generalize bh:kindOf L=p at*;have z:Hid (kindOf L=p):=bh;generalize hdd:dN L=d at*;have J:Hid (dN L=d):=hdd;generalize pw:cV L=n at*;have G:Hid (cV L=n):=pw;clear bh hdd pw;have e1:w1.cell? ⟨w.heap.size+1,1,aB⟩=aA (aC aD 0):=by rw[c3.out.cell];rfl
 have f1:w1.frozen? ⟨w.heap.size+1,1,aB⟩=aF:=c3.out.frozen 1;have e0:w1.cell? ⟨w.heap.size+1,0,aB⟩=aA (aC aD (k:Int)):=by rw[c3.out.cell];rfl
 go_wp2;have v0:IntKind.i64.wrap (p:Int)=(p:Int):=by rw[zGs];omega
 have v1:IntKind.i64.wrap y1=y1:=by rw[zGs];omega
 have v2:IntKind.i64.wrap (y1*256)=y1*256:=by rw[zGs];omega
 have v3:IntKind.i64.wrap y2=y2:=by rw[zGs];omega
 refine wp_region_any (by kernel_rfl) ?_;change wpAny _ _ _ _ _ _ _ (World.drew _);refine zHh (i:=0) (v:=aK s) rfl (by kernel_rfl) (by kernel_rfl) (by kernel_rfl) (λ_ _ _ h=>h) (aG ⟨by rfl,λW=>by go_simp⟩) ?_;simp only[Act.put];refine zHh (i:=1) (v:=aC aP (p:Int)) rfl (by kernel_rfl) (by kernel_rfl) (by kernel_rfl) (λ_ _ _ h=>h) (aG ⟨by rfl,λW=>by go_simp⟩) ?_;simp only[Act.put];refine zHh (i:=2) (v:=aC aD (p:Int)) rfl (by kernel_rfl) (by kernel_rfl) (by kernel_rfl) (λ_ _ _ h=>h) (aG ⟨by rfl,λW=>by go_simp⟩) ?_;simp only[Act.put];refine zHh (i:=3) (v:=aK s) rfl (by kernel_rfl) (by kernel_rfl) (by kernel_rfl) (λ_ _ _ h=>h) (aG ⟨by rfl,λW=>by go_simp⟩) ?_;simp only[Act.put];refine zHh (i:=4) (v:=aC aP y1) rfl (by kernel_rfl) (by kernel_rfl) (by kernel_rfl) (λ_ _ _ h=>h) (aG ⟨by rfl,λW=>by go_simp⟩) ?_;simp only[Act.put];refine zHh (i:=5) (v:=aC aD y1) rfl (by kernel_rfl) (by kernel_rfl) (by kernel_rfl) (λ_ _ _ h=>h) (aG ⟨by rfl,λW=>by go_simp⟩) ?_;simp only[Act.put];refine zHh (i:=6) (v:=aC aD (y1*256)) rfl (by kernel_rfl) (by kernel_rfl) (by kernel_rfl) (λ_ _ _ h=>h) (aG ⟨by rfl,λW=>by go_simp⟩) ?_;simp only[Act.put];refine zHh (i:=7) (v:=aK s) rfl (by kernel_rfl) (by kernel_rfl) (by kernel_rfl) (λ_ _ _ h=>h) (aG ⟨by rfl,λW=>by go_simp⟩) ?_;simp only[Act.put];refine zHh (i:=8) (v:=aC aP y2) rfl (by kernel_rfl) (by kernel_rfl) (by kernel_rfl) (λ_ _ _ h=>h) (aG ⟨by rfl,λW=>by go_simp⟩) ?_;simp only[Act.put];refine zHh (i:=9) (v:=aC aD y2) rfl (by kernel_rfl) (by kernel_rfl) (by kernel_rfl) (λ_ _ _ h=>h) (aG ⟨by rfl,λW=>by go_simp⟩) ?_;simp only[Act.put];refine zHh (i:=10) (v:=aC aD (d:Int)) rfl (by kernel_rfl) (by kernel_rfl) (by kernel_rfl) (λ_ _ _ h=>h) (aG ⟨by rfl,λW=>by go_simp⟩) ?_;simp only[Act.put];refine zHh (i:=11) (v:=aK s) rfl (by kernel_rfl) (by kernel_rfl) (by kernel_rfl) (λ_ _ _ h=>h) (aG ⟨by rfl,λW=>by go_simp⟩) ?_;simp only[Act.put];refine zHh (i:=12) (v:=aK (s.extract 3 s.size)) rfl (by kernel_rfl) (by kernel_rfl) (by kernel_rfl) (λ_ _ _ h=>h) (aG ⟨by rfl,λW=>by go_simp⟩) ?_;simp only[Act.put];refine zHh (i:=13) (v:=aN (aA ⟨w.heap.size+1,1,aB⟩)) rfl (by kernel_rfl) (by kernel_rfl) (by kernel_rfl) (λ_ _ _ h=>h) (aG ⟨by rfl,λW=>by go_simp⟩) ?_;simp only[Act.put];refine wpAny_ready (rs:=[14]) (by kernel_rfl) (by simp) ?_;refine aG5 rfl (λK hK=> ?_) aG6;go_simp;refine hK _ _ ?_;clear hK K;refine wpAny_ready (rs:=[15]) (by kernel_rfl) (by simp) ?_;refine aG5 rfl (λK hK=> ?_) aG6;go_simp;refine hK _ _ ?_;clear hK K;refine wpAny_ready (rs:=[16]) (by kernel_rfl) (by simp) ?_;refine aG5 rfl (λK hK=> ?_) aG6;go_simp;refine hK _ _ ?_;clear hK K;refine wpAny_done (by kernel_rfl) ?_ _;have d1:Hid (zb w (w1.setCell ⟨w.heap.size+1,1,aB⟩ (aC aD (p:Int))).drew):=(c1.out.setCell (by simp) _).drew;have d2:Hid (bW (w1.setCell ⟨w.heap.size+1,1,aB⟩ (aC aD (p:Int))).drew w.heap.size 112 cZ):=c2.out.bN _ _ (by simp);have d3:Hid (bW (w1.setCell ⟨w.heap.size+1,1,aB⟩ (aC aD (p:Int))).drew (w.heap.size+1) 112 (bF k p (aJ aB 0 0) [] [] [])):=c3.out.cO 1 _;have d4:Hid (w.heap.size+2<=(w1.setCell ⟨w.heap.size+1,1,aB⟩ (aC aD (p:Int))).drew.heap.size):=by show _<=(w1.setCell _ _).heap.size;rw[size_setCell];exact c4.out
 clear c1 c2 c3 c4 e1 f1 e0 v0 v1 v2 v3 hx0 fe pc hd P Bz qj qi;generalize(w1.setCell ⟨w.heap.size+1,1,aB⟩ (aC aD (p:Int))).drew=w2 at*;have hxs:Hid (s.extract 3 s.size=⟨(L.drop 3).toArray⟩):=by show _=_;rw[<-HL.out];apply zDv;apply zCu.1;simp;rw[zBn (by simp)]
 rw[hxs.out];have qm:((⟨(L.drop 3).toArray⟩:ByteArray)).size=s.size-3:=by show(L.drop 3).length=_;rw[zCk,u.out]
 generalize hT0:(⟨(L.drop 3).toArray⟩:ByteArray)=t0 at*;have HT0:Hid (t0=⟨(L.drop 3).toArray⟩):=hT0.symm;clear hT0 hxs;have ym:Hid (t0.size=s.size-3):=qm;clear qm;have e1:w2.cell? ⟨w.heap.size+1,1,aB⟩=aA (aC aD (p:Int)):=by rw[d3.out.cell];rfl
 by_cases vj:2<p
 .have f:Hid (bT l I L=2):=dQ E.out (pR (aH (aG (by rw[z.out];exact vj))));go_wp2;go_step3;show 0=0/\Jump l I L w _ _;exact⟨rfl,rfl,rfl,rfl,by rw[f.out];rfl,by rw[f.out];decide,d1.out,d2.out⟩
 by_cases xm:256<d
 .have f:Hid (bT l I L=2):=dQ E.out (pR (aH (aH (aG (by rw[J.out];exact xm)))));go_wp2;go_step3;show 0=0/\Jump l I L w _ _;exact⟨rfl,rfl,rfl,rfl,by rw[f.out];rfl,by rw[f.out];decide,d1.out,d2.out⟩
 have hnd:Hid ((d+7)/8=n):=by show _=_;omega
 go_wp2_with fail;refine(uM d w2 (by omega)).mono ?_;rw[hnd.out];rintro e w3 ⟨rfl,hw3⟩;obtain rfl:w2=w3:=hw3.symm;clear hw3;by_cases hsn:t0.size<n
 .have f:Hid (bT l I L=2):=dQ E.out (pR (aH (aH (aH (by rw[G.out,u.out];have:=ym.out;omega)))));go_wp2;go_step3;show 0=0/\Jump l I L w _ _;exact⟨rfl,rfl,rfl,rfl,by rw[f.out];rfl,by rw[f.out];decide,d1.out,d2.out⟩
 have bf:Hid (3+n<=s.size):=by show _<=_;have:=ym.out;omega
 have HB:Hid (∀W:zW,Calls zq 80 #[aC aD d] W λe U=>e=aL (aC aD (n:Int))/\U=W):=λW=>by have:=uM d W (by omega);rw[hnd.out]at this;exact this
 have i1:(0:Int)<=(n:Int):=zEe _;have i2:(n:Int)<=(t0.size:Int):=by omega
 go_wp2;go_quiet ((exact zHa (HB.out _)));have g1:Hid (zb w (w2.drewN nq)):=below_drewN d1.out nq;have g2:Hid (bW (w2.drewN nq) w.heap.size 112 cZ):=d2.out.drewN nq;have g3:Hid (bW (w2.drewN nq) (w.heap.size+1) 112 (bF k p (aJ aB 0 0) [] [] [])):=d3.out.drewN nq;have g4:Hid (w.heap.size+2<=(w2.drewN nq).heap.size):=d4.out;clear d1 d2 d3 d4 e1 HB;generalize w2.drewN nq=w3 at*;have Fb:Hid (t0.extract 0 n=⟨(marksOf L).toArray⟩):=by show _=_;rw[HT0.out,marksOf,G.out];apply zDv;apply zCu.1;simp
 have htx:Hid (t0.extract n t0.size=⟨(L.drop (3+n)).toArray⟩):=by show _=_;have h1:=ym.out;rw[HT0.out];apply zDv;apply zCu.1;simp[aG2];rw[zBn (by simp;omega)]
 rw[Fb.out,htx.out];have qc:((⟨(marksOf L).toArray⟩:ByteArray)).size=n:=by show(marksOf L).length=n;rw[marksOf,G.out,zBg,zCk,u.out];have:=bf.out;omega
 generalize hM:(⟨(marksOf L).toArray⟩:ByteArray)=M at*;have HM:Hid (M.data.toList=marksOf L):=by show _=_;rw[<-hM]
 clear hM Fb htx;go_wp2_with fail;refine(Bb M d w3 (by omega)).mono ?_;rw[HM.out];rintro e w4 ⟨hw4,b,rfl,ft,hbf⟩;obtain rfl:w3=w4:=hw4.symm;clear hw4;have Hbt:Hid (b=aE->∃i,d<=i/\i<8*M.size/\bP (marksOf L) i=1):=ft;have Hbf:Hid (b=aF->∀i,d<=i->i<8*M.size->bP (marksOf L) i=0):=hbf;clear ft hbf;cases b with
 |true=>
  have f:Hid (bT l I L=2):=by obtain⟨i,q1,q2,q3⟩:=Hbt.out rfl;exact dQ E.out (UQ i (by rw[J.out];exact q1) (by rw[G.out,<-qc];exact q2) q3)
  go_wp2;go_step3;show 0=0/\Jump l I L w _ _;exact⟨rfl,rfl,rfl,rfl,by rw[f.out];rfl,by rw[f.out];decide,g1.out,g2.out⟩
 |false=>
 have HC:Hid (RJ L (8*n)):=λi q1 q2=>Hbf.out rfl i (by rw[J.out]at q1;exact q1) (by rw[qc];exact q2);clear Hbt Hbf;go_wp2;go_loopg [2,64] d (λq x i wr=>∃(j at_:Nat)(S:zLL)(v:zY),j+q=d/\i=aC aD (j:Int)/\x=aK ⟨(L.drop at_).toArray⟩/\dX k L j=aA (S,at_)/\zb w wr/\bW wr w.heap.size 112 cZ/\bW wr (w.heap.size+1) 112 (bF k p v [] [] [])/\Own wr (w.heap.size+2) 9 v j (S.map λx=>aK ⟨x.toArray⟩)/\w.heap.size+2<=wr.heap.size);case atStart=>exact⟨0,3+n,[],aJ aB 0 0,by omega,rfl,rfl,by rw[dX,G.out],g1.out,g2.out,g3.out,Own.nil _ _ _,g4.out⟩
 case round=>
  obtain⟨j,at_,S,v,hj,rfl,rfl,c0,c1,c2,c3,c4,c5⟩:=hrel
  have C0:Hid (dX k L j=aA (S,at_)):=c0
  have Q:Hid (zb w wr):=c1
  have X:Hid (bW wr w.heap.size 112 cZ):=c2
  have C:Hid (bW wr (w.heap.size+1) 112 (bF k p v [] [] [])):=c3
  have C4:Hid (Own wr (w.heap.size+2) 9 v j (S.map λx=>aK ⟨x.toArray⟩)):=c4
  have C5:Hid (w.heap.size+2<=wr.heap.size):=c5
  clear c0 c1 c2 c3 c4 c5 g1 g2 g3 g4
  obtain⟨q1,q2,q3⟩:=Eh (by rw[G.out,u.out];exact bf.out) C0.out
  rw[u.out]at q2
  have hTs:Hid (((⟨(L.drop at_).toArray⟩:ByteArray)).size=s.size-at_):=by show(L.drop at_).length=_;rw[zCk,u.out]
  generalize hTT:(⟨(L.drop at_).toArray⟩:ByteArray)=T at*
  have O:Hid (T=⟨(L.drop at_).toArray⟩):=hTT.symm
  clear hTT
  by_cases bX:j<d
  .go_wp2_with fail;refine(lE M j wr (by rw[qc];omega) (by rw[qc];omega) (by omega)).mono ?_;rw[HM.out];rintro e w5 ⟨rfl,hw5⟩;obtain rfl:wr=w5:=hw5.symm;clear hw5;have we:=jH (marksOf L) j;generalize ql:bP (marksOf L) j=b at*;have qw:Hid (bP (marksOf L) j=b):=ql;clear ql;obtain rfl|rfl:=we
   .have hbq:decide ((0:Nat)=1)=aF:=by{decide};have e0:wr.cell? ⟨w.heap.size+1,2,aB⟩=aA v:=by{rw[C.out.cell];rfl};have Uf:aA (w.heap.size+1)≠v.ownBlock:=uY C4.out _ (by omega);have Yc:j+1<=1000000:=by{omega};go_wp2_with (at_builtin;refine qB rfl _ _ rfl (w.heap.size+2) _ _ _ rfl C4.out [_] 1 rfl (by simp) (by simp[Value.oneCell']) Yc C5.out ?_;intro v' U r B;obtain⟨g',cap',rfl⟩:=r.form (by simp);have p3:Hid (bW U (w.heap.size+1) 112 (bF k p v [] [] [])):=C.out.grown B Uf;have e1:U.cell? ⟨w.heap.size+1,2,aB⟩=aA v:=(p3.out.cell 2).trans rfl;have e2:U.frozen? ⟨w.heap.size+1,2,aB⟩=aF:=p3.out.frozen 2);go_roundg (d-(j+1));case measure=>omega
    case rel=>
     go_light
     refine⟨j+1,at_,S++[dg k [0]],_,by omega,by go_num,by rw[O.out],GU C0.out qw.out,(pY Q.out C4.out B (by omega) Q.out.size).setCell (by simp) _,(X.out.grown B (uY C4.out _ (by omega))).bN _ _ (by simp),p3.out.cO 2 _,?_,by rw[size_setCell];exact zAv C5.out B.size⟩
     have Y:=r.kept (w':=U.setCell ⟨w.heap.size+1,2,aB⟩ (aJ (aA ⟨g',0,aB⟩) (j+1) cap')) λg hg=>zGq _ _ _ _ (by have:=(r.lt g hg).1;simp only;omega)
     rw[zDm]
     rw[HD.out]
     exact Y
   .have hbq:decide ((1:Nat)=1)=aE:=by{decide};have ek:wr.cell? ⟨w.heap.size+1,0,aB⟩=aA (aC aD (k:Int)):=by{rw[C.out.cell];rfl};by_cases aDa:T.size<k
    .have f:Hid (bT l I L=2):=dQ E.out (by
      rw[m.out];have:=MP (MQ C0.out qw.out (by rw[u.out];have:=hTs.out;omega)) (d-(j+1));rw[show j+1+(d-(j+1))=d from by omega]at this;exact IK (by rw[J.out];exact this))
     go_wp2;go_step3;show 0=0/\Jump l I L w _ _;exact⟨rfl,rfl,rfl,rfl,by rw[f.out];rfl,by rw[f.out];decide,Q.out,X.out⟩
    .have tq:Hid (T.extract 0 k=⟨((L.drop at_).take k).toArray⟩):=by
      show _=_;rw[O.out];apply zDv;apply zCu.1;simp
     have hxd:Hid (T.extract k T.size=⟨(L.drop (at_+k)).toArray⟩):=by show _=_;rw[O.out];apply zDv;apply zCu.1;simp[aG2];rw[zBn (by simp;omega)]
     have i1:(0:Int)<=(k:Int):=zEe _;have i2:(k:Int)<=(T.size:Int):=by{omega};by_cases c:T.extract 0 k=⟨D.toArray⟩
     .have f:Hid (bT l I L=2):=dQ E.out (by
       rw[m.out];have hl:(L.drop at_).take k=dg k [0]:=by have:=congrArg (λb=>b.data.toList) (tq.out.symm.trans c);rw[HD.out];simpa using this
       have:=MP (MQ C0.out qw.out (by rw[hl];simp)) (d-(j+1));rw[show j+1+(d-(j+1))=d from by omega]at this;exact IK (by rw[J.out];exact this))
      have hse:((T.extract 0 k).toList==D)=aE:=by{rw[c,ByteArray.toList_mk];simp};clear c;go_wp2;go_step3;show 0=0/\Jump l I L w _ _;exact⟨rfl,rfl,rfl,rfl,by rw[f.out];rfl,by rw[f.out];decide,Q.out,X.out⟩
     .have hl:Hid ((L.drop at_).take k≠dg k [0]):=λh=>c (by rw[tq.out,h,HD.out]);have hse:((T.extract 0 k).toList==D)=aF:=Js c;clear c;go_wp2;go_quiet (fail);have E1:Hid (zb w (wr.drewN nq)):=below_drewN Q.out nq;have E2:Hid (bW (wr.drewN nq) w.heap.size 112 cZ):=X.out.drewN nq;have E3:Hid (bW (wr.drewN nq) (w.heap.size+1) 112 (bF k p v [] [] [])):=C.out.drewN nq;have E4:Hid (Own (wr.drewN nq) (w.heap.size+2) 9 v j (S.map λx=>aK ⟨x.toArray⟩)):=C4.out.kept λ_ _=>rfl;have E5:Hid (w.heap.size+2<=(wr.drewN nq).heap.size):=C5.out;clear Q X C C4 C5 ek;generalize wr.drewN nq=w6 at*;have e0:w6.cell? ⟨w.heap.size+1,2,aB⟩=aA v:=by{rw[E3.out.cell];rfl};have Uf:aA (w.heap.size+1)≠v.ownBlock:=uY E4.out _ (by omega);have Yc:j+1<=1000000:=by{omega};go_wp2_with (at_builtin;refine qB rfl _ _ rfl (w.heap.size+2) _ _ _ rfl E4.out [_] 1 rfl (by simp) (by simp[Value.oneCell']) Yc E5.out ?_;intro v' U r B;obtain⟨g',cap',rfl⟩:=r.form (by simp);have p3:Hid (bW U (w.heap.size+1) 112 (bF k p v [] [] [])):=E3.out.grown B Uf;have e1:U.cell? ⟨w.heap.size+1,2,aB⟩=aA v:=(p3.out.cell 2).trans rfl;have e2:U.frozen? ⟨w.heap.size+1,2,aB⟩=aF:=p3.out.frozen 2);go_roundg (d-(j+1));case measure=>omega
      case rel=>
       go_light
       refine⟨j+1,at_+k,S++[(L.drop at_).take k],_,by omega,by go_num,by rw[hxd.out],GS C0.out qw.out (by rw[u.out];have:=hTs.out;omega) hl.out,(pY E1.out E4.out B (by omega) E1.out.size).setCell (by simp) _,(E2.out.grown B (uY E4.out _ (by omega))).bN _ _ (by simp),p3.out.cO 2 _,?_,by rw[size_setCell];exact zAv E5.out B.size⟩
       have Y:=r.kept (w':=U.setCell ⟨w.heap.size+1,2,aB⟩ (aJ (aA ⟨g',0,aB⟩) (j+1) cap')) λg hg=>zGq _ _ _ _ (by have:=(r.lt g hg).1;simp only;omega)
       rw[zDm]
       simp only[tq.out]at Y
       exact Y
  .obtain rfl:j=d:=by{omega};have hP:Hid (parse k I L=oX k I L S (L.drop at_)):=tP (by rw[u.out];exact h3') (by rw[z.out];omega) (by rw[J.out];omega) (by rw[G.out,u.out];exact bf.out) (by rw[G.out];exact HC.out) (by rw[J.out];exact C0.out);have V:Hid ((L.drop at_).length=T.size):=by{show _=_;rw[O.out];rfl};have ga:Hid (T.toList=L.drop at_):=by{show _=_;rw[O.out,ByteArray.toList_mk]};generalize hR:L.drop at_=R at*;clear hR C0;have e1:wr.cell? ⟨w.heap.size+1,1,aB⟩=aA (aC aD (p:Int)):=by{rw[C.out.cell];rfl};have ek:wr.cell? ⟨w.heap.size+1,0,aB⟩=aA (aC aD (k:Int)):=by{rw[C.out.cell];rfl};obtain Yb|vk|kr:p=0\/p=1\/p=2:=by omega
   .subst Yb;by_cases A:R=[]
    .have HP:Hid (parse k I L=aA ⟨0,S,[],[],[]⟩):=by{show _=_;rw[hP.out,oX,z.out,zAl rfl,zAl A]};have uq:T.toList.isEmpty=aE:=by{rw[ga.out,A];rfl};clear A;have ny:Hid (PW.Ok k ⟨0,S,[],[],[]⟩):=tQ F HP.out;have N:Hid (fJ wr):=HT.out.below Q.out (zAa _);have t:Hid (Own wr (w.heap.size+2) 9 v S.length (S.map λx=>aK ⟨x.toArray⟩)):=by rw[q1];exact C4.out
     go_wp2_with (first
      |refine zGv rfl 112 _ rfl (w.heap.size+1) rfl _ _ _ _ C.out ((Qz.eH 112).trans underlying112) rfl (by kernel_rfl) ?_)
     refine(BL k idx ⟨0,S,[],[],[]⟩ v (w.heap.size+2) wr Ml F hi ny.out N.out t.out).mono ?_;rw[HI.out];rintro e Z ⟨rfl,o⟩;have F1:=bD Q.out o Q.out.size;have F2:Hid (bW Z w.heap.size 112 cZ):=X.out.below o X.out.lt;have F3:Hid (bW Z (w.heap.size+1) 112 (bF k 0 v [] [] [])):=C.out.below o C.out.lt;have F4:Hid (Own Z (w.heap.size+2) 9 v S.length (S.map λx=>aK ⟨x.toArray⟩)):=t.out.below o (zAa _);clear o t N;have y:Hid (parse l.length I L=aA ⟨0,S,[],[],[]⟩):=by{show _=_;rw[m.out];exact HP.out};have H:Hid (PW.root l.length I ⟨0,S,[],[],[]⟩=PW.root k I ⟨0,S,[],[],[]⟩):=by{show _=_;rw[m.out]};by_cases a:PW.root k I ⟨0,S,[],[],[]⟩=l
     .have f:Hid (bT l I L=0):=rY E.out y.out (H.out.trans a);have Y:(PW.root k I ⟨0,S,[],[],[]⟩==root.toList)=aE:=by rw[zCm,zGx,HR.out];exact a
      have nt:Hid (PW.root k I ⟨0,S,[],[],[]⟩=l):=a;clear a;go_wp2_with (first
       |refine zGv rfl 112 _ rfl (w.heap.size+1) rfl _ _ _ _ F3.out ((Qz.eH 112).trans underlying112) rfl (by kernel_rfl) ?_
       |refine zGr rfl 112 _ _ rfl w.heap.size (bF _ _ _ _ _ _) rfl rfl _ _ F2.out (by kernel_rfl) rfl (QE F4.out) ?_)
      change bodyPost zq f55 _ Exit.ret _ _;refine zGy (fD results55 _ _ w.heap.size _ _ _ _ rfl (F2.out.dB _) ((Qz.eH 112).trans underlying112) rfl (by kernel_rfl) _ rfl) rfl ?_;exact⟨bU F1.out (zAa _) _,aH ⟨⟨0,S,[],[],[]⟩,v,f.out,y.out,H.out.trans nt.out,by rw[m.out];rfl,(F4.out.setRow _ _ (by omega)).lower (by omega)⟩⟩
     .have f:Hid (bT l I L=3):=rX E.out y.out (λh=>a (H.out.symm.trans h));have Y:(PW.root k I ⟨0,S,[],[],[]⟩==root.toList)=aF:=by{rw[zBy,zGx,HR.out];exact a};clear a;go_wp2;go_step3;show 0=0/\Jump l I L w _ _;exact⟨rfl,rfl,rfl,rfl,by rw[f.out];rfl,by rw[f.out];decide,F1.out,F2.out⟩
    .have f:Hid (bT l I L=2):=dQ E.out (by rw[m.out,hP.out,oX,z.out,zAl rfl,zAj A]);have uq:T.toList.isEmpty=aF:=by{rw[ga.out];cases hR2:R with|nil=>exact absurd hR2 A|cons _ _=>rfl};clear A;go_wp2;go_step3;show 0=0/\Jump l I L w _ _;exact⟨rfl,rfl,rfl,rfl,by rw[f.out];rfl,by rw[f.out];decide,Q.out,X.out⟩
   .subst vk;by_cases aEh:100<T.size
    .have f:Hid (bT l I L=2):=dQ E.out (by rw[m.out,hP.out,oX,z.out,zAj (by decide),zAl rfl,zAj (by rw[V.out];omega)]);go_wp2;go_step3;show 0=0/\Jump l I L w _ _;exact⟨rfl,rfl,rfl,rfl,by rw[f.out];rfl,by rw[f.out];decide,Q.out,X.out⟩
    .have HP:Hid (parse k I L=aA ⟨1,S,R,[],[]⟩):=by{show _=_;rw[hP.out,oX,z.out,zAj (by decide),zAl rfl,zAl (by rw[V.out];omega)]};have e2:wr.cell? ⟨w.heap.size+1,3,aB⟩=aA (aK ⟨#[]⟩):=by rw[C.out.cell];rfl
     have f2:wr.frozen? ⟨w.heap.size+1,3,aB⟩=aF:=C.out.frozen 3;have D3:Hid (bW (wr.setCell ⟨w.heap.size+1,3,aB⟩ (aK T)) (w.heap.size+1) 112 (bF k 1 v R [] [])):=by have:=C.out.cO 3 (aK T);rw[O.out]at this⊢;exact this
     have D2:Hid (bW (wr.setCell ⟨w.heap.size+1,3,aB⟩ (aK T)) w.heap.size 112 cZ):=X.out.bN _ _ (by simp);have D4:Hid (Own (wr.setCell ⟨w.heap.size+1,3,aB⟩ (aK T)) (w.heap.size+2) 9 v j (S.map λx=>aK ⟨x.toArray⟩)):=C4.out.kept λg hg=>zGq _ _ _ _ (by have:=(C4.out.lt g hg).1;simp only;omega);have D1:Hid (zb w (wr.setCell ⟨w.heap.size+1,3,aB⟩ (aK T))):=Q.out.setCell (by simp) _;have ny:Hid (PW.Ok k ⟨1,S,R,[],[]⟩):=tQ F HP.out;have N:Hid (fJ (wr.setCell ⟨w.heap.size+1,3,aB⟩ (aK T))):=HT.out.below D1.out (zAa _);have t:Hid (Own (wr.setCell ⟨w.heap.size+1,3,aB⟩ (aK T)) (w.heap.size+2) 9 v S.length (S.map λx=>aK ⟨x.toArray⟩)):=by rw[q1];exact D4.out
     go_wp2_with (first
      |refine zGv rfl 112 _ rfl (w.heap.size+1) rfl _ _ _ _ D3.out ((Qz.eH 112).trans underlying112) rfl (by kernel_rfl) ?_)
     refine(BL k idx ⟨1,S,R,[],[]⟩ v (w.heap.size+2) (wr.setCell ⟨w.heap.size+1,3,aB⟩ (aK T)) Ml F hi ny.out N.out t.out).mono ?_;rw[HI.out];rintro e Z ⟨rfl,o⟩;have F1:=bD D1.out o D1.out.size;have F2:Hid (bW Z w.heap.size 112 cZ):=D2.out.below o D2.out.lt;have F3:Hid (bW Z (w.heap.size+1) 112 (bF k 1 v R [] [])):=D3.out.below o D3.out.lt;have F4:Hid (Own Z (w.heap.size+2) 9 v S.length (S.map λx=>aK ⟨x.toArray⟩)):=t.out.below o (zAa _);clear o t N;have y:Hid (parse l.length I L=aA ⟨1,S,R,[],[]⟩):=by{show _=_;rw[m.out];exact HP.out};have H:Hid (PW.root l.length I ⟨1,S,R,[],[]⟩=PW.root k I ⟨1,S,R,[],[]⟩):=by{show _=_;rw[m.out]};by_cases a:PW.root k I ⟨1,S,R,[],[]⟩=l
     .have f:Hid (bT l I L=0):=rY E.out y.out (H.out.trans a);have Y:(PW.root k I ⟨1,S,R,[],[]⟩==root.toList)=aE:=by rw[zCm,zGx,HR.out];exact a
      have nt:Hid (PW.root k I ⟨1,S,R,[],[]⟩=l):=a;clear a;go_wp2_with (first
       |refine zGv rfl 112 _ rfl (w.heap.size+1) rfl _ _ _ _ F3.out ((Qz.eH 112).trans underlying112) rfl (by kernel_rfl) ?_
       |refine zGr rfl 112 _ _ rfl w.heap.size (bF _ _ _ _ _ _) rfl rfl _ _ F2.out (by kernel_rfl) rfl (QE F4.out) ?_)
      change bodyPost zq f55 _ Exit.ret _ _;refine zGy (fD results55 _ _ w.heap.size _ _ _ _ rfl (F2.out.dB _) ((Qz.eH 112).trans underlying112) rfl (by kernel_rfl) _ rfl) rfl ?_;exact⟨bU F1.out (zAa _) _,aH ⟨⟨1,S,R,[],[]⟩,v,f.out,y.out,H.out.trans nt.out,by rw[m.out];rfl,(F4.out.setRow _ _ (by omega)).lower (by omega)⟩⟩
     .have f:Hid (bT l I L=3):=rX E.out y.out (λh=>a (H.out.symm.trans h));have Y:(PW.root k I ⟨1,S,R,[],[]⟩==root.toList)=aF:=by{rw[zBy,zGx,HR.out];exact a};clear a;go_wp2;go_step3;show 0=0/\Jump l I L w _ _;exact⟨rfl,rfl,rfl,rfl,by rw[f.out];rfl,by rw[f.out];decide,F1.out,F2.out⟩
   .subst kr;by_cases hlen:T.size=32+k
    .have hO:Hid (T.extract 0 32=⟨(R.take 32).toArray⟩):=by
      show _=_;rw[O.out];apply zDv;apply zCu.1;simp
     have hD':Hid (T.extract 32 (32+k)=⟨(R.drop 32).toArray⟩):=by show _=_;have:=V.out;rw[O.out];apply zDv;apply zCu.1;simp;rw[zBn (by simp;omega)]
     have h32:(T.extract 0 32).size=32:=by{rw[hO.out];show(R.take 32).length=32;rw[zBg,V.out];omega};have e3:wr.cell? ⟨w.heap.size+1,4,aB⟩=aA (aK ⟨#[]⟩):=by{rw[C.out.cell];rfl};have f3:wr.frozen? ⟨w.heap.size+1,4,aB⟩=aF:=C.out.frozen 4;have e4:wr.cell? ⟨w.heap.size+1,5,aB⟩=aA (aK ⟨#[]⟩):=by rw[C.out.cell];rfl
     have f4:wr.frozen? ⟨w.heap.size+1,5,aB⟩=aF:=C.out.frozen 5;have qy:Hid (bW (wr.setCell ⟨w.heap.size+1,4,aB⟩ (aK (T.extract 0 32))) (w.heap.size+1) 112 (bF k 2 v [] (R.take 32) [])):=by have:=C.out.cO 4 (aK (T.extract 0 32));rw[hO.out]at this⊢;exact this
     have e5:(wr.setCell ⟨w.heap.size+1,4,aB⟩ (aK (T.extract 0 32))).cell? ⟨w.heap.size+1,5,aB⟩=aA (aK ⟨#[]⟩):=by{rw[qy.out.cell];rfl};have f5:(wr.setCell ⟨w.heap.size+1,4,aB⟩ (aK (T.extract 0 32))).frozen? ⟨w.heap.size+1,5,aB⟩=aF:=qy.out.frozen 5;have i1:(32:Int)<=(T.size:Int):=by{omega};have i2:(32:Int)<=32+(k:Int):=by omega
     go_wp2;go_region_law ((fail));have D4:Hid (Own ((wr.setCell ⟨w.heap.size+1,4,aB⟩ (aK (T.extract 0 32))).setCell ⟨w.heap.size+1,5,aB⟩ (aK (T.extract 32 (32+k)))).drew (w.heap.size+2) 9 v j (S.map λx=>aK ⟨x.toArray⟩)):=
      (C4.out.kept λg hg=>zGq _ _ _ _ (by have:=(C4.out.lt g hg).1;simp only;omega)).kept λg hg=>zGq _ _ _ _ (by have:=(C4.out.lt g hg).1;simp only;omega)
     have D3:Hid (bW ((wr.setCell ⟨w.heap.size+1,4,aB⟩ (aK (T.extract 0 32))).setCell ⟨w.heap.size+1,5,aB⟩ (aK (T.extract 32 (32+k)))).drew (w.heap.size+1) 112 (bF k 2 v [] (R.take 32) (R.drop 32))):=by have:=qy.out.cO 5 (aK (T.extract 32 (32+k)));rw[hD'.out]at this⊢;exact this
     have D2:Hid (bW ((wr.setCell ⟨w.heap.size+1,4,aB⟩ (aK (T.extract 0 32))).setCell ⟨w.heap.size+1,5,aB⟩ (aK (T.extract 32 (32+k)))).drew w.heap.size 112 cZ):=(X.out.bN _ _ (by simp)).bN _ _ (by simp);have D1:Hid (zb w ((wr.setCell ⟨w.heap.size+1,4,aB⟩ (aK (T.extract 0 32))).setCell ⟨w.heap.size+1,5,aB⟩ (aK (T.extract 32 (32+k)))).drew):=((Q.out.setCell (by simp) _).setCell (by simp) _).drew;clear Q X C C4 C5 e3 f3 e4 f4 e5 f5 e1 ek qy hD';generalize((wr.setCell ⟨w.heap.size+1,4,aB⟩ (aK (T.extract 0 32))).setCell ⟨w.heap.size+1,5,aB⟩ (aK (T.extract 32 (32+k)))).drew=w7 at*;obtain⟨ob,km⟩:∃ob:ByteArray,Hid (ob=⟨(R.take 32).toArray⟩):=⟨_,rfl⟩;have e6:w7.cell? ⟨w.heap.size+1,4,aB⟩=aA (aK ob):=by{rw[D3.out.cell,km.out];rfl};have uy:ob.size=32:=by{rw[km.out,<-hO.out];exact h32};have yf:Hid (R.length=32+k):=V.out.trans hlen;clear h32 hO;by_cases c:R.take 32=I;{have f:Hid (bT l I L=2):=dQ E.out (by rw[m.out,hP.out,oX,z.out,zAj (by decide),zAj (by decide),zAj (λh=>h.2.1 c)]);have Y:(ob.toList==idx.toList)=aE:=by{rw[zCm,zGx,zGx,HI.out,km.out];exact c};clear c;go_wp2;go_step3;show 0=0/\Jump l I L w _ _;exact⟨rfl,rfl,rfl,rfl,by rw[f.out];rfl,by rw[f.out];decide,D1.out,D2.out⟩}
     .have Y:(ob.toList==idx.toList)=aF:=by rw[zBy,zGx,zGx,HI.out,km.out];exact c
      have Hne:Hid (R.take 32≠I):=c;clear c;go_wp2_with fail;refine(LG ob idx j w7 uy hi (by omega)).mono ?_;rw[HI.out];rintro e w9 ⟨tw,b,rfl,hb⟩;obtain rfl:w7=w9:=tw.symm;clear tw;have Hb:Hid (b=aE↔sameBits I (R.take 32) (dN L)):=by show _↔_;rw[hb,J.out,km.out];exact⟨λh i hi=>(h i hi).symm,λh i hi=>(h i hi).symm⟩
      clear hb;cases b with
      |true=>
       have HP:Hid (parse k I L=aA ⟨2,S,[],R.take 32,R.drop 32⟩):=by show _=_;rw[hP.out,oX,z.out,zAj (by decide),zAj (by decide),zAl ⟨yf.out,Hne.out,by rw[GY];exact Hb.out.1 rfl⟩]
       have ny:Hid (PW.Ok k ⟨2,S,[],(R.take 32),(R.drop 32)⟩):=tQ F HP.out;have N:Hid (fJ w7):=HT.out.below D1.out (zAa _);have t:Hid (Own w7 (w.heap.size+2) 9 v S.length (S.map λx=>aK ⟨x.toArray⟩)):=by rw[q1];exact D4.out
       go_wp2_with (first
        |refine zGv rfl 112 _ rfl (w.heap.size+1) rfl _ _ _ _ D3.out ((Qz.eH 112).trans underlying112) rfl (by kernel_rfl) ?_)
       refine(BL k idx ⟨2,S,[],(R.take 32),(R.drop 32)⟩ v (w.heap.size+2) w7 Ml F hi ny.out N.out t.out).mono ?_;rw[HI.out];rintro e Z ⟨rfl,o⟩;have F1:=bD D1.out o D1.out.size;have F2:Hid (bW Z w.heap.size 112 cZ):=D2.out.below o D2.out.lt;have F3:Hid (bW Z (w.heap.size+1) 112 (bF k 2 v [] (R.take 32) (R.drop 32))):=D3.out.below o D3.out.lt;have F4:Hid (Own Z (w.heap.size+2) 9 v S.length (S.map λx=>aK ⟨x.toArray⟩)):=t.out.below o (zAa _);clear o t N;have y:Hid (parse l.length I L=aA ⟨2,S,[],(R.take 32),(R.drop 32)⟩):=by{show _=_;rw[m.out];exact HP.out};have H:Hid (PW.root l.length I ⟨2,S,[],(R.take 32),(R.drop 32)⟩=PW.root k I ⟨2,S,[],(R.take 32),(R.drop 32)⟩):=by{show _=_;rw[m.out]};by_cases a:PW.root k I ⟨2,S,[],(R.take 32),(R.drop 32)⟩=l
       .have f:Hid (bT l I L=0):=rY E.out y.out (H.out.trans a);have Y:(PW.root k I ⟨2,S,[],(R.take 32),(R.drop 32)⟩==root.toList)=aE:=by rw[zCm,zGx,HR.out];exact a
        have nt:Hid (PW.root k I ⟨2,S,[],(R.take 32),(R.drop 32)⟩=l):=a;clear a;go_wp2_with (first
         |refine zGv rfl 112 _ rfl (w.heap.size+1) rfl _ _ _ _ F3.out ((Qz.eH 112).trans underlying112) rfl (by kernel_rfl) ?_
         |refine zGr rfl 112 _ _ rfl w.heap.size (bF _ _ _ _ _ _) rfl rfl _ _ F2.out (by kernel_rfl) rfl (QE F4.out) ?_)
        change bodyPost zq f55 _ Exit.ret _ _;refine zGy (fD results55 _ _ w.heap.size _ _ _ _ rfl (F2.out.dB _) ((Qz.eH 112).trans underlying112) rfl (by kernel_rfl) _ rfl) rfl ?_;exact⟨bU F1.out (zAa _) _,aH ⟨⟨2,S,[],(R.take 32),(R.drop 32)⟩,v,f.out,y.out,H.out.trans nt.out,by rw[m.out];rfl,(F4.out.setRow _ _ (by omega)).lower (by omega)⟩⟩
       .have f:Hid (bT l I L=3):=rX E.out y.out (λh=>a (H.out.symm.trans h));have Y:(PW.root k I ⟨2,S,[],(R.take 32),(R.drop 32)⟩==root.toList)=aF:=by{rw[zBy,zGx,HR.out];exact a};clear a;go_wp2;go_step3;show 0=0/\Jump l I L w _ _;exact⟨rfl,rfl,rfl,rfl,by rw[f.out];rfl,by rw[f.out];decide,F1.out,F2.out⟩
      |false=>
       have f:Hid (bT l I L=2):=dQ E.out (by rw[m.out,hP.out,oX,z.out,zAj (by decide),zAj (by decide),zAj];rw[GY];intro h;have:=Hb.out.2 h.2.2;cases this)
       go_wp2;go_step3;show 0=0/\Jump l I L w _ _;exact⟨rfl,rfl,rfl,rfl,by rw[f.out];rfl,by rw[f.out];decide,D1.out,D2.out⟩
    .have f:Hid (bT l I L=2):=dQ E.out (by rw[m.out,hP.out,oX,z.out,zAj (by decide),zAj (by decide),zAj (by rw[V.out];exactλh=>hlen h.1)]);have hq1:((T.size:Int)!=32+(k:Int))=aE:=by{rw[bne_iff_ne];omega};go_wp2;go_step3;show 0=0/\Jump l I L w _ _;exact⟨rfl,rfl,rfl,rfl,by rw[f.out];rfl,by rw[f.out];decide,Q.out,X.out⟩
end Go.Proofs.Zq
