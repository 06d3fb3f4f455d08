import Derived.Test.YtghpcgagijhlaaaGreatDoorRows
import Derived.Deep.RegionWith
import Derived.WalkSpells
import Derived.WalkLawsBesides
import Derived.Lib.ConvBytes
import Derived.Deep.MidRow
import Derived.Shelf.Strings.Repeat
import Derived.Test.YtghpcgagijhlaaaGreatDoorProg
import Derived.Deep.CutRange
import Derived.Deep.RegionHeld3
import Derived.Deep.DrawnRows
import Derived.Deep.AppendLies
import Derived.Deep.RegionLaw
import Derived.WalkMore
import Derived.ScopeJumps
import Derived.Test.YtghpcgagijhlaaaGreatDoorT05
set_option linter.all false
set_option maxRecDepth 100000
set_option maxHeartbeats 16000000
open Option renaming some->aA,none->aB
open Bool renaming true->aE,false->aF
open Or renaming inl->aG,inr->aH
open Go.Ending renaming returned->aL
open Go.Obj renaming cells->aI
open Go.IntKind renaming i64->aD,u32->aO,u64->aQ,u8->aP
open Go.Value renaming slice->aJ,string->aK,pointer->aN,int->aC
open BitVec renaming toNat_add->aFn,ofNat->aFa
open ByteArray renaming push->aFo,data_extract->aFp,size_data->aFq,size->aFr,size_append->aFs,extract->aFt
open Go.AllReady renaming cons->aFu,nil->aFv
open Go.Calls renaming regrown_of->aFw
open Go.Ending renaming returned->aFx
open Go.Lib renaming bytesWorld->aFy,bytesWorld_size->aFz,bytesWorld_at_old->aFA,repeatL->aFB
open Nat renaming add_zero->aFC,shiftLeft_eq->aFD
open Option.some renaming injEq->aE1
open Prod.mk renaming injEq->aFE
open UInt8 renaming ofNat->aFF
open Go.Proofs.Tryz
namespace Go.Proofs.Zq
open Go.RowKit Sha
def OF {k a b}(h:a=b):aFx (.int k a)=aL (.int k b):=by rw[h]
def Tf (n:Nat)(h:1<=n)(a:n<=31):bits .and aQ (IntKind.u64.wrap (-(n))) 31=((32-n:Nat):Int):=by
 have:∀n:Fin 32,1<=n.val->bits .and aQ (IntKind.u64.wrap (-(n.val:Int))) 31=((32-n.val:Nat):Int):=by decide
 exact this ⟨n,by omega⟩ h
def Sq (x:BitVec 32)(n:Nat)(w)(b:1<=n)(h:n<=31):
  Calls zq 130 #[aC aO (V x),aC aD (-(n))] w λe a=>e=aL (aC aO (V (uK x n)))/\a=w:=by
 have c:=Tf n b h;go_enter (Qz.fn func130),ntmps130;go_wp2;go_ret;exact⟨OF (by rw[show 32-(32-n)=n from by omega];exact ik x n),rfl⟩
def Kj (x:BitVec 32)(n:Nat)(w)(b:1<=n)(h:n<=31):
  Calls zq 121 #[aC aO (V x),aC aD n] w λe a=>e=aL (aC aO (V (uK x n)))/\a=w:=by
 go_enter (Qz.fn func121),ntmps121;go_wp2_with (go_at_call 130;refine(Sq x n _ b h).mono ?_;rintro e a ⟨rfl,rfl⟩);go_ret;exact⟨rfl,rfl⟩
def lQ (x:BitVec 32)(n:Nat)(m:Int)(w)(h:m=n)(c:1<=n)(b:n<=31):
  Calls zq 121 #[aC aO (V x),aC aD m] w λe a=>e=aL (aC aO (V (uK x n)))/\a=w:=by
 subst h;exact Kj x n w c b
attribute [local go_sem] V_xor V_shr V64_xor
def Zg (x:BitVec 32)(w):
  Calls zq 108 #[aC aO (V x)] w λe a=>e=aL (aC aO (V (S0 x)))/\a=w:=by
 go_enter (Qz.fn func108),ntmps108;go_wp2_with fail;refine(lQ x 2 _ _ rfl (by omega) (by omega)).mono ?_;rintro e a ⟨rfl,rfl⟩;go_wp2_with fail;refine(lQ x 13 _ _ rfl (by omega) (by omega)).mono ?_;rintro e a ⟨rfl,rfl⟩;go_wp2_with fail;refine(lQ x 22 _ _ rfl (by omega) (by omega)).mono ?_;rintro e a ⟨rfl,rfl⟩;go_wp2;go_ret;exact⟨rfl,rfl⟩
def Zf (x:BitVec 32)(w):
  Calls zq 107 #[aC aO (V x)] w λe a=>e=aL (aC aO (V (S1 x)))/\a=w:=by
 go_enter (Qz.fn func107),ntmps107;go_wp2_with fail;refine(lQ x 6 _ _ rfl (by omega) (by omega)).mono ?_;rintro e a ⟨rfl,rfl⟩;go_wp2_with fail;refine(lQ x 11 _ _ rfl (by omega) (by omega)).mono ?_;rintro e a ⟨rfl,rfl⟩;go_wp2_with fail;refine(lQ x 25 _ _ rfl (by omega) (by omega)).mono ?_;rintro e a ⟨rfl,rfl⟩;go_wp2;go_ret;exact⟨rfl,rfl⟩
def Lk (x:BitVec 32)(w):
  Calls zq 110 #[aC aO (V x)] w λe a=>e=aL (aC aO (V (s0 x)))/\a=w:=by
 go_enter (Qz.fn func110),ntmps110;go_wp2_with fail;refine(lQ x 7 _ _ rfl (by omega) (by omega)).mono ?_;rintro e a ⟨rfl,rfl⟩;go_wp2_with fail;refine(lQ x 18 _ _ rfl (by omega) (by omega)).mono ?_;rintro e a ⟨rfl,rfl⟩;go_wp2;go_ret;exact⟨OF (by rw[Zc,V_xor];rfl),rfl⟩
def Lj (x:BitVec 32)(w):
  Calls zq 109 #[aC aO (V x)] w λe a=>e=aL (aC aO (V (s1 x)))/\a=w:=by
 go_enter (Qz.fn func109),ntmps109;go_wp2_with fail;refine(lQ x 17 _ _ rfl (by omega) (by omega)).mono ?_;rintro e a ⟨rfl,rfl⟩;go_wp2_with fail;refine(lQ x 19 _ _ rfl (by omega) (by omega)).mono ?_;rintro e a ⟨rfl,rfl⟩;go_wp2;go_ret;exact⟨OF (by rw[Un,V_xor];rfl),rfl⟩
open Go Go.RowKit
def cD (w:zW)(g:Nat)(t:zD)(cs:zA):Prop:=w.heap[g]? =aA (aI cs t (0,0))
def cD.cell {w g t cs}(h:cD w g t cs)(i):w.cell? ⟨g,i,aB⟩=cs[i]? :=zGv w g i cs t (0,0) h
def cD.frozen {w g t cs}(h:cD w g t cs)(i):w.frozen? ⟨g,i,aB⟩=aF:=by unfold cD at h;simp[World.frozen?,h]
def cD.lt {w g t cs}(h:cD w g t cs):g<w.heap.size:=(zAa.1 h).1
def cD.drewN {w g t cs}(h:cD w g t cs)(n):cD (w.drewN n) g t cs:=h
def cD.new (w:zW)(t)(cs):cD (w.alloc (aI cs t)) w.heap.size t cs:=zGn w _
def cD.alloc {w g t cs}(h:cD w g t cs)(o):cD (w.alloc o) g t cs:=by unfold cD;rw[Below.heap_alloc w o g h.lt];exact h
def cD.below {w w' B g t cs}(h:cD w g t cs)(b:Below B w w')(a:g<B):cD w' g t cs:=by unfold cD;rw[b.block g a];exact h
def cD.dL {w g t cs}(h:cD w g t cs)(i)(v):cD (w.setCell ⟨g,i,aB⟩ v) g t (cs.setIfInBounds i v):=by unfold cD at*;simp only[World.setCell,zDq,zCq,h];rfl
def cD.bO {w g t cs}(h:cD w g t cs)(a)(v)(b:g≠a.block):cD (w.setCell a v) g t cs:=by unfold cD;rw[zGh w a v g b];exact h
def kU (w:zW)(g k)(cs)(h:k≠g):(w.setRow g cs).heap[k]? =w.heap[k]? :=by simp only[World.setRow,zDq];rw[zAn (by omega)]
def cD.dV {w g t cs}(h:cD w g t cs)(cs'):cD (w.setRow g cs') g t cs':=setRow_heap w g cs cs' t _ h
def cD.zM {w g b t cs}(h:cD w g t cs)(cs')(a:g≠b):cD (w.setRow b cs') g t cs:=by unfold cD;rw[kU w b g cs' a];exact h
def size_setCell (w:zW)(a)(v):(w.setCell a v).heap.size=w.heap.size:=by simp[World.setCell]
def size_alloc (w:zW)(o):(w.alloc o).heap.size=w.heap.size+1:=by simp
def cA {B:Nat}{a w:zW}(h:Below B a w){g:Nat}(c:B<=g)(cs:zA):Below B a (w.setRow g cs):=
 h.trans ⟨rfl,rfl,rfl,by simp[World.setRow],λk b=>kU _ _ _ _ (by omega)⟩
def below_drewN {B a w}(h:Below B a w)(n):Below B a (w.drewN n):=⟨h.os,h.tape,h.output,h.size,h.block⟩
def VZ (w)(e)(s):zb w (aFy w e s):=by
 refine⟨?_,?_,?_,by rw[aFz];omega,λk h=>aFA w e s k h⟩;all_goals
  unfold aFy World.freeze
  rw[zAn (by decide)]
  rfl
def Md (l:zB):∀s:ByteArray,((l.map λb=>(b.toNat:Int)).foldl (λr n=>r.push (aFF n.toNat)) s)=⟨s.data++l.toArray⟩:=by
 induction l with
 |nil=>intro s;simp
 |cons b l i=>intro s;rw[zDw,zEx,i];simp[aFo]
def lR {P}(w)(src dst e)(g o c)(l:zB)(hs:P.underlying src=aA (.slice e))(i:P.underlying e=aA (.int aP))(k:P.underlying dst=aA .string)
  (h:∀j,j<l.length->w.cell? ⟨g,o+j,aB⟩=aA (aC aP ((l.getD j 0).toNat:Int))):
  (convert src dst (aJ (aA ⟨g,o,aB⟩) l.length c)).run P w= .ok (aK ⟨l.toArray⟩) w:=by
 rw[run_convert_bytes_string w src dst e _ _ _ hs i k];have hl:(loadCells ⟨g,o,aB⟩ (l.map λb=>Value.int aP (b.toNat:Int)).length).run P w= .ok (l.map λb=>Value.int aP (b.toNat:Int)).toArray w:=
  run_loadCells_list w ⟨g,o,aB⟩ (l.map λb=>Value.int aP (b.toNat:Int)) (λj v d=>by
   have f:j<l.length:=by have:=(zAu.1 d).1;simpa using this
   have a:(⟨g,o,aB⟩:Addr).add j=⟨g,o+j,aB⟩:=by unfold Addr.add;split<;>simp_all
   rw[a,h j f];rw[zDo]at d;simp[f]at d;rw[<-d];simp[f])
 rw[zDj]at hl;have e:(l.map λb=>Value.int aP (b.toNat:Int))=(l.map λb=>(b.toNat:Int)).map (Value.int aP):=by simp
 rw[e]at hl;rw[run_bytesToString w ⟨g,o,aB⟩ l.length c _ hl,Md,show ByteArray.empty.data= #[]from rfl,zBz]
def nS {P:zZ}{ops:zQ}{C:zW->Prop}{Q:Act->Prop}{a:Act}{o:Oper}{rest:List Oper}(b:o.guard=aB)(ty:zD)(x:Operand)(i:o.op= .load ty x)
  (g:Nat) (c:a.eval x=aN (aA ⟨g,0,aB⟩)) (t:zD) (cs:zA) (d:TypeDesc) (j:∀w,C w->cD w g t cs)
  (f:P.underlying ty=aA d) (k:(match d with| .struct _| .array _ _=>aE|_=>aF)=aE) (hi:(P.info? ty).map (·.size)=aA cs.size)
  (h:wpQuiet P ops C Q rest (a.put o.dst (.agg cs))):wpQuiet P ops C Q (o::rest) a:=by
 refine wpQuiet_step λK l=> ?_;rw[zAq (by simp[Region.wanted,b])];refine⟨.agg cs,λw e=> ?_,l _ h⟩;unfold Oper.quietAt execOp;simp only[i,c,Instr.loadAt,Instr.sureAddr,Sem.run_bind,Sem.run_pure,Result.andThen_ok,run_loadVar_row w g t ty cs (0,0) d (j w e) f k hi];exact⟨rfl,rfl⟩
structure R8 where
 a:BitVec 32
 b:BitVec 32
 c:BitVec 32
 d:BitVec 32
 e:BitVec 32
 f:BitVec 32
 g:BitVec 32
 h:BitVec 32
def R8.one (k w:BitVec 32)(s:R8):BitVec 32:=s.h+S1 s.e+(s.e&&&s.f^^^ ~~~s.e&&&s.g)+k+w
def R8.two (s:R8):BitVec 32:=S0 s.a+(s.a&&&s.b^^^s.a&&&s.c^^^s.b&&&s.c)
def R8.step (k w:BitVec 32)(s:R8):R8:=⟨s.one k w+s.two,s.a,s.b,s.c,s.d+s.one k w,s.e,s.f,s.g⟩
def R8.steps (k ws:Nat->BitVec 32):Nat->R8->R8
 |0,s=>s
 |n+1,s=>(R8.steps k ws n s).step (k n) (ws n)
def R8.plus (s t:R8):R8:=⟨s.a+t.a,s.b+t.b,s.c+t.c,s.d+t.d,s.e+t.e,s.f+t.f,s.g+t.g,s.h+t.h⟩
def R8.mix (k ws:Nat->BitVec 32)(s:R8):R8:=s.plus (R8.steps k ws 64 s)
def R8.cells (s:R8):zA:= #[aC aO (V s.a),aC aO (V s.b),aC aO (V s.c),aC aO (V s.d),aC aO (V s.e),aC aO (V s.f),aC aO (V s.g),aC aO (V s.h)]
def mo (a b c d e:BitVec 32):(V a+V b+V c+V d+V e)%4294967296=V (a+b+c+d+e):=by simp only[V,aFn];omega
def bf (d p q k w:BitVec 32):(V d+(V p+V q+V k+V w))%4294967296=V (d+(p+q+k+w)):=by simp only[V,aFn];omega
def Table (g:Nat)(k:Nat->BitVec 32)(w:zW):Prop:=g<w.heap.size/\∀t:Nat,t<64->w.cell? ⟨g,t,aB⟩=aA (aC aO (V (k t)))
def FW (s:R8)(xs:zA)(w:zW):zW:=((w.alloc (aI s.cells 136)).alloc (aI xs 157)).alloc (aI #[aC aO 0,aC aO 0,aC aO 0,aC aO 0,aC aO 0,aC aO 0,aC aO 0,aC aO 0] 136)
def Mt (s:R8)(xs)(w)(n b t)(c:b<w.heap.size):((FW s xs w).drewN n).cell? ⟨b,t,aB⟩=w.cell? ⟨b,t,aB⟩:=by
 have h:zb w ((FW s xs w).drewN n):=by have a:zb w (FW s xs w):=(((zGe _ _).alloc (zAb _) _).alloc (by simp) _).alloc (by simp;omega) _;exact⟨a.os,a.tape,a.output,a.size,a.block⟩
 exact h.cell c
def Ms (s:R8)(xs)(w)(n t):((FW s xs w).drewN n).cell? ⟨w.heap.size+1,t,aB⟩=xs[t]? :=by
 show World.cell? (FW s xs w) _=_;have:(FW s xs w).heap[w.heap.size+1]? =aA (aI xs 157):=by show(((w.heap.push _).push _).push _)[w.heap.size+1]? =_;rw[zBg,zAn (by simp),zBg,zAq (by simp)]
 unfold World.cell?;rw[this];rfl
def R8.get (s:R8):Nat->BitVec 32
 |0=>s.a
 |1=>s.b
 |2=>s.c
 |3=>s.d
 |4=>s.e
 |5=>s.f
 |6=>s.g
 |_=>s.h
def R8.part (s u:R8)(t:Nat):R8:=⟨if 0<t then s.a+u.a else s.a,if 1<t then s.b+u.b else s.b,if 2<t then s.c+u.c else s.c,if 3<t then s.d+u.d else s.d,if 4<t then s.e+u.e else s.e,if 5<t then s.f+u.f else s.f,if 6<t then s.g+u.g else s.g,if 7<t then s.h+u.h else s.h⟩
def Gn (s u:R8)(t)(h:t<8):(s.part u t).cells[t]? =aA (aC aO (V (s.get t))):=by
 match t,h with
 |0,_|1,_|2,_|3,_|4,_|5,_|6,_|7,_=>rfl
def Gm (s u:R8)(t)(h:t<8):(s.part u t).cells.setIfInBounds t (aC aO (V (s.get t+u.get t)))=(s.part u (t+1)).cells:=by
 match t,h with
 |0,_|1,_|2,_|3,_|4,_|5,_|6,_|7,_=>rfl
def UH (u:R8)(t:Nat)(h:t<8)(w):(Instr.index 136 (.agg #[aC aO (V u.a),aC aO (V u.b),aC aO (V u.c),aC aO (V u.d),aC aO (V u.e),aC aO (V u.f),aC aO (V u.g),aC aO (V u.h)]) (aC aD (t))).run zq w= .ok (aC aO (V (u.get t))) w:=by
 have i0:(Instr.index 136 (.agg #[aC aO (V u.a),aC aO (V u.b),aC aO (V u.c),aC aO (V u.d),aC aO (V u.e),aC aO (V u.f),aC aO (V u.g),aC aO (V u.h)]) (aC aD 0)).run zq w= .ok (aC aO (V u.a)) w:=by kernel_rfl
 have i1:(Instr.index 136 (.agg #[aC aO (V u.a),aC aO (V u.b),aC aO (V u.c),aC aO (V u.d),aC aO (V u.e),aC aO (V u.f),aC aO (V u.g),aC aO (V u.h)]) (aC aD 1)).run zq w= .ok (aC aO (V u.b)) w:=by kernel_rfl
 have i2:(Instr.index 136 (.agg #[aC aO (V u.a),aC aO (V u.b),aC aO (V u.c),aC aO (V u.d),aC aO (V u.e),aC aO (V u.f),aC aO (V u.g),aC aO (V u.h)]) (aC aD 2)).run zq w= .ok (aC aO (V u.c)) w:=by kernel_rfl
 have i3:(Instr.index 136 (.agg #[aC aO (V u.a),aC aO (V u.b),aC aO (V u.c),aC aO (V u.d),aC aO (V u.e),aC aO (V u.f),aC aO (V u.g),aC aO (V u.h)]) (aC aD 3)).run zq w= .ok (aC aO (V u.d)) w:=by kernel_rfl
 have i4:(Instr.index 136 (.agg #[aC aO (V u.a),aC aO (V u.b),aC aO (V u.c),aC aO (V u.d),aC aO (V u.e),aC aO (V u.f),aC aO (V u.g),aC aO (V u.h)]) (aC aD 4)).run zq w= .ok (aC aO (V u.e)) w:=by kernel_rfl
 have i5:(Instr.index 136 (.agg #[aC aO (V u.a),aC aO (V u.b),aC aO (V u.c),aC aO (V u.d),aC aO (V u.e),aC aO (V u.f),aC aO (V u.g),aC aO (V u.h)]) (aC aD 5)).run zq w= .ok (aC aO (V u.f)) w:=by kernel_rfl
 have i6:(Instr.index 136 (.agg #[aC aO (V u.a),aC aO (V u.b),aC aO (V u.c),aC aO (V u.d),aC aO (V u.e),aC aO (V u.f),aC aO (V u.g),aC aO (V u.h)]) (aC aD 6)).run zq w= .ok (aC aO (V u.g)) w:=by kernel_rfl
 have i7:(Instr.index 136 (.agg #[aC aO (V u.a),aC aO (V u.b),aC aO (V u.c),aC aO (V u.d),aC aO (V u.e),aC aO (V u.f),aC aO (V u.g),aC aO (V u.h)]) (aC aD 7)).run zq w= .ok (aC aO (V u.h)) w:=by kernel_rfl
 have:t=0\/t=1\/t=2\/t=3\/t=4\/t=5\/t=6\/t=7:=by omega
 obtain rfl|rfl|rfl|rfl|rfl|rfl|rfl|rfl:=this
 .exact i0
 .exact i1
 .exact i2
 .exact i3
 .exact i4
 .exact i5
 .exact i6
 .exact i7
attribute [local go_sem] V_xor V_and V_or V_not V_add V_shr
def Th (s:R8)(xs)(ws j)(w)(r:∀t:Nat,t<64->xs[t]? =aA (aC aO (V (ws t))))(R:Table 2 j w):
  Calls zq 95 #[.agg s.cells,.agg xs] w λe y=>e=aL (.agg (s.mix j ws).cells)/\zb w y:=by
 obtain⟨P,O⟩:=R;unfold R8.cells;go_enter (Qz.fn func95),ntmps95;go_wp2;go_quiet (fail);go_wp2;go_quiet (fail);go_wp2;go_loopg [5,6,7,8,9,10,11,12,34] 64 (λk A B C D E F G H i wr=>∃t:Nat,t+k=64/\i=aC aD t/\A=aC aO (V (R8.steps j ws t s).a)/\B=aC aO (V (R8.steps j ws t s).b)/\C=aC aO (V (R8.steps j ws t s).c)/\D=aC aO (V (R8.steps j ws t s).d)
   /\E=aC aO (V (R8.steps j ws t s).e)/\F=aC aO (V (R8.steps j ws t s).f)/\G=aC aO (V (R8.steps j ws t s).g)/\H=aC aO (V (R8.steps j ws t s).h)/\∃n,wr=(FW s xs w).drewN n)
 case atStart=>exact⟨0,rfl,rfl,rfl,rfl,rfl,rfl,rfl,rfl,rfl,rfl,_,World.drewN_drewN _ _ _⟩
 case round=>
  obtain⟨t,v,rfl,rfl,rfl,rfl,rfl,rfl,rfl,rfl,rfl,u⟩:=hrel
  have m:=hid u
  generalize x:R8.steps j ws t s=st
  have l:=hid x
  by_cases bW:t<64
  .have T:wr.cell? ⟨2,t,aB⟩=aA (aC aO (V (j t))):=by
    obtain⟨n,rfl⟩:=m.out;rw[Mt _ _ _ _ _ _ P];exact O t bW
   have S:wr.cell? ⟨w.heap.size+1,t,aB⟩=aA (aC aO (V (ws t))):=by obtain⟨n,rfl⟩:=m.out;rw[Ms];exact r t bW
   go_wp2;go_quiet ((exact zGq (Zf _ _)));go_wp2_with (go_at_call 108;refine(Zg _ _).mono ?_;rintro e y ⟨rfl,rfl⟩);go_roundg (63-t);case measure=>omega
   case rel=>
    go_light
    have M:R8.steps j ws (t+1) s=st.step (j t) (ws t):=by rw[<-l.out];rfl
    refine⟨t+1,by omega,by go_num,?_⟩
    rw[M]
    refine⟨congrArg _ (mo _ _ _ _ _),rfl,rfl,rfl,congrArg _ (bf _ _ _ _ _),rfl,rfl,rfl,?_⟩
    obtain⟨n,N⟩:=m.out
    exact⟨_,by rw[N,World.drewN_drewN]⟩
  .have v:t=64:=by omega
   subst v;obtain⟨n,rfl⟩:=m.out;have J:Hid (zb w ((FW s xs w).drewN n)):=below_drewN ((((zGe _ _).alloc (zAb _) _).alloc (by simp) _).alloc (by simp;omega) _) n;have I:Hid (cD ((FW s xs w).drewN n) w.heap.size 136 s.cells):=cD.drewN (((cD.new _ _ _).alloc _).alloc _) n;have b3:Hid (∃z:zA,z.size=8/\cD ((FW s xs w).drewN n) (w.heap.size+1+1) 136 z):=⟨#[aC aO 0,aC aO 0,aC aO 0,aC aO 0,aC aO 0,aC aO 0,aC aO 0,aC aO 0],rfl,by have:=cD.new ((w.alloc (aI s.cells 136)).alloc (aI xs 157)) 136 #[aC aO 0,aC aO 0,aC aO 0,aC aO 0,aC aO 0,aC aO 0,aC aO 0,aC aO 0];rw[size_alloc,size_alloc]at this;exact this.drewN n⟩
   generalize(FW s xs w).drewN n=W at*;go_wp2;go_loopg [94] 8 (λk i wr=>∃t:Nat,t+k=8/\i=aC aD t/\zb w wr/\cD wr w.heap.size 136 (s.part st t).cells/\∃z:zA,z.size=8/\cD wr (w.heap.size+1+1) 136 z);case atStart=>exact⟨0,rfl,rfl,J.out,I.out,b3.out⟩
   case round=>
    obtain⟨t,v,rfl,c1,c2,c3⟩:=hrel
    have L:=hid c1
    have p:=hid c2
    have K:=hid c3
    clear c1 c2 c3 J I b3
    by_cases bW:t<8
    .have hi:=UH st t bW;have T:wr.cell? ⟨w.heap.size,t,aB⟩=aA (aC aO (V (s.get t))):=by{rw[p.out.cell,Gn _ _ _ bW]};have S:=p.out.frozen t;go_wp2;go_roundg (7-t);case measure=>omega
     case rel=>
      go_light
      refine⟨t+1,by omega,by go_num,L.out.setCell (zAb _) _,?_,?_⟩
      .have:=p.out.dL t (aC aO (V (s.get t+st.get t)));rw[Gm _ _ _ bW]at this;exact this
      .obtain⟨z,q,o⟩:=K.out;exact⟨z,q,o.bO _ _ (by simp;omega)⟩
    .obtain rfl:t=8:=by{omega};obtain⟨z,q,o⟩:=K.out;have c2:cD wr w.heap.size 136 (s.mix j ws).cells:=by rw[R8.mix,l.out];exact p.out
     have U:=hid c2;have Q:=hid o;clear c2 o;go_wp2_with (first
      |refine zGm rfl 136 _ rfl w.heap.size rfl _ _ _ _ U.out ((Qz.eO 136).trans underlying136) rfl (by kernel_rfl) ?_
      |refine zGk rfl 136 _ _ rfl (w.heap.size+1+1) _ rfl rfl _ _ Q.out (by kernel_rfl) (by rw[q];rfl) (by kernel_rfl) ?_)
     refine zGs ?_ rfl ⟨rfl,?_⟩;{exact results_cell_row results95 _ _ (w.heap.size+1+1) _ _ _ _ rfl (Q.out.dV _) ((Qz.eO 136).trans underlying136) rfl (by kernel_rfl)};{exact cA L.out (by omega) _}
def acc (l:zB):BitVec 32:=l.foldl (λx b=>x<<<8|||aFa 32 b.toNat) 0
def EA (l:zB)(t:Nat):BitVec 32:=acc ((l.drop (4*t)).take 4)
def put (f:Nat->BitVec 32)(t:Nat)(x:BitVec 32):Nat->BitVec 32:=λi=>if i=t then x else f i
def fX (l:zB)(t:Nat):Nat->BitVec 32:=λi=>if i<t then EA l i else 0
def sched (l:zB):Nat->Nat->BitVec 32
 |0=>fX l 16
 |n+1=>put (sched l n) (16+n) (s1 (sched l n (16+n-2))+sched l n (16+n-7)+s0 (sched l n (16+n-15))+sched l n (16+n-16))
def row (k:IntKind)(f:Nat->BitVec 32):zA:=((List.range 64).map λi=>Value.int k (V (f i))).toArray
def wY (k:IntKind)(f):(row k f).size=64:=by simp[row]
def lS (k:IntKind)(f)(i)(h:i<64):(row k f)[i]? =aA (.int k (V (f i))):=by simp[row,h]
def Cn (k:IntKind)(f)(t)(x:BitVec 32):(row k f).setIfInBounds t (.int k (V x))=row k (put f t x):=by
 apply zBy;intro i;rw[zBn,wY];by_cases h:i<64
 .rw[lS k (put f t x) i h];by_cases e:t=i
  .subst e;simp[h,put]
  .rw[zAn e,lS k _ i h];simp[put,zEa e]
 .rw[zBi (by rw[wY];omega),zBi (by rw[wY];omega)];by_cases e:t=i
  .subst e;simp[h]
  .rw[zAn e]
def row_one (k:IntKind)(f):(row k f).all (·.oneCell')=aE:=by rw[Array.all_eq_true_iff_forall_mem];intro v h;simp[row]at h;obtain⟨i,_,rfl⟩:=h;rfl
def Su (f)(t)(x y:BitVec 32):put (put f t x) t y=put f t y:=by funext i;unfold put;split<;>rfl
def Mb (f)(t)(x:BitVec 32):put f t x t=x:=by simp[put]
def ZS (l)(t):put (fX l t) t (EA l t)=fX l (t+1):=by
 funext i;unfold put fX;by_cases h:i=t
 .subst h;simp
 .rw[zAn h];by_cases a:i<t
  .rw[zAq a,zAq (by omega)]
  .rw[zAn a,zAn (by omega)]
def GK (l)(t):put (fX l t) t 0=fX l t:=by
 funext i;unfold put fX;by_cases h:i=t
 .subst h;simp
 .rw[zAn h]
def Pz (l)(b:UInt8):acc (l++[b])=acc l<<<8|||aFa 32 b.toNat:=by simp[acc]
def Ul:acc []=0:=rfl
def Yl (x:BitVec 32)(b:UInt8):bits .or aO (V x*256%4294967296) (b.toNat:Int)=V (x<<<8|||aFa 32 b.toNat):=by
 have a:V x*(256:Int)%(4294967296:Int)=V (x<<<8):=ij x 8;have c:=b.toNat_lt;have h:(b.toNat:Int)=V (aFa 32 b.toNat):=by unfold V;rw[BitVec.toNat_ofNat,Nat.mod_eq_of_lt (by omega)]
 rw[a,h,V_or]
def Es (s:zB)(j)(h:j<s.length):s.take (j+1)=s.take j++[s.getD j 0]:=by rw[zCp h];simp[h]
def kX (s:ByteArray)(a b):(s.extract a b).data.toList=(s.data.toList.take b).drop a:=by simp[aFp,List.drop_take]
attribute [local go_sem] V_xor V_and V_or V_not V_add V_shr
def XL (s)(hs:s.size=64)(w):
  Calls zq 96 #[aK s] w λe I=>e=aL (.agg (row aO (sched s.data.toList 48)))/\zb w I:=by
 have A:=λW r=>Lib.run_convert_string_bytes W 9 50 5 r ((Qz.eO 9).trans underlying9) ((Qz.eO 50).trans underlying50) ((Qz.eO 5).trans underlying5);have o:=λW r j=>Lib.bytesWorld_cell W 5 r j;have H:=hid o;go_enter (Qz.fn func96),ntmps96;go_wp2;go_loopg [8] 16 (λk i wr=>∃t:Nat,t+k=16/\i=aC aD t/\zb w wr/\w.heap.size+2<=wr.heap.size/\cD wr (w.heap.size+1) 157 (row aO (fX s.data.toList t))/\∃z:zA,z.size=64/\cD wr w.heap.size 157 z);case atStart=>
  refine⟨0,rfl,rfl,((zGe _ _).alloc (zAb _) _).alloc (by simp) _,by simp,?_,_,rfl,(cD.new _ _ _).alloc _⟩
  have:=cD.new (w.alloc (aI (row aO (fX s.data.toList 0)) 157)) 157 (row aO (fX s.data.toList 0))
  rw[size_alloc]at this
  exact this
 case round=>
  obtain⟨t,T,rfl,R,b2,b3,P⟩:=hrel
  have B:=hid R
  have q:=hid b3
  have p:=hid P
  by_cases bW:t<16
  .have J:min (4*t+4) 64-4*t=4:=by omega
   have u:Hid (EA s.data.toList t=acc (s.extract (4*t) (4*t+4)).data.toList):=by show _=_;rw[kX,EA,List.take_drop]
   go_wp2;have c1:Hid (zb w (aFy wr 5 (s.extract (4*t) (4*t+4)))):=B.out.trans ((VZ _ _ _).mono B.out.size);have a:(s.extract (4*t) (4*t+4)).size=4:=by simp[hs,J]
   have c3:Hid (cD (aFy wr 5 (s.extract (4*t) (4*t+4))) (w.heap.size+1) 157 (row aO (fX s.data.toList t))):=by show _=_;rw[aFA _ _ _ _ (by omega)];exact q.out
   have c4:Hid (∃z:zA,z.size=64/\cD (aFy wr 5 (s.extract (4*t) (4*t+4))) w.heap.size 157 z):=by obtain⟨z,m,l⟩:=p.out;refine⟨z,m,?_⟩;show _=_;rw[aFA _ _ _ _ (by omega)];exact l
   have c5:Hid (∀j,j<4->(aFy wr 5 (s.extract (4*t) (4*t+4))).cell? ⟨wr.heap.size,j,aB⟩=aA (aC aP ((s.extract (4*t) (4*t+4)).data.toList.getD j 0).toNat)):=λj F=>H.out _ _ j (by rw[a];exact F);have c2:wr.heap.size+1<=(aFy wr 5 (s.extract (4*t) (4*t+4))).heap.size:=by rw[aFz];omega
   have hl:Hid ((s.extract (4*t) (4*t+4)).data.toList.length=4):=by have:=a;rw[<-aFq]at this;rw[zDm];exact this
   clear B q p a;generalize aFy wr 5 (s.extract (4*t) (4*t+4))=W1 at*;generalize(s.extract (4*t) (4*t+4)).data.toList=b at*;generalize wr.heap.size=g at*;go_loopg [20] 4 (λk i c=>∃j:Nat,j+k=4/\i=aC aD j/\zb w c/\g+1<=c.heap.size/\cD c (w.heap.size+1) 157 (row aO (put (fX s.data.toList t) t (acc (b.take j))))/\(∃z:zA,z.size=64/\cD c w.heap.size 157 z)/\(∀j,j<4->c.cell? ⟨g,j,aB⟩=aA (aC aP (b.getD j 0).toNat)));case atStart=>exact⟨0,rfl,rfl,c1.out,c2,by rw[zFb,Ul,GK];exact c3.out,c4.out,c5.out⟩
   case round=>
    obtain⟨j,F,rfl,d1,O,d3,d4,d5⟩:=hrel
    clear c1 c2 c3 c4 c5
    have D1:=hid d1
    have D3:=hid d3
    have D4:=hid d4
    have D5:=hid d5
    clear d1 d3 d4 d5
    by_cases f:j<4
    .have G:=D5.out j f;have N:wr.cell? ⟨w.heap.size+1,t,aB⟩=aA (aC aO (V (acc (b.take j)))):=by{rw[D3.out.cell,lS _ _ _ (by omega),Mb]};have M:=D3.out.frozen t;have C:((b.getD j 0).toNat:Int)<256:=by{have:=(b.getD j 0).toNat_lt;omega};have D:0<=((b.getD j 0).toNat:Int):=zDz _;generalize E:((b.getD j 0).toNat:Int)=y at G C D;have S:=hid E;clear E;go_wp2;go_roundg (3-j);case measure=>omega
     case rel=>
      go_light
      have L:bits .or aO (V (acc (b.take j))*256%4294967296) y=V (acc (b.take (j+1))):=by rw[<-S.out,Yl,Es b j (by rw[hl.out];exact f),Pz]
      rw[L]
      refine⟨j+1,by omega,by go_num,D1.out.setCell (by simp) _,by rw[size_setCell];exact O,?_,?_,λk K=> ?_⟩
      .have:=D3.out.dL t (aC aO (V (acc (b.take (j+1)))));rw[Cn,Su]at this;exact this
      .obtain⟨z,m,l⟩:=D4.out;exact⟨z,m,l.bO _ _ (by simp)⟩
      .rw[World.cell?_setCell_other _ _ _ _ (by intro h;injection h;omega)];exact D5.out k K
    .obtain rfl:j=4:=by{omega};go_wp2;go_roundg (15-t);case measure=>omega
     case rel=>
      go_light
      refine⟨t+1,by omega,by go_num,D1.out,by omega,?_,D4.out⟩
      have:=D3.out
      rw[zBv (by rw[hl.out];omega),<-u.out,ZS]at this
      exact this
  .obtain rfl:t=16:=by{omega};clear H A hs;go_wp2;go_loopg [7] 48 (λk i c=>∃n:Nat,n+k=48/\i=aC aD (16+(n:Int))/\zb w c/\cD c (w.heap.size+1) 157 (row aO (sched s.data.toList n))/\∃z:zA,z.size=64/\cD c w.heap.size 157 z);case atStart=>exact⟨0,rfl,rfl,B.out,q.out,p.out⟩
   case round=>
    obtain⟨n,U,rfl,d1,d3,d4⟩:=hrel
    clear B q p
    have D1:=hid d1
    have D3:=hid d3
    have D4:=hid d4
    clear d1 d3 d4
    by_cases bW:n<48
    .have G:wr.cell? ⟨w.heap.size+1,16+n-2,aB⟩=aA (aC aO (V (sched s.data.toList n (16+n-2)))):=by{rw[D3.out.cell,lS _ _ _ (by omega)]};have N:wr.cell? ⟨w.heap.size+1,16+n-7,aB⟩=aA (aC aO (V (sched s.data.toList n (16+n-7)))):=by{rw[D3.out.cell,lS _ _ _ (by omega)]};have M:wr.cell? ⟨w.heap.size+1,16+n-15,aB⟩=aA (aC aO (V (sched s.data.toList n (16+n-15)))):=by{rw[D3.out.cell,lS _ _ _ (by omega)]};have Z:wr.cell? ⟨w.heap.size+1,n,aB⟩=aA (aC aO (V (sched s.data.toList n n))):=by{rw[D3.out.cell,lS _ _ _ (by omega)]};have Y:wr.cell? ⟨w.heap.size+1,16+n,aB⟩=aA (aC aO (V (sched s.data.toList n (16+n)))):=by{rw[D3.out.cell,lS _ _ _ (by omega)]};have X:wr.frozen? ⟨w.heap.size+1,16+n,aB⟩=aF:=D3.out.frozen _;go_wp2;refine Tail.Eu 23 (by kernel_rfl) (by kernel_rfl) ?_;simp only[zFg,zFb,zFj,zEs];(repeat (any_goals(first|go_big_quiet_step ((first|exact zGq (Lj _ _)|exact zGq (Lk _ _)))|quiet_step ((first|exact zGq (Lj _ _)|exact zGq (Lk _ _))))));refine zGy ?_;intro _ x;obtain⟨nq,rfl⟩:=x;go_wp2;go_roundg (47-n);case measure=>omega
     case rel=>
      go_light
      refine⟨n+1,by omega,by go_num,(below_drewN D1.out nq).setCell (by simp) _,?_,?_⟩
      .have:=(D3.out.drewN nq).dL (16+n) (aC aO (V (s1 (sched s.data.toList n (16+n-2))+sched s.data.toList n (16+n-7)+s0 (sched s.data.toList n (16+n-15))+sched s.data.toList n n)));rw[Cn]at this;have e:sched s.data.toList (n+1)=put (sched s.data.toList n) (16+n) (s1 (sched s.data.toList n (16+n-2))+sched s.data.toList n (16+n-7)+s0 (sched s.data.toList n (16+n-15))+sched s.data.toList n n):=by
        rw[sched,show 16+n-16=n from by omega]
       rw[e];exact this
      .obtain⟨z,m,l⟩:=D4.out;exact⟨z,m,(l.drewN nq).bO _ _ (by simp)⟩
    .obtain rfl:n=48:=by omega
     obtain⟨z,m,l⟩:=D4.out;have Q:=hid l;clear l;have a:=wY aO (sched s.data.toList 48);have d:=hid a;clear a;go_wp2_with (first
      |refine zGm rfl 157 _ rfl (w.heap.size+1) rfl _ _ _ _ D3.out ((Qz.eO 157).trans underlying157) rfl (by rw[d.out];kernel_rfl) ?_
      |refine zGk rfl 157 _ _ rfl w.heap.size _ rfl rfl _ _ Q.out (by rw[d.out];kernel_rfl) (by rw[m,d.out]) (row_one _ _) ?_)
     refine zGs (v:= .agg (row aO (sched s.data.toList 48))) ?_ rfl ⟨rfl,?_⟩;{exact results_cell_row results96 _ _ w.heap.size _ _ _ _ rfl (Q.out.dV _) ((Qz.eO 157).trans underlying157) rfl (by rw[d.out];kernel_rfl)};{exact cA D1.out (zAb _) _}
def oU (s:R8)(i:Nat):UInt8:=aFF (s.get (i/4)>>>(24-8*(i%4))).toNat
def fT (s:R8):zB:=(List.range 32).map (oU s)
def qT (s:R8)(t:Nat):zA:=((List.range 32).map λi=>Value.int aP (if i<t then((oU s i).toNat:Int)else 0)).toArray
def sR (s:R8)(t):(qT s t).size=32:=by simp[qT]
def qS (s:R8)(t i)(h:i<32):(qT s t)[i]? =aA (aC aP (if i<t then((oU s i).toNat:Int)else 0)):=by simp[qT,h]
def TD (s:R8)(t):(qT s t).setIfInBounds t (aC aP ((oU s t).toNat:Int))=qT s (t+1):=by
 apply zBy;intro i;rw[zBn,sR];by_cases h:i<32
 .rw[qS s (t+1) i h];by_cases e:t=i
  .subst e;simp[h]
  .rw[zAn e,qS s t i h];by_cases a:i<t
   .rw[zAq a,zAq (by omega)]
   .rw[zAn a,zAn (by omega)]
 .rw[zBi (by rw[sR];omega),zBi (by rw[sR];omega)];by_cases e:t=i
  .subst e;simp[h]
  .rw[zAn e]
def XJ (s:R8)(i)(h:i<8):s.cells[i]? =aA (aC aO (V (s.get i))):=by
 have:i=0\/i=1\/i=2\/i=3\/i=4\/i=5\/i=6\/i=7:=by omega
 obtain rfl|rfl|rfl|rfl|rfl|rfl|rfl|rfl:=this<;>rfl
attribute [local go_sem] V_shr
def Ir (s:R8)(w):
  Calls zq 78 #[.agg s.cells] w λe d=>e=aL (aK ⟨(fT s).toArray⟩)/\zb w d:=by
 have o:Hid ((#[aC aP 0,aC aP 0,aC aP 0,aC aP 0,aC aP 0,aC aP 0,aC aP 0,aC aP 0,aC aP 0,aC aP 0,aC aP 0,aC aP 0,aC aP 0,aC aP 0,aC aP 0,aC aP 0,aC aP 0,aC aP 0,aC aP 0,aC aP 0,aC aP 0,aC aP 0,aC aP 0,aC aP 0,aC aP 0,aC aP 0,aC aP 0,aC aP 0,aC aP 0,aC aP 0,aC aP 0,aC aP 0]:zA)=qT s 0):=rfl;go_enter (Qz.fn func78),ntmps78;go_wp2;go_loopg [5] 32 (λk i wr=>∃t:Nat,t+k=32/\i=aC aD t/\zb w wr/\cD wr w.heap.size 136 s.cells/\cD wr (w.heap.size+1) 160 (qT s t));case atStart=>
  refine⟨0,rfl,rfl,((zGe _ _).alloc (zAb _) _).alloc (by simp) _,(cD.new _ _ _).alloc _,?_⟩
  have:=cD.new (w.alloc (aI s.cells 136)) 160 (qT s 0)
  rw[size_alloc]at this
  exact this
 case round=>
  obtain⟨t,p,rfl,n,m,b3⟩:=hrel
  have c:=hid n
  have b:=hid m
  have B:=hid b3
  by_cases bW:t<32
  .have r:wr.cell? ⟨w.heap.size,t/4,aB⟩=aA (aC aO (V (s.get (t/4)))):=by{rw[b.out.cell,XJ _ _ (by omega)]};have l:wr.cell? ⟨w.heap.size+1,t,aB⟩=aA (aC aP (if t<t then((oU s t).toNat:Int)else 0)):=by{rw[B.out.cell,qS _ _ _ bW]};rw[zAn (by omega)]at l;have q:wr.frozen? ⟨w.heap.size+1,t,aB⟩=aF:=B.out.frozen _;go_wp2;go_roundg (31-t);case measure=>omega
   case rel=>
    go_light
    have g:V (s.get (t/4)>>>(24-8*(t%4)))%256=((oU s t).toNat:Int):=by unfold V oU;rw[zDr];omega
    rw[g]
    refine⟨t+1,by omega,by go_num,c.out.setCell (by simp) _,b.out.bO _ _ (by simp),?_⟩
    have:=B.out.dL t (aC aP ((oU s t).toNat:Int))
    rw[TD]at this
    exact this
  .obtain rfl:t=32:=by omega
   have a:=lR wr 50 9 5 (w.heap.size+1) 0 32 (fT s) ((Qz.eO 50).trans underlying50) ((Qz.eO 5).trans underlying5) ((Qz.eO 9).trans underlying9) (λj f=>by
    have h:j<32:=by simpa [fT]using f
    rw[zAx,B.out.cell,qS _ _ _ h,zAq h];simp[fT,h])
   rw[show(fT s).length=32 from by simp[fT]]at a;go_wp2;go_ret;exact⟨rfl,c.out⟩
def UE:List Nat:=[1116352408,1899447441,3049323471,3921009573,961987163,1508970993,2453635748,2870763221,3624381080,310598401,607225278,1426881987,1925078388,2162078206,2614888103,3248222580,3835390401,4022224774,264347078,604807628,770255983,1249150122,1555081692,1996064986,2554220882,2821834349,2952996808,3210313671,3336571891,3584528711,113926993,338241895,666307205,773529912,1294757372,1396182291,1695183700,1986661051,2177026350,2456956037,2730485921,2820302411,3259730800,3345764771,3516065817,3600352804,4094571909,275423344,430227734,506948616,659060556,883997877,958139571,1322822218,1537002063,1747873779,1955562222,2024104815,2227730452,2361852424,2428436474,2756734187,3204031479,3329325298]
def K (i:Nat):BitVec 32:=aFa 32 (UE.getD i 0)
def H0:R8:=⟨BitVec.ofNat 32 1779033703,aFa 32 3144134277,aFa 32 1013904242,aFa 32 2773480762,aFa 32 1359893119,aFa 32 2600822924,aFa 32 528734635,aFa 32 1541459225⟩
def blk (l:zB)(j:Nat):zB:=(l.drop (64*j)).take 64
def dM (s:R8)(l:zB):Nat->R8
 |0=>s
 |j+1=>(dM s l j).mix K (sched (blk l j) 48)
def Tk (n i:Nat):UInt8:=aFF (8*n/2^(8*(7-i)))
def mD (n:Nat):zB:=(List.range 8).map (Tk n)
def zs (n:Nat):Nat:=(119-n%64)%64
def behind (n:Nat):zB:=128::(List.replicate (zs n) 0++mD n)
def qR (l:zB):zB:=l++behind l.length
def Lc (l:zB):zB:=fT (dM H0 (qR l) ((qR l).length/64))
def pS (n):(behind n).length=9+zs n:=by simp[behind,mD];omega
def JR (l):(qR l).length=l.length+9+zs l.length:=by simp[qR,pS];omega
def VW (s:R8)(a b):∀j,64*j<=a.length->dM s (a++b) j=dM s a j:=by
 intro j;induction j with
 |zero=>intro _;rfl
 |succ j i=>
  intro h;have e:blk (a++b) j=blk a j:=by unfold blk;rw[List.drop_append_of_le_length (by omega),zFp (by simp;omega)]
  simp only[dM,i (by omega),e]
def Ay (s:R8)(a b)(k)(h:a.length=64*k):∀j,dM s (a++b) (k+j)=dM (dM s a k) b j:=by
 intro j;induction j with
 |zero=>exact VW s a b k (by omega)
 |succ j i=>
  have e:blk (a++b) (k+j)=blk b j:=by unfold blk;rw[Nat.mul_add,<-h,<-List.drop_drop,List.drop_left]
  rw[<-zCc];simp only[dM,i,e]
def Se (l):Lc l=fT (dM (dM H0 (l.take (l.length-l.length%64)) (l.length/64)) (l.drop (l.length-l.length%64)++behind l.length) ((l.length%64+9+zs l.length)/64)):=by
 have a:l.length-l.length%64=64*(l.length/64):=by omega
 have e:qR l=l.take (l.length-l.length%64)++(l.drop (l.length-l.length%64)++behind l.length):=by rw[<-zDa,zFn];rfl
 have h:(qR l).length/64=l.length/64+(l.length%64+9+zs l.length)/64:=by rw[JR];unfold zs;omega
 unfold Lc;rw[h,e,Ay _ _ _ (l.length/64) (by simp;omega)]
def rQ (s:R8):(fT s).length=32:=by simp[fT]
def YA (l):(Lc l).length=32:=rQ _
def Own (w:zW)(base:Nat)(e:zD)(v:zY)(n:Nat)(xs:zV):Prop:=
 xs.length=n/\((v=aJ aB 0 0/\n=0)\/
  ∃(g cap:Nat)(c:zA)(f:Nat×Nat),v=aJ (aA ⟨g,0,aB⟩) n cap/\base<=g/\w.heap[g]? =aA (aI c e f)/\(∀j,j<c.size->¬(f.1<=j/\j<f.2))/\n<=cap/\c.size=cap/\c.toList.take n=xs)
def Own.nil (w)(base)(e):Own w base e (aJ aB 0 0) 0 []:=⟨rfl,aG ⟨rfl,rfl⟩⟩
def Own.cell {w base e g n cap xs}(h:Own w base e (aJ (aA ⟨g,0,aB⟩) n cap) n xs)(j)(i:j<n):w.cell? ⟨g,j,aB⟩=xs[j]? :=by
 obtain⟨_,b⟩:=h;obtain⟨b,_⟩|⟨m,c,cur,l,d,_,k,_,_,_,f⟩:=b
 .cases b
 .injection d with a p o;iterate 2 (injection a with a)
  subst a;rw[zGv w g j cur e l k,<-f,zCs,zAq i];simp
def Own.base {w base e g n cap xs}(h:Own w base e (aJ (aA ⟨g,0,aB⟩) n cap) n xs):base<=g/\g<w.heap.size/\n<=cap:=by
 obtain⟨_,b⟩:=h;obtain⟨b,_⟩|⟨k,c,cur,l,d,hb,f,_,i,_,_⟩:=b
 .cases b
 .injection d with a m j;iterate 2 (injection a with a)
  subst a j;exact⟨hb,(zAa.1 f).1,i⟩
def Own.kept {w w' base e v n xs}(h:Own w base e v n xs)(b:∀g,v.ownBlock=aA g->w'.heap[g]? =w.heap[g]?):Own w' base e v n xs:=by
 obtain⟨d,a⟩:=h;refine⟨d,?_⟩;obtain a|⟨g,cap,cur,f,rfl,hb,c,r⟩:=a
 .exact aG a
 .exact aH ⟨g,cap,cur,f,rfl,hb,by rw[b g rfl];exact c,r⟩
def Own.lt {w base e v n xs}(h:Own w base e v n xs):∀g,v.ownBlock=aA g->base<=g/\g<w.heap.size:=by
 intro g a;obtain⟨rfl,_⟩|⟨c,cap,cur,f,rfl,hb,b,_⟩:=h.2
 .cases a
 .injection a with a;subst a;exact⟨hb,(zAa.1 b).1⟩
def Own.alloc {w:zW}{base:Nat}{e:zD}{v:zY}{n:Nat}{xs:zV}(h:Own w base e v n xs)(o:Obj):Own (w.alloc o) base e v n xs:=
 h.kept λg a=>Below.heap_alloc w o g (h.lt g a).2
def Own.below {w w':zW}{B base:Nat}{e:zD}{v:zY}{n:Nat}{xs:zV}(h:Own w base e v n xs)(b:Below B w w')(c:w.heap.size<=B):Own w' base e v n xs:=
 h.kept λg a=>b.block g (zAc (h.lt g a).2 c)
def Own.setRow {w:zW}{base:Nat}{e:zD}{v:zY}{n:Nat}{xs:zV}(h:Own w base e v n xs)(k:Nat)(cs:zA)(b:k<base):Own (w.setRow k cs) base e v n xs:=
 h.kept λg a=>kU w k g cs (by have:=(h.lt g a).1;omega)
def JW (b):∀(d)(o)(w:zW)(c)(e)(f:Nat×Nat),w.heap[b]? =aA (aI c e f)->o+d.length<=c.size->
  ∃a,(w.setCells b o d).heap[b]? =aA (aI a e f)/\a.size=c.size/\a.toList.take (o+d.length)=c.toList.take o++d:=by
 intro d;induction d with
 |nil=>intro o w c e f h _;exact⟨c,h,rfl,by simp⟩
 |cons v r i=>
  intro o w c e f h hl;simp only[zAh]at hl;have l:(w.setCell ⟨b,o,aB⟩ v).heap[b]? =aA (aI (c.setIfInBounds o v) e f):=by simp only[World.setCell,zDq,zCq,h];rfl
  obtain⟨a,k,j,g⟩:=i (o+1) _ _ e f l (by simp;omega);refine⟨a,k,by rw[j];simp,?_⟩;rw[zAh,show o+(r.length+1)=o+1+r.length from by omega,g];have:(c.setIfInBounds o v).toList.take (o+1)=c.toList.take o++[v]:=by rw[zDu,zCp (by simp;omega)];simp only[List.getElem_set_self];rw[List.take_set,List.set_eq_of_length_le (by simp;omega)]
  rw[this,zDa];rfl
def uL (b k)(h:k≠b):∀(a)(o)(w:zW),(w.setCells b o a).heap[k]? =w.heap[k]? :=by
 intro a;induction a with
 |nil=>intro o w;rfl
 |cons v r i=>intro o w;rw[World.setCells,i,zGh _ _ _ _ h]
def JL (b):∀(e)(o)(w:zW),(w.setCells b o e).os=w.os/\(w.setCells b o e).tape=w.tape/\(w.setCells b o e).output=w.output/\(w.setCells b o e).heap.size=w.heap.size:=by
 intro e;induction e with
 |nil=>intro o w;exact⟨rfl,rfl,rfl,rfl⟩
 |cons v r i=>intro o w;obtain⟨a,b,c,d⟩:=i (o+1) (w.setCell ⟨b,o,aB⟩ v);exact⟨a,b,c,by rw[World.setCells,d,size_setCell]⟩
def CR {P}(w)(base)(t ty e)(i:TypeInfo)(z)(G:P.underlying t=aA (.slice e))(hi:P.info? e=aA i)(R:i.zero=aA z)
  (d:i.size=1) (F:z.cells.size=1) (v) (n) (xs) (b:Own w base e v n xs)
  (a) (m c) (news) (Y:0<m) (hl:news.length=m) (l:∀j u,news[j]? =aA u->w.cell? (a.add j)=aA u) (h1:∀u∈news,u.oneCell'=aE)
  (M:n+m<=maxLen) (o:(n+m)*i.bytes<=140737488355328) (s:base<=w.heap.size):
  ∃O E,(Builtin.append_ #[t,t] ty #[v,aJ (aA a) m c]).run P w= .ok O E/\Own E base e O (n+m) (xs++news)/\w.grownBy E v.ownBlock:=by
 have hlen:(xs++news).length=n+m:=by rw[zAi,b.1,hl]
 have C:n+m<=9223372036854775807:=by simp only[maxLen]at M;omega
 have grown:∀(old:Nat)(row:Option Nat),
   Own (w.drew.alloc (aI (xs.toArray++news.toArray++Builtin.zeroCells z.cells (grownCap w (n+m) old e-(n+m))) e)) base e (aJ (aA ⟨w.heap.size,0,aB⟩) (n+m) (grownCap w (n+m) old e)) (n+m) (xs++news)/\
   w.grownBy (w.drew.alloc (aI (xs.toArray++news.toArray++Builtin.zeroCells z.cells (grownCap w (n+m) old e-(n+m))) e)) row:=by
  intro old row
  have J:=grownCap_ge w (n+m) old e
  refine⟨⟨hlen,aH ⟨w.heap.size,_,_,(0,0),rfl,s,zGn w.drew _,λj _ h=>by simp at h,J,?_,?_⟩⟩,⟨rfl,rfl,rfl,by simp,λk D _=>(by first|exact heap_alloc_old w.drew _ D|exact heap_alloc_old w.drew _ k D)⟩⟩
  .simp only[zEd,zAr,size_zeroCells,F,b.1,hl];omega
  .simp only[zFu];rw[<-hlen];exact List.take_left
 obtain⟨rfl,rfl⟩|⟨g,cap,cur,N,rfl,L,K,y,X,A,r⟩:=b.2
 .have W:=zDl b.1;subst W;have H:=run_append_nil w t ty e i z G hi R a m c news (by rw[hl,d];omega) l Y (by omega) (by rw[zAx]at o;omega);have p:=grown 0 (Value.ownBlock (aJ aB 0 0));simp only[zAx,zCn,zBz]at p⊢;exact⟨_,_,H,p.1,p.2⟩
 .by_cases f:n+m<=cap
  .obtain⟨B,V,Q,U⟩:=JW g news n w cur e N K (by rw[hl,A];exact f);obtain⟨s1,s2,T,s4⟩:=JL g news n w;have Z:=run_firstCells_some (P:=P) w 1 m a m c news (by omega) l;have x:=run_storeCells_cells (P:=P) g n news 0 w (λj I=>by rw[aFC,zGv w g _ cur e N K];simp;omega) (λj I=>by
    have:=y (n+j) (by omega);simp only[World.frozen?,aFC,K];rw[Bool.and_eq_false_iff];simp only[zEr];omega) h1
   rw[aFC]at x;have q:(⟨g,0,aB⟩:Addr).add n=⟨g,n,aB⟩:=by{unfold Addr.add;split<;>simp_all};refine⟨aJ (aA ⟨g,0,aB⟩) (n+m) cap,w.setCells g n news,?_,⟨hlen,aH ⟨g,cap,B,N,rfl,L,V,by rw[Q];exact y,f,by rw[Q,A],?_⟩⟩,⟨s1,s2,T,by omega,λk _ D=>uL g k (λh=>D (by rw[h];rfl)) news n w⟩⟩;{simp[Builtin.append_,run_underlying G,sizeOf,typeInfo,hi,d,Builtin.lenOf,f,Z,q,x]};{rw[<-hl,U,r]}
  .have holds:∀j u,xs[j]? =aA u->w.cell? ((⟨g,0,aB⟩:Addr).add j)=aA u:=λj u S=>by
    have q:(⟨g,0,aB⟩:Addr).add j=⟨g,j,aB⟩:=by{unfold Addr.add;split<;>simp_all};have I:j<n:=by{have:=(zAu.1 S).1;rw[b.1]at this;exact this};rw[q,b.cell j I,S]
   have H:=run_append_grow w t ty e i z G hi R ⟨g,0,aB⟩ n cap xs (by rw[b.1,d];omega) holds a m c news (by rw[hl,d];omega) l (by omega) (by omega) (growslice_fits (by omega) o);have p:=grown cap (Value.ownBlock (aJ (aA ⟨g,0,aB⟩) n cap));exact⟨_,_,H,p.1,p.2⟩
def vI {P w ops rest o a Q}(p:o.guard=aB)(s x)(t)
  (C:o.op= .call {callee:= .builtin .append,args:= #[s,x],argTypes:= #[t,t]})
  (base) (e) (i:TypeInfo) (z) (A:P.underlying t=aA (.slice e)) (hi:P.info? e=aA i) (r:i.zero=aA z)
  (d:i.size=1) (l:z.cells.size=1) (v) (n) (xs) (hs:a.eval s=v) (k:Own w base e v n xs)
  (ad) (m c) (news) (D:0<m) (y:a.eval x=aJ (aA ad) m c) (hl:news.length=m) (f:∀j u,news[j]? =aA u->w.cell? (ad.add j)=aA u) (H:∀u∈news,u.oneCell'=aE)
  (q:n+m<=maxLen) (b:(n+m)*i.bytes<=140737488355328) (g:base<=w.heap.size)
  (h:∀v' w',Own w' base e v' (n+m) (xs++news)->w.grownBy w' v.ownBlock->wpList P ops Q rest (a.put o.dst v') w'):wpList P ops Q (o::rest) a w:=by
 obtain⟨v',w',B,G,F⟩:=CR w base t o.type e i z A hi r d l v n xs k ad m c news D hl f H q b g;refine wpList_plain p λ_ E=> ?_;unfold Oper.wp execOp;simp only[C,resolve,invoke,builtin,Sem.run_bind,Sem.run_pure,Result.andThen_ok,zFf,zDw,List.map_nil,hs,y,B];exact E _ _ (h v' w' G F)
def Own.form {w base e v n xs}(h:Own w base e v n xs)(b:0<n):∃g cap,v=aJ (aA ⟨g,0,aB⟩) n cap:=by
 obtain⟨_,c⟩|⟨g,cap,_,_,a,_⟩:=h.2
 .omega
 .exact⟨g,cap,a⟩
def kV {w w':zW}{o:Obj}{row:Option Nat}(h:(w.alloc o).grownBy w' row):w.grownBy w' row:=
 ⟨h.os,h.tape,h.output,by have:=h.size;rw[size_alloc]at this;omega,λk b a=>by rw[h.block k (by rw[size_alloc];omega) a];exact Below.heap_alloc w o k b⟩
def cD.grown {w w' row g t cs}(h:cD w g t cs)(b:w.grownBy w' row)(a:aA g≠row):cD w' g t cs:=by unfold cD;rw[b.block g h.lt a];exact h
def uB {w base e v n xs}(h:Own w base e v n xs)(g)(b:g<base):aA g≠v.ownBlock:=by intro a;have:=(h.lt g a.symm).1;omega
def pB {w0 w w':zW}{B base:Nat}{e:zD}{v:zY}{n:Nat}{xs:zV}(d:Below B w0 w)(h:Own w base e v n xs)(c:w.grownBy w' v.ownBlock)(f:B<=base)(a:B<=w.heap.size):Below B w0 w':=
 d.grown c a λk b=>zAw f (h.lt k b).1
def AX:∃i,zq.info? 5=aA i/\i.zero=aA (aC aP 0)/\i.size=1/\i.bytes=1:=by
 have h:(zq.info? 5).map (λi=>(i.zero,i.size,i.bytes))=aA (aA (aC aP 0),1,1):=by kernel_rfl
 cases a:zq.info? 5 with
 |none=>rw[a]at h;cases h
 |some i=>rw[a]at h;simp only[zBe,aE1,aFE]at h;exact⟨i,rfl,h.1,h.2.1,h.2.2⟩
def RI:∃i,zq.info? 9=aA i/\i.zero=aA (aK ⟨#[]⟩)/\i.size=1/\i.bytes=16:=by
 have h:(zq.info? 9).map (λi=>(i.zero,i.size,i.bytes))=aA (aA (aK ⟨#[]⟩),1,16):=by kernel_rfl
 cases a:zq.info? 9 with
 |none=>rw[a]at h;cases h
 |some i=>rw[a]at h;simp only[zBe,aE1,aFE]at h;exact⟨i,rfl,h.1,h.2.1,h.2.2⟩
def pE {W ops rest o a Q}(f:o.guard=aB)(s x)
  (r:o.op= .call {callee:= .builtin .append,args:= #[s,x],argTypes:= #[82,82]})
  (base) (v) (n) (xs) (hs:a.eval s=v) (b:Own W base 9 v n xs) (ys) (c) (p:a.eval x=aJ (aA ⟨W.heap.size,0,aB⟩) ys.length c) (m:0<ys.length) (y:∀u∈ys,u.oneCell'=aE)
  (z:n+ys.length<=1000000) (k:base<=W.heap.size)
  (h:∀v' w',Own w' base 9 v' (n+ys.length) (xs++ys)->W.grownBy w' v.ownBlock->wpList zq ops Q rest (a.put o.dst v') w'):wpList zq ops Q (o::rest) a (W.alloc (aI ys.toArray 9)):=by
 obtain⟨i,hi,l,e,g⟩:=RI;refine vI f s x 82 r base 9 i (aK ⟨#[]⟩) ((Qz.eO 82).trans underlying82) hi l e rfl v n xs hs (b.alloc _) _ ys.length c ys m p rfl (λj u q=> ?_) y (by simp only[maxLen];omega) (by rw[g];omega) (by rw[size_alloc];omega) (λv' w' w t=>h v' w' w (kV t));have d:(⟨W.heap.size,0,aB⟩:Addr).add j=⟨W.heap.size,j,aB⟩:=by unfold Addr.add;split<;>simp_all
 rw[d,(cD.new W 9 ys.toArray).cell j];simpa using q
def cK (s:R8):s.cells.size=8:=rfl
def cells_one (s:R8):s.cells.all (·.oneCell')=aE:=by simp[R8.cells,Value.oneCell']
def Table.below {g:Nat}{k:Nat->BitVec 32}{w w':zW}{B:Nat}(h:Table g k w)(a:Below B w w')(c:w.heap.size<=B):Table g k w':=
 ⟨zAc h.1 a.size,λt b=>by rw[a.cell (p:=⟨g,t,aB⟩) (zAc h.1 c)];exact h.2 t b⟩
def uX (s:R8)(text)(w)(M:Table 2 K w)(_hl:text.size<=9223372036854775807):
  Calls zq 76 #[.agg s.cells,aK text] w λe E=>e=aL (.agg (dM s text.data.toList (text.size/64)).cells)/\zb w E:=by
 have S:=hid M;have N:Hid (text.data.toList.length=text.size):=by show _=_;simp
 generalize O:text.data.toList=L at*;have T:=hid O;generalize G:text.size=n at*;have R:=hid G;go_enter (Qz.fn func76),ntmps76;go_wp2;go_loopg [1] (n/64) (λq v wr=>∃(j:Nat)(b:ByteArray),j+q=n/64/\v=aK b/\b.data.toList=L.drop (64*j)/\b.size=n-64*j/\zb w wr/\cD wr w.heap.size 136 (dM s L j).cells/\∃z:zA,z.size=8/\cD wr (w.heap.size+1) 136 z);case atStart=>
  refine⟨0,text,by omega,rfl,by rw[T.out];rfl,by rw[R.out];rfl,((zGe _ _).alloc (zAb _) _).alloc (by simp) _,(cD.new _ _ _).alloc _,#[aC aO 0,aC aO 0,aC aO 0,aC aO 0,aC aO 0,aC aO 0,aC aO 0,aC aO 0],rfl,?_⟩
  have:=cD.new (w.alloc (aI s.cells 136)) 136 #[aC aO 0,aC aO 0,aC aO 0,aC aO 0,aC aO 0,aC aO 0,aC aO 0,aC aO 0]
  rw[size_alloc]at this
  exact this
 case round=>
  obtain⟨j,b,U,rfl,d1,y,C,A,b3⟩:=hrel
  have D1:=hid d1
  have D2:=hid y
  have g:=hid C
  have B:=hid A
  have D:=hid b3
  clear d1 y C A b3
  have I:b.size<=n:=by rw[D2.out];omega
  by_cases bW:j<n/64
  .have m:64<=b.size:=by rw[D2.out];omega
   have f:(b.extract 0 64).data.toList=blk L j:=by rw[kX,zEs,D1.out];rfl
   have H:=hid f;clear f;have o:Hid (∀(d:Nat)(os:zJ),Calls zq 96 #[aK (b.extract 0 64)] (Go.Sort.grow (redrawn wr d) os) λe c=>e=aL (.agg (row aO (sched (blk L j) 48)))/\∃p:Regrown,c=Go.Sort.grow (redrawn wr p.d) p.os):=λd os=>by have h:=XL (b.extract 0 64) (by simp;omega) (Go.Sort.grow (redrawn wr d) os);rw[H.out]at h;exact aFw h
   have r:Hid (∀(d:Nat)(os:zJ),Calls zq 95 #[.agg (dM s L j).cells,.agg (row aO (sched (blk L j) 48))] (Go.Sort.grow (redrawn wr d) os) λe c=>e=aL (.agg (dM s L (j+1)).cells)/\∃p:Regrown,c=Go.Sort.grow (redrawn wr p.d) p.os):=λd os=>
    aFw (Th (dM s L j) (row aO (sched (blk L j) 48)) (sched (blk L j) 48) K _ (λt F=>lS _ _ _ F) ((S.out.below g.out (zAb _)).below (zGl wr d os) (zAb _)))
   go_wp2;refine Tail.vJ 5 (by kernel_rfl) (by kernel_rfl) ?_;simp only[zFg,zFb,zFj,zEs];refine nS rfl 136 _ rfl w.heap.size rfl 136 (dM s L j).cells _ (λW J=> ?_) ((Qz.eO 136).trans underlying136) rfl (by rw[cK];kernel_rfl) ?_;{obtain⟨p,rfl⟩:=J;exact B.out.below (zGl wr p.d p.os) B.out.lt};simp only[Act.put,zCf,zDg,zDd];(repeat (any_goals(first|go_big_quiet_step ((first|(go_at_call 96;exact o.out _ _)|(go_at_call 95;exact r.out _ _)))|quiet_step ((first|(go_at_call 96;exact o.out _ _)|(go_at_call 95;exact r.out _ _))))));refine zGy ?_;intro P k;obtain⟨p,x⟩:=k;have l:Hid (zb wr P):=by{rw[x];exact zGl wr p.d p.os};clear x o r;have u:=hid (B.out.below l.out B.out.lt);go_wp2_with (refine zGk rfl 136 _ _ rfl w.heap.size _ rfl rfl _ _ u.out (by rw[cK];kernel_rfl) (by rw[cK,cK]) (cells_one _) ?_);go_roundg (n/64-(j+1));case measure=>omega
   case rel=>
    go_light
    refine⟨j+1,_,by omega,rfl,?_,?_,cA (g.out.trans (l.out.mono g.out.size)) (zAb _) _,u.out.dV _,?_⟩
    .rw[kX,zBv (by simp),D1.out,List.drop_drop,show 64*j+64=64*(j+1)from by omega]
    .have:=D2.out;simp;omega
    .obtain⟨z,i,a⟩:=D.out;exact⟨z,i,(a.below l.out a.lt).zM _ (by omega)⟩
  .obtain rfl:j=n/64:=by{omega};have m:b.size<64:=by rw[D2.out];omega
   obtain⟨z,i,a⟩:=D.out;have Q:=hid a;clear a;go_wp2_with (first
    |refine zGm rfl 136 _ rfl w.heap.size rfl _ _ _ _ B.out ((Qz.eO 136).trans underlying136) rfl (by rw[cK];kernel_rfl) ?_
    |refine zGk rfl 136 _ _ rfl (w.heap.size+1) _ rfl rfl _ _ Q.out (by rw[cK];kernel_rfl) (by rw[i,cK]) (cells_one _) ?_)
   refine zGs ?_ rfl ⟨rfl,?_⟩;{exact results_cell_row results76 _ _ (w.heap.size+1) _ _ _ _ rfl (Q.out.dV _) ((Qz.eO 136).trans underlying136) rfl (by rw[cK];kernel_rfl)};{exact cA g.out (by omega) _}
end Go.Proofs.Zq
namespace Go.Proofs
open Go.Shelf
def Qz.CG:Go.Shelf.Ren:=⟨λ|105=>97|212=>111|99=>112|165=>113|166=>114|170=>115|169=>116|263=>122|264=>123|206=>124|240=>125|241=>126|276=>131|277=>132|n=>n,λ|9=>9|3=>3|4=>4|20=>20|0=>0|46=>139|109=>174|5=>5|72=>178|76=>181|51=>135|146=>187|53=>122|148=>189|70=>176|37=>50|75=>180|127=>184|164=>191|80=>161|n=>n,λ|n=>n⟩
def Qz.Tn:Go.Proofs.Lays.n105 zq Qz.CG:={
 mixed:=by kernel_rfl
 f99:=(Qz.fn func112).trans (congrArg aA (by kernel_rfl))
 f105:=(Qz.fn func97).trans (congrArg aA (by kernel_rfl))
 f165:=(Qz.fn func113).trans (congrArg aA (by kernel_rfl))
 f166:=(Qz.fn func114).trans (congrArg aA (by kernel_rfl))
 f169:=(Qz.fn func116).trans (congrArg aA (by kernel_rfl))
 f170:=(Qz.fn func115).trans (congrArg aA (by kernel_rfl))
 f206:=(Qz.fn func124).trans (congrArg aA (by kernel_rfl))
 f212:=(Qz.fn func111).trans (congrArg aA (by kernel_rfl))
 f240:=(Qz.fn func125).trans (congrArg aA (by kernel_rfl))
 f241:=(Qz.fn func126).trans (congrArg aA (by kernel_rfl))
 f263:=(Qz.fn func122).trans (congrArg aA (by kernel_rfl))
 f264:=(Qz.fn func123).trans (congrArg aA (by kernel_rfl))
 f276:=(Qz.fn func131).trans (congrArg aA (by kernel_rfl))
 f277:=(Qz.fn func132).trans (congrArg aA (by kernel_rfl))
 t0:=((Qz.eO 0).trans Tryz.underlying0)
 a0:=(λw=>(Qz.isAgg w 0).trans (Tryz.isAgg0 w))
 z0:=(λw=>(Qz.sizeOf w 0).trans (Tryz.sizeOf0 w))
 v0:=(λw=>(Qz.zeroValue w 0).trans (Tryz.zeroValue0 w))
 t3:=((Qz.eO 3).trans Tryz.underlying3)
 a3:=(λw=>(Qz.isAgg w 3).trans (Tryz.isAgg3 w))
 z3:=(λw=>(Qz.sizeOf w 3).trans (Tryz.sizeOf3 w))
 v3:=(λw=>(Qz.zeroValue w 3).trans (Tryz.zeroValue3 w))
 t4:=((Qz.eO 4).trans Tryz.underlying4)
 a4:=(λw=>(Qz.isAgg w 4).trans (Tryz.isAgg4 w))
 z4:=(λw=>(Qz.sizeOf w 4).trans (Tryz.sizeOf4 w))
 v4:=(λw=>(Qz.zeroValue w 4).trans (Tryz.zeroValue4 w))
 t5:=((Qz.eO 5).trans Tryz.underlying5)
 a5:=(λw=>(Qz.isAgg w 5).trans (Tryz.isAgg5 w))
 z5:=(λw=>(Qz.sizeOf w 5).trans (Tryz.sizeOf5 w))
 v5:=(λw=>(Qz.zeroValue w 5).trans (Tryz.zeroValue5 w))
 t9:=((Qz.eO 9).trans Tryz.underlying9)
 a9:=(λw=>(Qz.isAgg w 9).trans (Tryz.isAgg9 w))
 z9:=(λw=>(Qz.sizeOf w 9).trans (Tryz.sizeOf9 w))
 v9:=(λw=>(Qz.zeroValue w 9).trans (Tryz.zeroValue9 w))
 t20:=((Qz.eO 20).trans Tryz.underlying20)
 a20:=(λw=>(Qz.isAgg w 20).trans (Tryz.isAgg20 w))
 z20:=(λw=>(Qz.sizeOf w 20).trans (Tryz.sizeOf20 w))
 v20:=(λw=>(Qz.zeroValue w 20).trans (Tryz.zeroValue20 w))
 t37:=((Qz.eO 50).trans Tryz.underlying50)
 a37:=(λw=>(Qz.isAgg w 50).trans (Tryz.isAgg50 w))
 z37:=(λw=>(Qz.sizeOf w 50).trans (Tryz.sizeOf50 w))
 v37:=(λw=>(Qz.zeroValue w 50).trans (Tryz.zeroValue50 w))
 t46:=((Qz.eO 139).trans Tryz.underlying139)
 a46:=(λw=>(Qz.isAgg w 139).trans (Tryz.isAgg139 w))
 z46:=(λw=>(Qz.sizeOf w 139).trans (Tryz.sizeOf139 w))
 v46:=(λw=>(Qz.zeroValue w 139).trans (Tryz.zeroValue139 w))
 t51:=((Qz.eO 135).trans Tryz.underlying135)
 a51:=(λw=>(Qz.isAgg w 135).trans (Tryz.isAgg135 w))
 z51:=(λw=>(Qz.sizeOf w 135).trans (Tryz.sizeOf135 w))
 v51:=(λw=>(Qz.zeroValue w 135).trans (Tryz.zeroValue135 w))
 t53:=((Qz.eO 122).trans Tryz.underlying122)
 a53:=(λw=>(Qz.isAgg w 122).trans (Tryz.isAgg122 w))
 z53:=(λw=>(Qz.sizeOf w 122).trans (Tryz.sizeOf122 w))
 v53:=(λw=>(Qz.zeroValue w 122).trans (Tryz.zeroValue122 w))
 t70:=((Qz.eO 176).trans Tryz.underlying176)
 a70:=(λw=>(Qz.isAgg w 176).trans (Tryz.isAgg176 w))
 z70:=(λw=>(Qz.sizeOf w 176).trans (Tryz.sizeOf176 w))
 v70:=(λw=>(Qz.zeroValue w 176).trans (Tryz.zeroValue176 w))
 t72:=((Qz.eO 178).trans Tryz.underlying178)
 a72:=(λw=>(Qz.isAgg w 178).trans (Tryz.isAgg178 w))
 z72:=(λw=>(Qz.sizeOf w 178).trans (Tryz.sizeOf178 w))
 v72:=(λw=>(Qz.zeroValue w 178).trans (Tryz.zeroValue178 w))
 t75:=((Qz.eO 180).trans Tryz.underlying180)
 a75:=(λw=>(Qz.isAgg w 180).trans (Tryz.isAgg180 w))
 z75:=(λw=>(Qz.sizeOf w 180).trans (Tryz.sizeOf180 w))
 v75:=(λw=>(Qz.zeroValue w 180).trans (Tryz.zeroValue180 w))
 t76:=((Qz.eO 181).trans Tryz.underlying181)
 a76:=(λw=>(Qz.isAgg w 181).trans (Tryz.isAgg181 w))
 z76:=(λw=>(Qz.sizeOf w 181).trans (Tryz.sizeOf181 w))
 v76:=(λw=>(Qz.zeroValue w 181).trans (Tryz.zeroValue181 w))
 t109:=((Qz.eO 174).trans Tryz.underlying174)
 a109:=(λw=>(Qz.isAgg w 174).trans (Tryz.isAgg174 w))
 z109:=(λw=>(Qz.sizeOf w 174).trans (Tryz.sizeOf174 w))
 v109:=(λw=>(Qz.zeroValue w 174).trans (Tryz.zeroValue174 w))
 t127:=((Qz.eO 184).trans Tryz.underlying184)
 a127:=(λw=>(Qz.isAgg w 184).trans (Tryz.isAgg184 w))
 z127:=(λw=>(Qz.sizeOf w 184).trans (Tryz.sizeOf184 w))
 v127:=(λw=>(Qz.zeroValue w 184).trans (Tryz.zeroValue184 w))
 t146:=((Qz.eO 187).trans Tryz.underlying187)
 a146:=(λw=>(Qz.isAgg w 187).trans (Tryz.isAgg187 w))
 z146:=(λw=>(Qz.sizeOf w 187).trans (Tryz.sizeOf187 w))
 v146:=(λw=>(Qz.zeroValue w 187).trans (Tryz.zeroValue187 w))
 t148:=((Qz.eO 189).trans Tryz.underlying189)
 a148:=(λw=>(Qz.isAgg w 189).trans (Tryz.isAgg189 w))
 z148:=(λw=>(Qz.sizeOf w 189).trans (Tryz.sizeOf189 w))
 v148:=(λw=>(Qz.zeroValue w 189).trans (Tryz.zeroValue189 w))
 t164:=((Qz.eO 191).trans Tryz.underlying191)
 a164:=(λw=>(Qz.isAgg w 191).trans (Tryz.isAgg191 w))
 z164:=(λw=>(Qz.sizeOf w 191).trans (Tryz.sizeOf191 w))
 v164:=(λw=>(Qz.zeroValue w 191).trans (Tryz.zeroValue191 w))}
def Qz.yO:Builder.Extra zq Qz.CG:={
 sizeBuilder:=by kernel_rfl
 liesBuilder:=by kernel_rfl
 t5:=((Qz.eO 5).trans Tryz.underlying5)
 a5:=(λw=>(Qz.isAgg w 5).trans (Tryz.isAgg5 w))
 z5:=(λw=>(Qz.sizeOf w 5).trans (Tryz.sizeOf5 w))
 v5:=(λw=>(Qz.zeroValue w 5).trans (Tryz.zeroValue5 w))
 infoByte:=by kernel_rfl
 cellsByte:=by kernel_rfl
 sizeByte:=by kernel_rfl
 neB5:=by decide}
open Go.RowKit Go.Lib in
def Qz.strings_Repeat (s:ByteArray)(c:Nat)(w:zW)(h:c<=9223372036854775807)(hlen:s.size*c<=140737488355328):
  Calls zq 97 #[aK s,aC aD c] w λe a=>e=aL (aK ⟨(aFB s.data.toList c).toArray⟩)/\zb w a:=Any.strings_Repeat Qz.Tn Qz.yO s c w h hlen
end Go.Proofs
namespace Go.Proofs.Zq
open Go.RowKit Sha
def qZ (m i:Nat):UInt8:=aFF (m/2^(8*(7-i)))
def eight (m:Nat):zB:=(List.range 8).map (qZ m)
def Im (n):mD n=eight (8*n):=rfl
def Ae (m i):(m)/2^(8*(7-i))%256=((qZ m i).toNat:Int):=by rw[qZ,zDr,show(2:Nat)^8=256 from rfl,Int.natCast_emod,Int.natCast_ediv,mW];rfl
def oB (n t:Nat):zA:=((List.range 8).map λi=>Value.int aP (if i<t then((qZ n i).toNat:Int)else 0)).toArray
def pP (n t):(oB n t).size=8:=by simp[oB]
def nC (n t i)(h:i<8):(oB n t)[i]? =aA (aC aP (if i<t then((qZ n i).toNat:Int)else 0)):=by simp[oB,h]
def JZ (n t):(oB n t).setIfInBounds t (aC aP ((qZ n t).toNat:Int))=oB n (t+1):=by
 apply zBy;intro i;rw[zBn,pP];by_cases h:i<8
 .rw[nC n (t+1) i h];by_cases e:t=i
  .subst e;simp[h]
  .rw[zAn e,nC n t i h];by_cases a:i<t
   .rw[zAq a,zAq (by omega)]
   .rw[zAn a,zAn (by omega)]
 .rw[zBi (by rw[pP];omega),zBi (by rw[pP];omega)];by_cases e:t=i
  .subst e;simp[h]
  .rw[zAn e]
def tH (n:Nat)(w):
  Calls zq 64 #[aC aQ n] w λe d=>e=aL (aK ⟨(eight n).toArray⟩)/\zb w d:=by
 go_enter (Qz.fn func64),ntmps64;go_wp2;go_loopg [5] 8 (λq i wr=>∃t:Nat,t+q=8/\i=aC aD (t:Int)/\zb w wr/\cD wr w.heap.size 149 (oB n t));case atStart=>exact⟨0,rfl,rfl,(zGe _ _).alloc (zAb _) _,cD.new _ _ _⟩
 case round=>
  obtain⟨t,o,rfl,m,l⟩:=hrel
  have c:=hid m
  have B:=hid l
  by_cases bW:t<8
  .have k:wr.cell? ⟨w.heap.size,t,aB⟩=aA (aC aP (if t<t then((qZ n t).toNat:Int)else 0)):=by{rw[B.out.cell,nC _ _ _ bW]};rw[zAn (by omega)]at k;have p:wr.frozen? ⟨w.heap.size,t,aB⟩=aF:=B.out.frozen _;go_wp2;go_roundg (7-t);case measure=>omega
   case rel=>
    go_light
    have g:(n:Int)/2^(56-8*t)%256=((qZ n t).toNat:Int):=by rw[<-Ae,show 56-8*t=8*(7-t) by omega]
    rw[g]
    refine⟨t+1,by omega,by go_num,c.out.setCell (zAb _) _,?_⟩
    have:=B.out.dL t (aC aP ((qZ n t).toNat:Int))
    rw[JZ]at this
    exact this
  .obtain rfl:t=8:=by omega
   have a:Hid ((convert 50 9 (aJ (aA ⟨w.heap.size,0,aB⟩) 8 8)).run zq wr= .ok (aK ⟨(eight n).toArray⟩) wr):=
    lR _ 50 9 5 w.heap.size 0 8 (eight n) ((Qz.eO 50).trans underlying50) ((Qz.eO 5).trans underlying5) ((Qz.eO 9).trans underlying9) (λj f=>by
     have h:j<8:=by simpa [eight]using f
     rw[zAx,B.out.cell,nC _ _ _ h,zAq h];simp[eight,h])
   have b:=a.out;go_wp2;go_ret;exact⟨rfl,c.out⟩
def SZ (n:Nat)(w)(o:n<=140737488351232):
  Calls zq 77 #[aC aD n] w λe a=>e=aL (aK ⟨(behind n).toArray⟩)/\zb w a:=by
 have m:(64-((n:Int)+1+8)%64)%64=((zs n:Nat):Int):=by unfold zs;omega
 have H:Hid (∀w:zW,Calls zq 97 #[aK ⟨#[0]⟩,aC aD (zs n:Nat)] w λe a=>e=aL (aK ⟨(List.replicate (zs n) 0).toArray⟩)/\zb w a):=λw=>by
  have f:zs n<=63:=by unfold zs;omega
  have h:=Qz.strings_Repeat ⟨#[0]⟩ (zs n) w (by omega) (by show 1*zs n<=_;omega);have e:aFB ([0]:zB) (zs n)=List.replicate (zs n) 0:=by have:=Lib.repeatL_replicate 0 1 (zs n);rwa [zDv]at this
  have j:=e;rw[j]at h;exact h
 have k:Hid (∀w:zW,Calls zq 64 #[aC aQ ((n:Int)*8)] w λe a=>e=aL (aK ⟨(mD n).toArray⟩)/\zb w a):=λw=>by have h:=tH (8*n) w;rw[<-Im,show((8*n:Nat):Int)=(n:Int)*8 by omega]at h;exact h
 have g:(List.replicate (zs n) (0:UInt8)).length<=63:=by rw[zDe];unfold zs;omega
 have i:(mD n).length=8:=by simp[mD]
 have d:Hid (behind n=128::(List.replicate (zs n) 0++mD n)):=rfl;generalize List.replicate (zs n) (0:UInt8)=Z at*;generalize mD n=L at*;go_enter (Qz.fn func77),ntmps77;go_wp2_with fail;refine(H.out _).mono ?_;rintro e w1 ⟨rfl,c⟩;have B:=hid c;go_wp2_with fail;refine(k.out _).mono ?_;rintro e w2 ⟨rfl,b⟩;have l:=hid b;go_wp2_with fail;go_ret;refine⟨congrArg aFx (congrArg Value.string ?_),B.out.trans (l.out.mono B.out.size)⟩;rw[d.out];apply zDs;simp[zEl]
structure fF (w:zW):Prop where
 mV:Table 2 K w
 lt:0<w.heap.size
 jK:w.rangeAt 0 0 H0.cells.toList
def fF.below {w w':zW}{B:Nat}(h:fF w)(a:Below B w w')(b:w.heap.size<=B):fF w':=
 ⟨h.mV.below a b,zAc h.lt a.size,λj v c=>by rw[a.cell (p:=⟨_,_,aB⟩) (zAc h.lt b)];exact h.jK j v c⟩
def rH (k:Nat)(m)(w)(T:1<=k)(R:k<=32)(Q:m.size<=140737488351232)(z:fF w):
  Calls zq 53 #[aC aD k,aK m] w λe M=>e=aL (aK ⟨((Lc m.data.toList).take k).toArray⟩)/\zb w M:=by
 have C:=hid z;go_enter (Qz.fn func53),ntmps53;go_upto_region 2 with(first
  |refine wpList_load_mid rfl 136 _ rfl 0 0 rfl H0.cells.toList _ C.out.jK ((Qz.eO 136).trans underlying136) rfl (by kernel_rfl) ?_
  |refine zGk rfl 136 _ _ rfl w.heap.size H0.cells rfl rfl _ _ (cD.new w 136 #[aC aO 0,aC aO 0,aC aO 0,aC aO 0,aC aO 0,aC aO 0,aC aO 0,aC aO 0]) (by rw[cK];kernel_rfl) (by rw[cK];rfl) (cells_one _) ?_)
 have A:Hid (zb w ((w.alloc (aI #[aC aO 0,aC aO 0,aC aO 0,aC aO 0,aC aO 0,aC aO 0,aC aO 0,aC aO 0] 136)).setRow w.heap.size H0.cells)):=cA ((zGe _ _).alloc (zAb _) _) (zAb _) _;have r:Hid (cD ((w.alloc (aI #[aC aO 0,aC aO 0,aC aO 0,aC aO 0,aC aO 0,aC aO 0,aC aO 0,aC aO 0] 136)).setRow w.heap.size H0.cells) w.heap.size 136 H0.cells):=(cD.new w 136 _).dV _;generalize(w.alloc (aI #[aC aO 0,aC aO 0,aC aO 0,aC aO 0,aC aO 0,aC aO 0,aC aO 0,aC aO 0] 136)).setRow w.heap.size H0.cells=wr at*;have z:=C.out.below A.out (zAb _);have x:=hid z;have K:=hid C;clear z C;simp only[Act.put];have n:Hid (m.data.toList.length=m.size):=by show _=_;simp
 have H:=Se m.data.toList;rw[n.out]at H;have Z:=hid H;clear H;have O:m.size-m.size%64<=m.size:=by omega
 have N:(m.size:Int)-(m.size:Int)%64=((m.size-m.size%64:Nat):Int):=by omega
 have Y:Hid ((m.size-m.size%64)/64=m.size/64):=by show _=_;omega
 have X:Hid (m.size-(m.size-m.size%64)=m.size%64):=by show _=_;omega
 generalize m.size-m.size%64=b at*;have j:Hid (∀(d:Nat)(os:zJ),Calls zq 76 #[.agg H0.cells,aK (m.extract 0 b)] (Go.Sort.grow (redrawn wr d) os) λe c=>e=aL (.agg (dM H0 (m.data.toList.take b) (m.size/64)).cells)/\∃p:Regrown,c=Go.Sort.grow (redrawn wr p.d) p.os):=λd os=>by have h:=uX H0 (m.extract 0 b) (Go.Sort.grow (redrawn wr d) os) (x.out.below (zGl wr d os) (zAb _)).mV (by simp;omega);have G:(m.extract 0 b).data.toList=m.data.toList.take b:=by{rw[kX,zEs]};have F:(m.extract 0 b).size/64=m.size/64:=by{rw[<-Y.out];simp;omega};rw[G,F]at h;exact aFw h
 go_wp2;refine Tail.vJ 5 (by kernel_rfl) (by kernel_rfl) ?_;simp only[zFg,zFb,zFj,zEs];refine nS rfl 136 _ rfl w.heap.size rfl 136 H0.cells _ (λW E=> ?_) ((Qz.eO 136).trans underlying136) rfl (by rw[cK];kernel_rfl) ?_
 .obtain⟨p,rfl⟩:=E;exact r.out.below (zGl wr p.d p.os) r.out.lt
 simp only[Act.put,zCf,zDg,zDd];repeat (any_goals(first|go_big_quiet_step ((exact j.out _ _))|quiet_step ((exact j.out _ _))))
 refine zGy ?_;intro t f;obtain⟨p,l⟩:=f;have g:Hid (zb wr t):=by rw[l];exact zGl wr p.d p.os
 clear l j;have q:=hid (r.out.below g.out r.out.lt);generalize dM H0 (m.data.toList.take b) (m.size/64)=S1 at*;go_upto_region 4 with(refine zGk rfl 136 _ _ rfl w.heap.size _ rfl rfl _ _ q.out (by rw[cK];kernel_rfl) (by rw[cK,cK]) (cells_one _) ?_)
 have c1:Hid (zb w (t.setRow w.heap.size S1.cells)):=cA (A.out.trans (g.out.mono A.out.size)) (zAb _) _;have c2:Hid (cD (t.setRow w.heap.size S1.cells) w.heap.size 136 S1.cells):=q.out.dV _;have v:Hid (fF (t.setRow w.heap.size S1.cells)):=K.out.below c1.out (zAb _);generalize t.setRow w.heap.size S1.cells=a at*;clear A r g q x;simp only[Act.put];have U:(behind m.size).length<=72:=by rw[pS];unfold zs;omega
 have J:Hid ((behind m.size).length=9+zs m.size):=pS m.size;have I:Hid (∀(d:Nat)(os:zJ),Calls zq 77 #[aC aD (m.size:Nat)] (Go.Sort.grow (redrawn a d) os) λe c=>e=aL (aK ⟨(behind m.size).toArray⟩)/\∃p:Regrown,c=Go.Sort.grow (redrawn a p.d) p.os):=λd os=>aFw (SZ m.size _ Q);generalize behind m.size=B at*;have o:(⟨B.toArray⟩:ByteArray).size=B.length:=by simp[aFr]
 have y:=hid o;clear o;have i:Hid (∀(d:Nat)(os:zJ),Calls zq 76 #[.agg S1.cells,aK (m.extract b m.size++⟨B.toArray⟩)] (Go.Sort.grow (redrawn a d) os) λe c=>e=aL (.agg (dM S1 (m.data.toList.drop b++B) ((m.size%64+9+zs m.size)/64)).cells)/\∃p:Regrown,c=Go.Sort.grow (redrawn a p.d) p.os):=λd os=>by
  have h:=uX S1 (m.extract b m.size++⟨B.toArray⟩) (Go.Sort.grow (redrawn a d) os) (v.out.below (zGl a d os) (zAb _)).mV (by rw[aFs,y.out];simp;omega);have G:(m.extract b m.size++⟨B.toArray⟩).data.toList=m.data.toList.drop b++B:=by rw[zEl,zFu,kX,zBv (by rw[n.out];omega)]
  have F:(m.extract b m.size++⟨B.toArray⟩).size=m.size%64+9+zs m.size:=by rw[<-X.out,zCc,<-J.out,aFs,y.out];simp
  rw[G,F]at h;exact aFw h
 refine Tail.vJ 9 (by kernel_rfl) (by kernel_rfl) ?_;simp only[zFg,zFb,zFj,zEs];refine nS rfl 136 _ rfl w.heap.size rfl 136 S1.cells _ (λW E=> ?_) ((Qz.eO 136).trans underlying136) rfl (by rw[cK];kernel_rfl) ?_
 .obtain⟨p,rfl⟩:=E;exact c2.out.below (zGl a p.d p.os) c2.out.lt
 simp only[Act.put,zCf,zDg,zDd];repeat (any_goals(first|go_big_quiet_step ((first|(go_at_call 77;exact I.out _ _)|(go_at_call 76;exact i.out _ _)))|quiet_step ((first|(go_at_call 77;exact I.out _ _)|(go_at_call 76;exact i.out _ _)))))
 refine zGy ?_;intro s f;obtain⟨p,l⟩:=f;have g:Hid (zb a s):=by rw[l];exact zGl a p.d p.os
 clear l I i;have q:Hid (cD s w.heap.size 136 S1.cells):=c2.out.below g.out c2.out.lt;generalize dM S1 (m.data.toList.drop b++B) ((m.size%64+9+zs m.size)/64)=S at*;go_upto_region 5 with(refine zGk rfl 136 _ _ rfl w.heap.size _ rfl rfl _ _ q.out (by rw[cK];kernel_rfl) (by rw[cK,cK]) (cells_one _) ?_)
 have d1:Hid (zb w (s.setRow w.heap.size S.cells)):=cA (c1.out.trans (g.out.mono c1.out.size)) (zAb _) _;have V:Hid (cD (s.setRow w.heap.size S.cells) w.heap.size 136 S.cells):=q.out.dV _;generalize s.setRow w.heap.size S.cells=L at*;clear c1 c2 g q v;simp only[Act.put];have P:(fT S).length=32:=rQ S;have u:Hid (Value.string (aFt ⟨(fT S).toArray⟩ 0 k)=Value.string ⟨((Lc m.data.toList).take k).toArray⟩):=by show _=_;rw[Z.out];congr 1;apply zDs;simp[aFp]
 go_wp2_with (first
  |refine zGm rfl 136 _ rfl w.heap.size rfl _ _ _ _ V.out ((Qz.eO 136).trans underlying136) rfl (by rw[cK];kernel_rfl) ?_
  |(go_at_call 78;refine(Ir S _).mono ?_;rintro e w5 ⟨rfl,D⟩))
 go_ret;exact⟨congrArg aFx u.out,d1.out.trans (D.mono d1.out.size)⟩
def qE (l:zB):Nat->List (BitVec 32)
 |0=>((List.range 16).map (EA l)).reverse
 |n+1=>(s1 ((qE l n).getD 1 0)+(qE l n).getD 6 0+s0 ((qE l n).getD 14 0)+(qE l n).getD 15 0)::qE l n
def Ij (l):∀n i,i<16+n->(qE l n).getD i 0=sched l n (15+n-i):=by
 intro n;induction n with
 |zero=>intro i hi;have h:i=0\/i=1\/i=2\/i=3\/i=4\/i=5\/i=6\/i=7\/i=8\/i=9\/i=10\/i=11\/i=12\/i=13\/i=14\/i=15:=by{omega};obtain rfl|rfl|rfl|rfl|rfl|rfl|rfl|rfl|rfl|rfl|rfl|rfl|rfl|rfl|rfl|rfl:=h<;>rfl
 |succ n a=>
  intro i hi;cases i with
  |zero=>show _=put (sched l n) (16+n) _ (15+(n+1)-0);rw[show 15+(n+1)-0=16+n from by omega,Mb,qE,List.getD_cons_zero,a 1 (by omega),a 6 (by omega),a 14 (by omega),a 15 (by omega),show 15+n-1=16+n-2 from by omega,show 15+n-6=16+n-7 from by omega,show 15+n-14=16+n-15 from by omega,show 15+n-15=16+n-16 from by omega]
  |succ i=>rw[qE,List.getD_cons_succ,a i (by omega)];show _=put (sched l n) (16+n) _ (15+(n+1)-(i+1));rw[show 15+(n+1)-(i+1)=15+n-i from by omega,put,zAn (by omega)]
def wZ:List (BitVec 32×BitVec 32)->R8->R8
 |[],s=>s
 |(k,w)::r,s=>wZ r (s.step k w)
def OE (p)(k w:BitVec 32):∀s,wZ (p++[(k,w)]) s=(wZ p s).step k w:=by
 induction p with
 |nil=>intro s;rfl
 |cons a p i=>intro s;obtain⟨c,b⟩:=a;exact i _
def XI (k ws)(s:R8):∀n,R8.steps k ws n s=wZ ((List.range n).map λt=>(k t,ws t)) s:=by
 intro n;induction n with
 |zero=>rfl
 |succ n i=>rw[R8.steps,i,List.range_succ,zDi];exact(OE _ _ _ _).symm
def PC (l:zB)(s:R8):R8:=s.plus (wZ ((UE.map (aFa 32)).zip (qE l 48).reverse) s)
def nB (l):∀n,(qE l n).length=16+n:=by
 intro n;induction n with
 |zero=>rfl
 |succ n i=>rw[qE,zAh,i];omega
def WS (l):(UE.map (aFa 32)).zip (qE l 48).reverse=(List.range 64).map λt=>(K t,sched l 48 t):=by
 apply List.ext_getElem
 .simp[UE,nB]
 .intro t d c;have a:t<64:=by simpa using c
  have b:(qE l 48).reverse[t]'(by rw[List.length_reverse,nB];omega)=sched l 48 t:=by have h:=Ij l 48 (63-t) (by omega);rw[List.getElem_reverse];simp only[nB];rw[zBo,zAf (by rw[nB];omega)]at h;rw[show 15+48-(63-t)=t from by omega]at h;simp only[zCj]at h;rw[<-h]
  rw[List.getElem_zip,List.getElem_map,List.getElem_map,List.getElem_range,b];congr 1;rw[K,zBo,zAf (by show t<64;exact a)];rfl
def Mr (l)(s:R8):s.mix K (sched l 48)=PC l s:=by rw[R8.mix,PC,WS,XI]
def KW (l)(h:(qR l).length=64):Lc l=fT (PC (qR l) H0):=by rw[Lc,h];show fT (R8.mix K (sched (blk (qR l) 0) 48) H0)=_;rw[Mr,blk,Nat.mul_zero,zEs,zBv (by omega)]
def Sf:Lc [97,98,99]=[186,120,22,191,143,1,207,234,65,65,64,222,93,174,34,35,176,3,97,163,150,23,122,156,180,16,255,97,242,0,21,173]:=by rw[KW _ (by decide+kernel)];decide+kernel
def Lb:(Lc [0]).take 2=[110,52]:=by rw[KW _ (by decide+kernel)];decide+kernel
def gp (k:Nat)(l:zB):ByteArray:=⟨((Lc l).take k).toArray⟩
def tC (n)(w)(b:1<=n)(h:n<=32):Calls zq 52 #[aC aD n] w λe a=>e=aL (.bool aE)/\a=w:=by go_enter (Qz.fn func52),ntmps52;go_wp2;go_ret;exact⟨by simp,rfl⟩
def ZP (n)(w)(h:n<1\/32<n):Calls zq 52 #[aC aD n] w λe a=>e=aL (.bool aF)/\a=w:=by
 obtain h|h:=h
 .go_enter (Qz.fn func52),ntmps52;go_wp2;go_ret;exact⟨rfl,rfl⟩
 .have b:1<=n:=by{omega};go_enter (Qz.fn func52),ntmps52;go_wp2;go_ret;exact⟨by simp;omega,rfl⟩
def Ag (k:Nat)(m)(w)(b:1<=k)(h:k<=32)(c:m.size<=140737488351232)(d:fF w):
  Calls zq 33 #[aC aD k,aK m] w λe a=>e=aL (.tuple #[aK (gp k m.data.toList),aC aD 0])/\zb w a:=by
 have H:=hid d;go_enter (Qz.fn func33),ntmps33;go_wp2_with (first
  |(go_at_call 52;refine(tC _ _ (by omega) (by omega)).mono ?_;rintro e a ⟨rfl,rfl⟩)
  |(go_at_call 53;refine(rH k m _ b h c H.out).mono ?_;rintro e a ⟨rfl,hb⟩))
 go_ret2;exact⟨rfl,hb⟩
def Pa:gp 2 [97,98,99]=⟨#[186,120]⟩:=by rw[gp,Sf];rfl
def bZ (l:zB)(k:Nat):Nat:=(l.getD (k/8) 0).toNat/2^(7-k%8)%2
def byte_at (s:ByteArray)(i)(h:i<s.size):s[i]=s.data.toList.getD i 0:=by
 show s.data[i]=_;have hi:i<s.data.toList.length:=by simpa using h
 rw[zBo,zAf hi];simp
def jQ (l)(k):bZ l k=0\/bZ l k=1:=by unfold bZ;omega
def dg (k:Nat)(l:zB):zB:=(Lc l).take k
def fE (k)(l)(h:k<=32):(dg k l).length=k:=by rw[dg,zBj,YA];omega
structure PW where
 kind:Nat
 fY:zLL
 value:zB
 other:zB
 eK:zB
def kindOf (s:zB):Nat:=(s.getD 0 0).toNat
def dP (s:zB):Nat:=256*(s.getD 1 0).toNat+(s.getD 2 0).toNat
def dD (s:zB):Nat:=(dP s+7)/8
def marksOf (s:zB):zB:=(s.drop 3).take (dD s)
def eC (k:Nat)(s:zB):Nat->Option (zLL×Nat)
 |0=>aA ([],3+dD s)
 |i+1=>(eC k s i).bind λp=>
   if bZ (marksOf s) i=1 then
    if p.2+k<=s.length/\(s.drop p.2).take k≠dg k [0]then aA (p.1++[(s.drop p.2).take k],p.2+k)else aB
   else aA (p.1++[dg k [0]],p.2)
def PN (s:zB)(m:Nat):Prop:=∀i,dP s<=i->i<m->bZ (marksOf s) i=0
def sameBits (a b:zB)(d:Nat):Prop:=∀i,i<d->bZ a i=bZ b i
def qF (k:Nat)(idx s:zB)(S:zLL)(rest:zB):Option PW:=
 if kindOf s=0 then(if rest=[]then aA ⟨0,S,[],[],[]⟩else aB)
 else if kindOf s=1 then(if rest.length<=100 then aA ⟨1,S,rest,[],[]⟩else aB)
 else if rest.length=32+k/\rest.take 32≠idx/\(List.range (dP s)).all (λi=>bZ idx i==bZ (rest.take 32) i)=aE then aA ⟨2,S,[],rest.take 32,rest.drop 32⟩else aB
def parse (k:Nat)(idx s:zB):Option PW:=
 if s.length<3\/2<kindOf s\/256<dP s\/s.length<3+dD s\/(List.range (8*dD s)).all (λi=>decide (i<dP s)||bZ (marksOf s) i==0)=aF then aB
 else(eC k s (dP s)).bind λp=>qF k idx s p.1 (s.drop p.2)
def ML (s)(m):(List.range m).all (λi=>decide (i<dP s)||bZ (marksOf s) i==0)=aE↔PN s m:=by
 rw[zBq];constructor
 .intro h i a b;have:=h i (zBu.2 b);rw[zDk,zBl,zCo]at this;omega
 .intro h i hi;rw[zDk,zBl,zCo];have:=zBu.1 hi;by_cases a:i<dP s
  .exact aG a
  .exact aH (h i (by omega) this)
def SK (a b)(d):(List.range d).all (λi=>bZ a i==bZ b i)=aE↔sameBits a b d:=by
 rw[zBq];constructor
 .intro h i hi;exact zCo.1 (h i (zBu.2 hi))
 .intro h i hi;exact zCo.2 (h i (zBu.1 hi))
def oT {k idx s}(h:s.length<3\/2<kindOf s\/256<dP s\/s.length<3+dD s):parse k idx s=aB:=by
 unfold parse;rw[zAq];obtain h|h|h|h:=h
 .exact aG h
 .exact aH (aG h)
 .exact aH (aH (aG h))
 .exact aH (aH (aH (aG h)))
def SX {k idx s}(i)(b:dP s<=i)(a:i<8*dD s)(c:bZ (marksOf s) i=1):parse k idx s=aB:=by
 unfold parse;rw[zAq];refine aH (aH (aH (aH ?_)));cases h:(List.range (8*dD s)).all (λi=>decide (i<dP s)||bZ (marksOf s) i==0)with
 |false=>rfl
 |true=>have:=(ML s _).1 h i b a;omega
def FP {k idx s}(h:eC k s (dP s)=aB):parse k idx s=aB:=by
 unfold parse;split
 .rfl
 .rw[h];rfl
def KU {k s i}(h:eC k s i=aB):∀j,eC k s (i+j)=aB:=by
 intro j;induction j with
 |zero=>exact h
 |succ j a=>rw[<-zCc,eC,a];rfl
def BY {k idx s S a}(f:3<=s.length)(d:kindOf s<=2)(e:dP s<=256)(hl:3+dD s<=s.length)(b:PN s (8*dD s))(c:eC k s (dP s)=aA (S,a)):parse k idx s=qF k idx s S (s.drop a):=by
 unfold parse;rw[zAn,c]
 .rfl
 .rintro(h|h|h|h|h)
  .omega
  .omega
  .omega
  .omega
  .rw[(ML s _).2 b]at h;cases h
def XY {k s i a S}(h:eC k s i=aA (S,a))(b:bZ (marksOf s) i=0):eC k s (i+1)=aA (S++[dg k [0]],a):=by rw[eC,h,zCr,zAn (by omega)]
def XX {k s i a S}(h:eC k s i=aA (S,a))(b:bZ (marksOf s) i=1)(d:a+k<=s.length)(c:(s.drop a).take k≠dg k [0]):eC k s (i+1)=aA (S++[(s.drop a).take k],a+k):=by rw[eC,h,zCr,zAq b,zAq ⟨d,c⟩]
def KV {k s i a S}(h:eC k s i=aA (S,a))(c:bZ (marksOf s) i=1)(b:¬(a+k<=s.length/\(s.drop a).take k≠dg k [0])):eC k s (i+1)=aB:=by rw[eC,h,zCr,zAq c,zAn b]
def Cg {k s}(hl:3+dD s<=s.length):∀{i a S},eC k s i=aA (S,a)->S.length=i/\a<=s.length/\3+dD s<=a:=by
 intro i;induction i with
 |zero=>intro a S h;simp only[eC,aE1,aFE]at h;obtain⟨rfl,rfl⟩:=h;exact⟨rfl,hl,zAb _⟩
 |succ i e=>
  intro a S h;rw[eC]at h;cases b:eC k s i with
  |none=>rw[b]at h;cases h
  |some p=>
   obtain⟨S0,a0⟩:=p;rw[b,zCr]at h;obtain⟨q,d,c⟩:=e b;split at h
   .split at h
    .rename_i f;simp only[aE1,aFE]at h;obtain⟨rfl,rfl⟩:=h;exact⟨by simp[q],f.1,by omega⟩
    .cases h
   .simp only[aE1,aFE]at h;obtain⟨rfl,rfl⟩:=h;exact⟨by simp[q],d,c⟩
def Kz {k s}(f:k<=32):∀{i a S},eC k s i=aA (S,a)->∀x∈S,x.length=k:=by
 intro i;induction i with
 |zero=>intro a S h;simp only[eC,aE1,aFE]at h;obtain⟨rfl,rfl⟩:=h;intro x c;cases c
 |succ i e=>
  intro a S h x c;rw[eC]at h;cases d:eC k s i with
  |none=>rw[d]at h;cases h
  |some p=>
   obtain⟨S0,a0⟩:=p;rw[d,zCr]at h;split at h
   .split at h
    .rename_i g;simp only[aE1,aFE]at h;obtain⟨rfl,rfl⟩:=h;obtain b|b:=zAg.1 c
     .exact e d x b
     .rw[zAm]at b;subst b;have:=g.1;simp;omega
    .cases h
   .simp only[aE1,aFE]at h;obtain⟨rfl,rfl⟩:=h;obtain b|b:=zAg.1 c
    .exact e d x b
    .rw[zAm]at b;subst b;exact fE k [0] f
structure PW.Ok (k:Nat)(p:PW):Prop where
 depth:p.fY.length<=256
 vm:∀x∈p.fY,x.length=k
 value:p.value.length<=100
 other:p.other.length<=32
 eK:p.eK.length<=32
 kind:p.kind<=2
def xG {k idx s p}(g:k<=32)(h:parse k idx s=aA p):p.Ok k:=by
 unfold parse at h;split at h
 .cases h
 .rename_i j;cases b:eC k s (dP s)with
  |none=>rw[b]at h;cases h
  |some q=>
   obtain⟨S,a⟩:=q;rw[b,zCr]at h;have c:dP s<=256:=by{omega};have hl:3+dD s<=s.length:=by{omega};have f:=Cg hl b;have e:=Kz g b;unfold qF at h;dsimp only at h;split at h
   .split at h
    .simp only[aE1]at h;subst h;exact⟨by rw[f.1];exact c,e,by simp,by simp,by simp,by simp⟩
    .cases h
   .split at h
    .split at h
     .rename_i d;simp only[aE1]at h;subst h;exact⟨by rw[f.1];exact c,e,d,by simp,by simp,by simp⟩
     .cases h
    .split at h
     .rename_i d;simp only[aE1]at h;subst h;have i:=d.1;refine⟨by rw[f.1];exact c,e,by simp,?_,?_,by simp⟩
      .rw[zBj];omega
      .rw[zCh,i];omega
     .cases h
def PW.iB (k:Nat)(idx:zB)(p:PW):zB:=
 if p.kind=1 then 1::(idx++dg k (4::p.value))else if p.kind=2 then 1::(p.other++p.eK)else [0]
def PW.up (k:Nat)(idx:zB)(p:PW):Nat->zB
 |0=>p.iB k idx
 |j+1=>if bZ idx (p.fY.length-1-j)=0 then 2::(dg k (p.up k idx j)++p.fY.getD (p.fY.length-1-j) [])else 2::(p.fY.getD (p.fY.length-1-j) []++dg k (p.up k idx j))
def PW.iD (k:Nat)(idx:zB)(p:PW)(depth:Nat):zB:=p.up k idx (p.fY.length-depth)
def PW.root (k:Nat)(idx:zB)(p:PW):zB:=dg k (p.iD k idx 0)
def PW.said (p:PW):Nat×zB:=if p.kind=1 then(1,p.value)else(2,[])
def KO (k)(idx)(p:PW)(a:k<=32)(hi:idx.length=32)(h:p.Ok k):∀j,j<=p.fY.length->(p.up k idx j).length<=65:=by
 intro j;induction j with
 |zero=>
  intro _;unfold PW.up PW.iB;have:=h.other;have:=h.eK;split;{simp[hi,fE k _ a];omega}
  .split
   .simp;omega
   .simp
 |succ j i=>
  intro c;have b:(p.fY.getD (p.fY.length-1-j) []).length<=32:=by rw[zBo,zAf (by omega)];have:=h.vm _ (zCx (n:=p.fY.length-1-j) (by omega));simp only[zCj];omega
  unfold PW.up;split;{rw[zAh,zAi,fE k _ a];omega};{rw[zAh,zAi,fE k _ a];omega}
def verdict (root idx s:zB):Nat×zB×Nat:=
 if root.length<1\/32<root.length\/idx.length≠32 then(0,[],1)
 else match parse root.length idx s with
  |none=>(0,[],2)
  |some p=>if p.root root.length idx=root then(p.said.1,p.said.2,0)else(0,[],3)
def oV (x:UInt8)(r:Nat):UInt8:=aFF (x.toNat|||128/2^r)
def gM (D:zB)(S:zLL):Nat->zB
 |0=>List.replicate ((S.length+7)/8) 0
 |j+1=>if S.getD j []=D then gM D S j else(gM D S j).set (j/8) (oV ((gM D S j).getD (j/8) 0) (j%8))
def sX (D)(S)(j):(gM D S j).length=(S.length+7)/8:=by
 induction j with
 |zero=>simp[gM]
 |succ j i=>unfold gM;split;{exact i};{rw[zEe];exact i}
def lA (D:zB):zLL->zB
 |[]=>[]
 |s::r=>(if s=D then []else s)++lA D r
def wE (D)(a b):lA D (a++b)=lA D a++lA D b:=by
 induction a with
 |nil=>rfl
 |cons s r i=>rw[zCe,lA,lA,i,zDa]
def Xh (p:PW):zB:=if p.kind=1 then p.value else if p.kind=2 then p.other++p.eK else []
section
variable {k:Nat}{I X:zB}{p:PW}
end
def eW {P:zZ}{fn:Func}{p q:Tmp}{ty:zD}(h:fn.results= #[.cell p ty,.tmp q])(tmps:zA)(w:zW)(g:Nat)(t:zD)(cs:zA)(fr:Nat×Nat)(d:TypeDesc)
  (f:tmps.getD p undef=aN (aA ⟨g,0,aB⟩)) (i:w.heap[g]? =aA (aI cs t fr))
  (e:P.underlying ty=aA d) (j:(match d with| .struct _| .array _ _=>aE|_=>aF)=aE) (hi:(P.info? ty).map (·.size)=aA cs.size) (v:zY) (c:tmps.getD q undef=v):
  (results fn tmps).run P w= .ok (.tuple #[.agg cs,v]) w:=by
 have b:tmps[p]?.getD undef=aN (aA ⟨g,0,aB⟩):=by simpa using f
 have a:tmps[q]?.getD undef=v:=by simpa using c
 simp[results,h,b,a,asAddr,run_loadVar_row w g t ty cs fr d i e j hi]
def GI (s)(i:Nat)(hi:i<s.size)(W):(Instr.index 9 (aK s) (aC aD (i))).run zq W= .ok (aC aP ((s.data.toList.getD i 0).toNat:Int)) W:=by rw[run_index_string W 9 s aD i ((Qz.eO 9).trans underlying9),dif_pos ⟨by omega,by omega⟩];have e:=zGa i;simp only[e];rw[byte_at s i hi]
def Pc (l):dP l<65536:=by have a:=(l.getD 1 0).toNat_lt;have h:=(l.getD 2 0).toNat_lt;unfold dP;omega
def Own.lower {w base b e v n xs}(h:Own w base e v n xs)(a:b<=base):Own w b e v n xs:=by refine⟨h.1,h.2.imp id ?_⟩;rintro⟨g,cap,c,j,i,f,d⟩;exact⟨g,cap,c,j,i,zAw a f,d⟩
def Hd {a:ByteArray}{l}(h:¬a=⟨l.toArray⟩):(a.toList==l)=aF:=by rw[zBw];intro e;apply h;rw[zGo]at e;subst e;rfl
def Bb {B:Nat}{w w1 w2:zW}(h:Below B w w1)(b:zb w1 w2)(a:B<=w1.heap.size:=by first|exact h.size|assumption):Hid (Below B w w2):=h.trans (b.mono a)
def bR (root idx s:zB):Nat:=
 if root.length<1\/32<root.length\/idx.length≠32 then 1
 else match parse root.length idx s with
  |none=>2
  |some p=>if p.root root.length idx=root then 0 else 3
def dO {root idx s}(h:¬(root.length<1\/32<root.length\/idx.length≠32))(a:parse root.length idx s=aB):bR root idx s=2:=by rw[bR,zAn h,a]
def qV {root idx s p}(h:¬(root.length<1\/32<root.length\/idx.length≠32))(b:parse root.length idx s=aA p)(a:p.root root.length idx≠root):bR root idx s=3:=by rw[bR,zAn h,b];exact zAn a
def vP {root idx s p}(h:¬(root.length<1\/32<root.length\/idx.length≠32))(b:parse root.length idx s=aA p)(a:p.root root.length idx=root):bR root idx s=0:=by rw[bR,zAn h,b];exact zAq a
def cP:zA:= #[aC aD 0,aK ⟨#[]⟩]
def kL (n:Nat)(l:zB):zA:= #[aC aD (n:Int),aK ⟨l.toArray⟩]
def QU {root idx s}(h:bR root idx s≠0):verdict root idx s=(0,[],bR root idx s):=by
 unfold bR verdict at*;by_cases a:root.length<1\/32<root.length\/idx.length≠32
 .rw[zAq a,zAq a]
 .rw[zAn a]at h;rw[zAn a,zAn a];cases c:parse root.length idx s with
  |none=>rfl
  |some p=>rw[c]at h;dsimp only at h⊢;by_cases b:p.root root.length idx=root;{rw[zAq b]at h;exact absurd rfl h};{rw[zAn b,zAn b]}
def WY {root idx s p}(h:bR root idx s=0)(b:parse root.length idx s=aA p)(a:p.root root.length idx=root):verdict root idx s=(p.said.1,p.said.2,0):=by
 unfold bR verdict at*;split
 .rename_i c;rw[zAq c]at h;cases h
 .rw[b];exact zAq a
def ZE (root idx s):bR root idx s<=3:=by
 unfold bR;split
 .omega
 .split
  .omega
  .split<;>omega
def lT (k:Nat)(p:PW):zB:=[aFF p.kind,aFF (p.fY.length/256),aFF (p.fY.length%256)]++(gM (dg k [0]) p.fY p.fY.length++(lA (dg k [0]) p.fY++Xh p))
section
variable {k:Nat}{I X:zB}{p:PW}
end
abbrev rU:=zB×zB
def cV (l:List rU)(d b:Nat):List rU:=l.filter λe=>bZ e.1 d==b
def GC (k:Nat)(e:rU):zB:=1::(e.1++dg k (4::e.2))
def wC (k:Nat):Nat->List rU->Nat->zB
 |0,[],_=>[0]
 |0,e::_,_=>GC k e
 |_+1,[],_=>[0]
 |_+1,[e],_=>GC k e
 |f+1,a::b::l,d=>2::(dg k (wC k f (cV (a::b::l) d 0) (d+1))++dg k (wC k f (cV (a::b::l) d 1) (d+1)))
def jE (k:Nat)(l:List rU)(d:Nat):zB:=dg k (wC k (256-d) l d)
def HY (k:Nat)(I:zB):List rU->PW
 |[]=>⟨0,[],[],[],[]⟩
 |e::_=>if e.1=I then⟨1,[],e.2,[],[]⟩else⟨2,[],[],e.1,dg k (4::e.2)⟩
def sD (k:Nat)(I:zB):Nat->List rU->Nat->PW
 |0,l,_=>HY k I l
 |_+1,[],_=>HY k I []
 |_+1,[e],_=>HY k I [e]
 |f+1,a::b::l,d=>
  {sD k I f (cV (a::b::l) d (bZ I d)) (d+1)with
   fY:=dg k (wC k f (cV (a::b::l) d (1-bZ I d)) (d+1))::(sD k I f (cV (a::b::l) d (bZ I d)) (d+1)).fY}
def Dx {a b}(f:a.length=32)(c:b.length=32)(h:∀i,i<256->bZ a i=bZ b i):a=b:=by
 have H:∀x:Fin 256,x.val=x.val/2^7%2*128+x.val/2^6%2*64+x.val/2^5%2*32+x.val/2^4%2*16+x.val/2^3%2*8+x.val/2^2%2*4+x.val/2^1%2*2+x.val/2^0%2:=by decide+kernel
 apply List.ext_getElem (by omega);intro n s p;have c:∀r,r<8->a[n].toNat/2^(7-r)%2=b[n].toNat/2^(7-r)%2:=λr t=>by have:=h (8*n+r) (by omega);unfold bZ at this;rw[show(8*n+r)/8=n by omega,show(8*n+r)%8=r by omega]at this;rw[zBo,zAf s,zBo,zAf p]at this;exact this
 have e:a[n].toNat=b[n].toNat:=by have f:=H ⟨a[n].toNat,a[n].toNat_lt⟩;have d:=H ⟨b[n].toNat,b[n].toNat_lt⟩;have q0:=c 0 (by omega);have o:=c 1 (by omega);have m:=c 2 (by omega);have l:=c 3 (by omega);have k:=c 4 (by omega);have j:=c 5 (by omega);have g:=c 6 (by omega);have q:=c 7 (by omega);simp only[Nat.sub_zero,Nat.reduceSub]at q0 o m l k j g q f d;rw[f,d,q0,o,m,l,k,j,g,q]
 exact UInt8.toNat_inj.1 e
def fJ (l:List rU)(I:zB):Option (zB):=(l.find? λe=>e.1==I).map (·.2)
def gV {l I}(h:∀e∈l,e.1≠I):fJ l I=aB:=by unfold fJ;rw[List.find?_eq_none.2 (λe a=>by simpa using h e a)];rfl
def Po (y r:Nat)(h:y<256)(a:r<8):(bits .and aP ((y)*2^r%256) 128 !=0)=decide (y/2^(7-r)%2=1):=by
 have H:∀y:Fin 256,∀r:Fin 8,(bits .and aP ((y.val:Int)*2^r.val%256) 128 !=0)=decide (y.val/2^(7-r.val)%2=1):=by decide+kernel
 exact H ⟨y,h⟩ ⟨r,a⟩
def kS (s)(k:Nat)(w)(b:k/8<s.size)(hs:s.size<=9223372036854775807)(h:k<=4611686018427387904):
  Calls zq 82 #[aK s,aC aD k] w λe a=>e=aL (.bool (decide (bZ s.data.toList k=1)))/\a=w:=by
 go_enter (Qz.fn func82),ntmps82;go_wp2;have c:Hid (decide (bZ s.data.toList k=1)=(bits .and aP ((s[k/8].toNat:Int)*2^(k%8)%256) 128 !=0)):=by show _=_;rw[Po _ _ s[k/8].toNat_lt (zFt _ (by omega)),byte_at s (k/8) b,bZ]
 rw[c.out];go_ret;exact⟨rfl,rfl⟩
def tL (d:Nat)(w)(h:d<=65536):Calls zq 80 #[aC aD d] w λe a=>e=aL (aC aD (((d+7)/8:Nat):Int))/\a=w:=by go_enter (Qz.fn func80),ntmps80;go_wp2;go_ret;exact⟨by rw[Int.natCast_ediv];rfl,rfl⟩
def vH (w):Calls zq 98 #[] w λe a=>e=aL (aK ⟨#[0]⟩)/\a=w:=by go_enter (Qz.fn func98),ntmps98;go_wp2;go_ret;exact⟨rfl,rfl⟩
def KF (a)(w)(h:a.size<=1000):Calls zq 133 #[aK a] w λe b=>e=aL (aK ⟨(4::a.data.toList).toArray⟩)/\b=w:=by
 have e:Hid ((⟨#[4]⟩:ByteArray)++a=⟨(4::a.data.toList).toArray⟩):=by apply zDs;apply zCk.1;simp[zEl]
 go_enter (Qz.fn func133),ntmps133;go_wp2;rw[e.out];go_ret;exact⟨rfl,rfl⟩
def rJ (a b)(w)(h:a.size<=1000)(d:b.size<=1000):Calls zq 127 #[aK a,aK b] w λe c=>e=aL (aK ⟨(1::(a.data.toList++b.data.toList)).toArray⟩)/\c=w:=by
 have e:Hid ((⟨#[1]⟩:ByteArray)++a++b=⟨(1::(a.data.toList++b.data.toList)).toArray⟩):=by apply zDs;apply zCk.1;simp[zEl]
 go_enter (Qz.fn func127),ntmps127;go_wp2;rw[e.out];go_ret;exact⟨rfl,rfl⟩
def rI (a b)(w)(h:a.size<=1000)(d:b.size<=1000):Calls zq 118 #[aK a,aK b] w λe c=>e=aL (aK ⟨(2::(a.data.toList++b.data.toList)).toArray⟩)/\c=w:=by
 have e:Hid ((⟨#[2]⟩:ByteArray)++a++b=⟨(2::(a.data.toList++b.data.toList)).toArray⟩):=by apply zDs;apply zCk.1;simp[zEl]
 go_enter (Qz.fn func118),ntmps118;go_wp2;rw[e.out];go_ret;exact⟨rfl,rfl⟩
def ZA (s)(d:Nat)(w)(hs:s.size<=65536):
  Calls zq 81 #[aK s,aC aD d] w λe m=>m=w/\∃b:Bool,e=aL (.bool b)/\(b=aE->∃i,d<=i/\i<8*s.size/\bZ s.data.toList i=1)/\(b=aF->∀i,d<=i->i<8*s.size->bZ s.data.toList i=0):=by
 go_enter (Qz.fn func81),ntmps81;go_wp2_with fail;go_loopg [5] (8*s.size-d) (λq i wr=>∃j:Nat,(8*s.size-j)=q/\d<=j/\i=aC aD (j:Int)/\(∀i,d<=i->i<j->bZ s.data.toList i=0)/\wr=w);case atStart=>exact⟨d,rfl,zAb _,rfl,λi a l=>by omega,rfl⟩
 case round=>
  obtain⟨j,o,n,rfl,c0,rfl⟩:=hrel
  have C:=hid c0
  by_cases bW:j<8*s.size
  .go_wp2_with fail;refine(kS s j wr (by omega) (by omega) (by omega)).mono ?_;rintro e w2 ⟨rfl,c⟩;obtain rfl:wr=w2:=c.symm;have k:=jQ s.data.toList j;generalize g:bZ s.data.toList j=b at*;have H:=hid g;obtain rfl|rfl:=k
   .go_wp2;go_roundg (8*s.size-(j+1));case measure=>omega
    case rel=>
     go_light
     refine⟨j+1,rfl,by omega,by go_num,λi a l=> ?_,rfl⟩
     by_cases f:i=j
     .rw[f];exact H.out
     .exact C.out i a (by omega)
   .go_wp2;go_ret;exact⟨rfl,aE,rfl,λ_=>⟨j,n,bW,H.out⟩,(λh=>by cases h)⟩
  .go_wp2;go_ret;exact⟨rfl,aF,rfl,(λh=>by cases h),λ_ i a l=>C.out i a (by omega)⟩
def JN (s t)(d:Nat)(w)(hs:s.size=32)(x:t.size=32)(z:d<=256):
  Calls zq 83 #[aK s,aK t,aC aD d] w λe r=>r=w/\∃b:Bool,e=aL (.bool b)/\(b=aE↔∀i,i<d->bZ s.data.toList i=bZ t.data.toList i):=by
 go_enter (Qz.fn func83),ntmps83;go_wp2_with fail;go_loopg [9] d (λq i wr=>∃j:Nat,j+q=d/\i=aC aD (j:Int)/\(∀i,i<j->bZ s.data.toList i=bZ t.data.toList i)/\wr=w);case atStart=>exact⟨0,by omega,rfl,λi h=>by omega,rfl⟩
 case round=>
  obtain⟨j,y,rfl,c0,rfl⟩:=hrel
  have C:=hid c0
  by_cases bW:j<d
  .go_wp2_with fail;refine(kS s j wr (by omega) (by omega) (by omega)).mono ?_;rintro e w2 ⟨rfl,a⟩;obtain rfl:wr=w2:=a.symm;have p:=jQ s.data.toList j;generalize o:bZ s.data.toList j=b at*;have m:=hid o;go_wp2_with fail;refine(kS t j wr (by omega) (by omega) (by omega)).mono ?_;rintro e w2 ⟨rfl,a⟩;obtain rfl:wr=w2:=a.symm;have k:=jQ t.data.toList j;generalize g:bZ t.data.toList j=c at*;have H:=hid g;by_cases f:b=c
   .subst f;go_wp2;go_roundg (d-(j+1));case measure=>omega
    case rel=>
     go_light
     refine⟨j+1,by omega,by go_num,λi h=> ?_,rfl⟩
     by_cases n:i=j
     .rw[n,m.out,H.out]
     .exact C.out i (by omega)
   .have v:(decide (b=1)==decide (c=1))=aF:=by{obtain rfl|rfl:=p<;>obtain rfl|rfl:=k<;>first|rfl|exact absurd rfl f};have l:=hid f;have u:(decide (b=1)!=decide (c=1))=aE:=by{simp only[bne,v];rfl};go_wp2;go_ret;refine⟨rfl,aF,rfl,(λh=>by cases h),λh=> ?_⟩;have:=h j bW;rw[m.out,H.out]at this;exact absurd this l.out
  .go_wp2;go_ret;exact⟨rfl,aE,rfl,λ_=>λi h=>C.out i (by omega),λ_=>rfl⟩
def bG (k d:Nat)(v:zY)(a b c:zB):zA:= #[aC aD (k:Int),aC aD (d:Int),v,aK ⟨a.toArray⟩,aK ⟨b.toArray⟩,aK ⟨c.toArray⟩]
def MY (k:Nat)(w)(b:1<=k)(a:k<=32)(d:fF w):
  Calls zq 79 #[aC aD k] w λe c=>e=aL (aK ⟨(dg k [0]).toArray⟩)/\zb w c:=by
 have H:=hid d;go_enter (Qz.fn func79),ntmps79;go_wp2_with fail;refine(vH w).mono ?_;rintro e w2 ⟨rfl,h⟩;obtain rfl:w=w2:=h.symm;go_wp2_with fail;refine(rH k ⟨#[0]⟩ w b a (by decide) H.out).mono ?_;rintro e w3 ⟨rfl,hb⟩;have f:=hid hb;go_wp2;go_ret;exact⟨rfl,f.out⟩
def AZ (k:Nat)(a)(w)(c:1<=k)(b:k<=32)(d:a.size<=1000)(i:fF w):
  Calls zq 128 #[aC aD k,aK a] w λe f=>e=aL (aK ⟨(dg k (4::a.data.toList)).toArray⟩)/\zb w f:=by
 have j:=hid i;go_enter (Qz.fn func128),ntmps128;go_wp2_with fail;refine(KF a w d).mono ?_;rintro e w2 ⟨rfl,h⟩;obtain rfl:w=w2:=h.symm;have hl:(4::a.data.toList).length<=1001:=by simp;exact d
 generalize g:4::a.data.toList=Y at*;have H:=hid g;go_wp2_with fail;refine(rH k ⟨Y.toArray⟩ w c b (by show Y.length<=_;omega) j.out).mono ?_;rintro e w3 ⟨rfl,hb⟩;have l:=hid hb;go_wp2;go_ret;exact⟨by rw[<-H.out];rfl,l.out⟩
def Ub (k)(idx)(p:PW)(v)(w)(n:1<=k)(j:k<=32)(hi:idx.size=32)(g:p.Ok k)(s:fF w):
  Calls zq 117 #[.agg (bG k p.kind v p.value p.other p.eK),aK idx] w λe t=>e=aL (aK ⟨(p.iB k idx.data.toList).toArray⟩)/\zb w t:=by
 obtain⟨d,S,a,b,c⟩:=p;have A:=g.value;have y:=g.other;have z:=g.eK;have u:d<=2:=g.kind;clear g;have m:Hid (zb w (w.alloc (aI (bG k d v a b c) 112))):=(zGe _ _).alloc (zAb _) _;have f:Hid (cD (w.alloc (aI (bG k d v a b c) 112)) w.heap.size 112 (bG k d v a b c)):=cD.new _ _ _;have t0:=hid (s.below m.out (zAb _));clear s;dsimp only;go_enter (Qz.fn func117),ntmps117;go_upto_region 1 with(fail)
 generalize w.alloc (aI (bG k d v a b c) 112)=w0 at*;have F:w0.cell? ⟨w.heap.size,0,aB⟩=aA (aC aD (k:Int)):=by rw[f.out.cell];rfl
 have E:w0.cell? ⟨w.heap.size,1,aB⟩=aA (aC aD (d:Int)):=by rw[f.out.cell];rfl
 have D:w0.cell? ⟨w.heap.size,3,aB⟩=aA (aK ⟨a.toArray⟩):=by rw[f.out.cell];rfl
 have C:w0.cell? ⟨w.heap.size,4,aB⟩=aA (aK ⟨b.toArray⟩):=by rw[f.out.cell];rfl
 have B:w0.cell? ⟨w.heap.size,5,aB⟩=aA (aK ⟨c.toArray⟩):=by rw[f.out.cell];rfl
 obtain o|l|i:d=0\/d=1\/d=2:=by omega
 .subst o;go_wp2_with fail;refine(vH w0).mono ?_;rintro e w2 ⟨rfl,h⟩;obtain rfl:w0=w2:=h.symm;clear h;go_wp2;go_ret;exact⟨by rw[PW.iB];simp,m.out⟩
 .subst l;go_wp2_with fail;refine(AZ k ⟨a.toArray⟩ w0 n j (by show a.length<=_;omega) t0.out).mono ?_;rintro e w2 ⟨rfl,h⟩;have H:=hid (m.out.trans (h.mono m.out.size));clear h;have x:(dg k (4::(⟨a.toArray⟩:ByteArray).data.toList)).length=k:=fE k _ j;generalize r:dg k (4::(⟨a.toArray⟩:ByteArray).data.toList)=Y at*;have q:=hid r.symm;clear r;go_wp2_with fail;refine(rJ idx ⟨Y.toArray⟩ w2 (by omega) (by show Y.length<=_;omega)).mono ?_;rintro e w3 ⟨rfl,h⟩;obtain rfl:w2=w3:=h.symm;clear h;go_wp2;go_ret;exact⟨by rw[PW.iB];simp[q.out],H.out⟩
 .subst i;go_wp2_with fail;refine(rJ ⟨b.toArray⟩ ⟨c.toArray⟩ w0 (by show b.length<=_;omega) (by show c.length<=_;omega)).mono ?_;rintro e w3 ⟨rfl,h⟩;obtain rfl:w0=w3:=h.symm;clear h;go_wp2;go_ret;exact⟨by rw[PW.iB];simp,m.out⟩
def bE {B w w1 w2}(h:Below B w w1)(b:zb w1 w2)(a:B<=w1.heap.size):Hid (Below B w w2):=h.trans (b.mono a)
def vX (k:Nat)(I:zB)(p:PW)(n j:Nat)(cs:zA):Prop:=cs.size=n+1/\∀i,n-j<=i->i<=n->cs[i]? =aA (aK ⟨(p.iD k I i).toArray⟩)
def vX.step {k I p n j t cs}(h:vX k I p n j cs)(c:n-(j+1)=t)(d:j<n){x}(a:p.iD k I t=x):vX k I p n (j+1) (cs.setIfInBounds t (aK ⟨x.toArray⟩)):=by
 refine⟨by rw[zCi];exact h.1,λi f b=> ?_⟩;rw[zBn];by_cases e:t=i
 .subst e;rw[zAq rfl,zAq (by rw[h.1];omega),a]
 .rw[zAn e];exact h.2 i (by omega) b
def vX.all {k I p n cs}(h:vX k I p n n cs):cs=((List.range (n+1)).map λi=>Value.string ⟨(p.iD k I i).toArray⟩).toArray:=by
 apply zBy;intro i;by_cases hi:i<=n
 .rw[h.2 i (by omega) hi];simp[show i<n+1 by omega]
 .rw[zBi (by rw[h.1];omega),zBi (by simp;omega)]
def iA (n:Nat):zA:=madeCells #[aK ⟨#[]⟩] (n+1)
def ZC (n:Nat)(d:n<=256)(W):(Instr.makeSlice 82 (aC aD ((n)+1)) (aC aD ((n)+1))).run zq W= .ok (aJ (aA ⟨W.heap.size,0,aB⟩) (n+1) (n+1)) (W.alloc (aI (iA n) 9)):=by obtain⟨i,c,b,a,h⟩:=RI;have:=run_make W 82 9 i (aK ⟨#[]⟩) ((Qz.eO 82).trans underlying82) c b aD aD ((n:Int)+1) ((n:Int)+1) (by omega) (Int.le_refl _) (by rw[h];omega) (by omega);rw[this,a,zDv,show((n:Int)+1).toNat=n+1 from by omega];rfl
def TM (n i)(h:i<=n):(iA n)[i]? =aA (aK ⟨#[]⟩):=by rw[iA,<-zBp,toList_madeCells_one,List.getElem?_replicate,zAq (by omega)]
def xM (n):(iA n).size=n+1:=size_madeCells _ _
def Er (k)(idx)(p:PW)(v)(base)(w)(E:1<=k)(u:k<=32)(hi:idx.size=32)(A:p.Ok k)(hT:fF w)
  (m:Own w base 9 v p.fY.length (p.fY.map λx=>aK ⟨x.toArray⟩)):
  Calls zq 99 #[.agg (bG k p.kind v p.value p.other p.eK),aK idx] w λe w'=>zb w w'/\∃g,e=aL (aJ (aA ⟨g,0,aB⟩) (p.fY.length+1) (p.fY.length+1))/\
   w.heap.size<=g/\cD w' g 9 ((List.range (p.fY.length+1)).map λi=>aK ⟨(p.iD k idx.data.toList i).toArray⟩).toArray:=by
 generalize hI:idx.data.toList=I at*;have HI:=hid hI;have HIl:Hid (I.length=32):=by show _=_;rw[<-hI,zDm];exact hi
 have H:=hid A;obtain⟨f,S,a,b,c⟩:=p;have yn:S.length<=256:=A.depth;clear A;obtain⟨o,cap,rfl⟩:∃o cap,v=aJ o S.length cap:=by obtain⟨rfl,h0⟩|⟨g,cap,_,_,rfl,_⟩:=m.2;{exact⟨aB,0,by rw[h0]⟩};{exact⟨_,cap,rfl⟩}
 have o0:Hid (Own (w.alloc (aI (bG k f (aJ o S.length cap) a b c) 112)) base 9 (aJ o S.length cap) S.length (S.map λx=>aK ⟨x.toArray⟩)):=m.alloc _;have b0:Hid (zb w (w.alloc (aI (bG k f (aJ o S.length cap) a b c) 112))):=(zGe _ _).alloc (zAb _) _;have P:Hid (cD (w.alloc (aI (bG k f (aJ o S.length cap) a b c) 112)) w.heap.size 112 (bG k f (aJ o S.length cap) a b c)):=cD.new _ _ _;have HT:=hid hT;have HG:Hid (∀g,(Value.slice o S.length cap).ownBlock=aA g->g<w.heap.size):=λg y=>(m.lt g y).2;clear hT m;have Da:=ZC S.length yn;dsimp only;go_enter (Qz.fn func99),ntmps99;go_upto_region 1 with(fail)
 generalize w.alloc (aI (bG k f (aJ o S.length cap) a b c) 112)=w0 at*;have hG:=P.out.lt;have e2:w0.cell? ⟨w.heap.size,2,aB⟩=aA (aJ o S.length cap):=by rw[P.out.cell];rfl
 go_upto_region 3 with(fail)
 clear e2;have o1:Hid (Own (w0.alloc (aI (iA S.length) 9)) base 9 (aJ o S.length cap) S.length (S.map λx=>aK ⟨x.toArray⟩)):=o0.out.alloc _;have Q:Hid (zb w (w0.alloc (aI (iA S.length) 9))):=b0.out.alloc b0.out.size _;have k1:Hid (cD (w0.alloc (aI (iA S.length) 9)) w.heap.size 112 (bG k f (aJ o S.length cap) a b c)):=P.out.alloc _;have t1:Hid (cD (w0.alloc (aI (iA S.length) 9)) w0.heap.size 9 (iA S.length)):=cD.new _ _ _;clear o0 b0 P;generalize w0.alloc (aI (iA S.length) 9)=w1 at*;generalize w0.heap.size=G at*;have T1:Hid (fF w1):=HT.out.below Q.out (zAb _);go_wp2_with (first
  |refine zGm rfl 112 _ rfl w.heap.size rfl _ _ _ _ k1.out ((Qz.eO 112).trans underlying112) rfl (by kernel_rfl) ?_
  |fail)
 refine(Ub k idx ⟨f,S,a,b,c⟩ (aJ o S.length cap) w1 E u hi H.out T1.out).mono ?_;rintro e w2 ⟨rfl,r⟩;rw[HI.out];have b2:=bE Q.out r Q.out.size;have k2:Hid (cD w2 w.heap.size 112 (bG k f (aJ o S.length cap) a b c)):=k1.out.below r k1.out.lt;have t2:Hid (cD w2 G 9 (iA S.length)):=t1.out.below r t1.out.lt;have o2:Hid (Own w2 base 9 (aJ o S.length cap) S.length (S.map λx=>aK ⟨x.toArray⟩)):=o1.out.below r (zAb _);clear r Q k1 t1 o1 T1;have e1:w2.cell? ⟨G,S.length,aB⟩=aA (aK ⟨#[]⟩):=by rw[t2.out.cell];exact TM _ _ (zAb _)
 have f1:w2.frozen? ⟨G,S.length,aB⟩=aF:=t2.out.frozen _;have kk:((S.length:Nat):Int)<((S.length+1:Nat):Int):=by omega
 go_upto_region 4 with(fail)
 have b3:Hid (zb w (w2.setCell ⟨G,S.length,aB⟩ (aK ⟨(PW.iB k I ⟨f,S,a,b,c⟩).toArray⟩))):=b2.out.setCell (by simp only;omega) _;have k3:Hid (cD (w2.setCell ⟨G,S.length,aB⟩ (aK ⟨(PW.iB k I ⟨f,S,a,b,c⟩).toArray⟩)) w.heap.size 112 (bG k f (aJ o S.length cap) a b c)):=k2.out.bO _ _ (by simp only;omega);have t3:Hid (cD (w2.setCell ⟨G,S.length,aB⟩ (aK ⟨(PW.iB k I ⟨f,S,a,b,c⟩).toArray⟩)) G 9 ((iA S.length).setIfInBounds S.length (aK ⟨(PW.iB k I ⟨f,S,a,b,c⟩).toArray⟩))):=t2.out.dL _ _;have o3:Hid (Own (w2.setCell ⟨G,S.length,aB⟩ (aK ⟨(PW.iB k I ⟨f,S,a,b,c⟩).toArray⟩)) base 9 (aJ o S.length cap) S.length (S.map λx=>aK ⟨x.toArray⟩)):=o2.out.kept λg y=>zGh _ _ _ _ (by have:=HG.out g y;simp only;omega);have F3:Hid (vX k I ⟨f,S,a,b,c⟩ S.length 0 ((iA S.length).setIfInBounds S.length (aK ⟨(PW.iB k I ⟨f,S,a,b,c⟩).toArray⟩))):=by refine⟨by rw[zCi];exact xM _,λi h1 h2=> ?_⟩;obtain rfl:i=S.length:=by{omega};rw[zBn,zAq rfl,zAq (by rw[xM];omega)];simp only[PW.iD,Nat.sub_self];rfl
 clear e1 f1 kk b2 k2 t2 o2 Da;generalize(iA S.length).setIfInBounds S.length (aK ⟨(PW.iB k I ⟨f,S,a,b,c⟩).toArray⟩)=zi at*;generalize w2.setCell ⟨G,S.length,aB⟩ (aK ⟨(PW.iB k I ⟨f,S,a,b,c⟩).toArray⟩)=w3 at*;go_wp2;go_loopg [7] S.length (λq x wr=>∃(j:Nat)(cs:zA),j+q=S.length/\x=aC aD ((S.length:Int)-1-(j:Int))/\vX k I ⟨f,S,a,b,c⟩ S.length j cs/\zb w wr/\cD wr w.heap.size 112 (bG k f (aJ o S.length cap) a b c)/\cD wr G 9 cs/\Own wr base 9 (aJ o S.length cap) S.length (S.map λx=>aK ⟨x.toArray⟩));case atStart=>exact⟨0,zi,by omega,by go_num,F3.out,b3.out,k3.out,t3.out,o3.out⟩
 case round=>
  obtain⟨j,cs,hj,rfl,c0,c1,c2,c3,c4⟩:=hrel
  clear F3 b3 k3 t3 o3
  have N:=hid c0
  have R:=hid c1
  have M:=hid c2
  have C:=hid c3
  have C4:=hid c4
  have CT:Hid (fF wr):=HT.out.below c1 (zAb _)
  clear c0 c1 c2 c3 c4
  by_cases bW:j<S.length
  .obtain⟨t,ht⟩:∃t:Nat,t=S.length-1-j:=⟨_,rfl⟩;have D:(S.length:Int)-1-(j:Int)=(t:Int):=by{omega};rw[D];have L:=hid ht;have s:t<S.length:=by{omega};have K:Hid ((t:Int)-1=(S.length:Int)-1-((j+1:Nat):Int)):=by{show _=_;omega};have J:Hid (PW.iD k I ⟨f,S,a,b,c⟩ (t+1)=PW.up k I ⟨f,S,a,b,c⟩ j):=by{show _=_;rw[PW.iD];exact congrArg (PW.up k I ⟨f,S,a,b,c⟩) (show S.length-(t+1)=j by omega)};have z:Hid (PW.iD k I ⟨f,S,a,b,c⟩ t=PW.up k I ⟨f,S,a,b,c⟩ (j+1)):=by show _=_;rw[PW.iD];exact congrArg (PW.up k I ⟨f,S,a,b,c⟩) (show S.length-t=j+1 by omega)
   clear ht D;have hul:(PW.up k I ⟨f,S,a,b,c⟩ j).length<=65:=KO k I _ u HIl.out H.out j (by show j<=S.length;omega);have HH:Hid (∀(d:Nat)(os:zJ),Calls zq 53 #[aC aD k,aK ⟨(PW.up k I ⟨f,S,a,b,c⟩ j).toArray⟩] (Go.Sort.grow (redrawn wr d) os) λe T=>e=aL (aK ⟨(dg k (PW.up k I ⟨f,S,a,b,c⟩ j)).toArray⟩)/\∃p:Regrown,T=Go.Sort.grow (redrawn wr p.d) p.os):=λd os=>
    aFw (rH k _ _ E u (by show(PW.up k I ⟨f,S,a,b,c⟩ j).length<=_;omega) (CT.out.below (zGl wr d os) (zAb _)))
   have e0:∀(d:Nat)(os:zJ),(Go.Sort.grow (redrawn wr d) os).cell? ⟨w.heap.size,0,aB⟩=aA (aC aD (k:Int)):=λd os=>((M.out.below (zGl wr d os) M.out.lt).cell 0).trans rfl;have eT:∀(d:Nat)(os:zJ),(Go.Sort.grow (redrawn wr d) os).cell? ⟨G,t+1,aB⟩=aA (aK ⟨(PW.up k I ⟨f,S,a,b,c⟩ j).toArray⟩):=λd os=>by rw[(C.out.below (zGl wr d os) C.out.lt).cell,N.out.2 (t+1) (by have:=L.out;omega) (by omega),J.out]
   have U0:Hid (bZ I t=0->PW.iD k I ⟨f,S,a,b,c⟩ t=2::(dg k (PW.up k I ⟨f,S,a,b,c⟩ j)++S.getD t [])):=λh=>by rw[z.out];rw[L.out]at h⊢;rw[PW.up,zAq h]
   have U1:Hid (bZ I t=1->PW.iD k I ⟨f,S,a,b,c⟩ t=2::(S.getD t []++dg k (PW.up k I ⟨f,S,a,b,c⟩ j))):=λh=>by rw[z.out];rw[L.out]at h⊢;rw[PW.up];dsimp only;rw[zAn (by omega)]
   have jy:(S.getD t []).length<=32:=by rw[zBo,zAf s];have:=H.out.vm _ (zCx (l:=S) s);simp only[zCj];omega
   have Yf:(dg k (PW.up k I ⟨f,S,a,b,c⟩ j)).length=k:=fE k _ u;clear z J;generalize dg k (PW.up k I ⟨f,S,a,b,c⟩ j)=Y at*;generalize PW.up k I ⟨f,S,a,b,c⟩ j=U at*;generalize hZ:S.getD t []=Z at*;have HZ:=hid hZ;clear hZ;have rh:=jQ I t;go_wp2;refine zGr (by kernel_rfl) (by kernel_rfl) ?_;(repeat (any_goals(first|go_big_quiet_step ((exact HH.out _ _))|quiet_step ((exact HH.out _ _)))));refine zGy ?_;intro W V;obtain⟨p,A⟩:=V;have F:Hid (zb wr W):=by rw[A];exact zGl wr p.d p.os
   clear A HH e0 eT;have B1:=bE R.out F.out R.out.size;have K1:Hid (cD W w.heap.size 112 (bG k f (aJ o S.length cap) a b c)):=M.out.below F.out M.out.lt;have t1:Hid (cD W G 9 cs):=C.out.below F.out C.out.lt;have O:Hid (Own W base 9 (aJ o S.length cap) S.length (S.map λx=>aK ⟨x.toArray⟩)):=C4.out.below F.out (zAb _);clear R M C C4 CT F;obtain⟨g,cap',ho⟩:=O.out.form (by omega);injection ho with ho1 ki X;subst ho1;subst X;clear ki;have e2:W.cell? ⟨w.heap.size,2,aB⟩=aA (aJ (aA ⟨g,0,aB⟩) S.length cap):=(K1.out.cell 2).trans rfl;have eS:W.cell? ⟨g,t,aB⟩=aA (aK ⟨Z.toArray⟩):=by rw[O.out.cell t s,<-HZ.out];simp[s]
   obtain⟨_,xy,dH⟩:=O.out.base;obtain⟨x,hx⟩:∃x,cs[t]? =aA x:=⟨_,zAj (by have:=N.out.1;omega)⟩;have eG:W.cell? ⟨G,t,aB⟩=aA x:=by{rw[t1.out.cell];exact hx};have fG:W.frozen? ⟨G,t,aB⟩=aF:=t1.out.frozen _;clear hx;go_wp2_with fail;refine(kS idx t W (by rw[hi];omega) (by rw[hi];omega) (by omega)).mono ?_;rw[HI.out];rintro e w2 ⟨rfl,B⟩;obtain rfl:W=w2:=B.symm;clear B;generalize bZ I t=x at*;obtain rfl|rfl:=rh
   .have hq:decide (0=1)=aF:=by{decide};go_wp2_with fail;refine(rI ⟨Y.toArray⟩ ⟨Z.toArray⟩ W (by show _<=1000;simp only[zAr,aFr];omega) (by show _<=1000;simp only[zAr,aFr];omega)).mono ?_;rintro e w4 ⟨rfl,n⟩;obtain rfl:W=w4:=n.symm;clear n;go_wp2;go_roundg (S.length-(j+1));case measure=>omega
    case rel=>
     go_light
     refine⟨j+1,_,by omega,by rw[<-K.out],N.out.step (t:=t) (by have:=L.out;omega) bW (U0.out (by first|trivial|rfl)),B1.out.setCell (by simp only;omega) _,K1.out.bO _ _ (by simp only;omega),t1.out.dL _ _,O.out.kept λg y=>zGh _ _ _ _ (by have:=HG.out g y;simp only;omega)⟩
   .have hq:decide (1=1)=aE:=rfl;go_wp2_with fail;refine(rI ⟨Z.toArray⟩ ⟨Y.toArray⟩ W (by show _<=1000;simp only[zAr,aFr];omega) (by show _<=1000;simp only[zAr,aFr];omega)).mono ?_;rintro e w4 ⟨rfl,n⟩;obtain rfl:W=w4:=n.symm;clear n;go_wp2;go_roundg (S.length-(j+1));case measure=>omega
    case rel=>
     go_light
     refine⟨j+1,_,by omega,by rw[<-K.out],N.out.step (t:=t) (by have:=L.out;omega) bW (U1.out (by first|trivial|rfl)),B1.out.setCell (by simp only;omega) _,K1.out.bO _ _ (by simp only;omega),t1.out.dL _ _,O.out.kept λg y=>zGh _ _ _ _ (by have:=HG.out g y;simp only;omega)⟩
  .obtain rfl:j=S.length:=by{omega};go_wp2;go_ret;refine⟨R.out,G,rfl,by omega,?_⟩;have:=C.out;rw[N.out.all]at this;exact this
def AD (k)(idx)(p:PW)(v)(base)(w)(f:1<=k)(b:k<=32)(hi:idx.size=32)(C:p.Ok k)(E:fF w)
  (d:Own w base 9 v p.fY.length (p.fY.map λx=>aK ⟨x.toArray⟩)):
  Calls zq 84 #[.agg (bG k p.kind v p.value p.other p.eK),aK idx] w λe r=>e=aL (aK ⟨(p.root k idx.data.toList).toArray⟩)/\zb w r:=by
 have H:=hid C;have n:=hid E;have J:=hid d;have a:Hid (cD (w.alloc (aI (bG k p.kind v p.value p.other p.eK) 112)) w.heap.size 112 (bG k p.kind v p.value p.other p.eK)):=cD.new _ _ _;have m:Hid (zb w (w.alloc (aI (bG k p.kind v p.value p.other p.eK) 112))):=(zGe _ _).alloc (zAb _) _;have A:Hid (Own (w.alloc (aI (bG k p.kind v p.value p.other p.eK) 112)) base 9 v p.fY.length (p.fY.map λx=>aK ⟨x.toArray⟩)):=J.out.alloc _;go_enter (Qz.fn func84),ntmps84;go_upto_region 1 with(fail)
 generalize w.alloc (aI (bG k p.kind v p.value p.other p.eK) 112)=w0 at*;have R:=hid (n.out.below m.out (zAb _));have Q:w0.cell? ⟨w.heap.size,0,aB⟩=aA (aC aD (k:Int)):=by rw[a.out.cell];rfl
 have bW:=a.out.lt;have F:idx.data.toList.length=32:=by rw[zDm];exact hi
 have B:(p.iD k idx.data.toList 0).length<=65:=KO k _ p b F H.out _ (by omega);have h:Hid (p.root k idx.data.toList=dg k (p.iD k idx.data.toList 0)):=rfl;have P:w0.cell? ⟨w.heap.size,1,aB⟩=aA (aC aD (p.kind:Int)):=by rw[a.out.cell];rfl
 have O:w0.cell? ⟨w.heap.size,2,aB⟩=aA v:=by rw[a.out.cell];rfl
 have N:w0.cell? ⟨w.heap.size,3,aB⟩=aA (aK ⟨p.value.toArray⟩):=by rw[a.out.cell];rfl
 have M:w0.cell? ⟨w.heap.size,4,aB⟩=aA (aK ⟨p.other.toArray⟩):=by rw[a.out.cell];rfl
 have L:w0.cell? ⟨w.heap.size,5,aB⟩=aA (aK ⟨p.eK.toArray⟩):=by rw[a.out.cell];rfl
 have T:=hid (n.out.below m.out.drew (zAb _));have o:Hid (Own w0.drew base 9 v p.fY.length (p.fY.map λx=>aK ⟨x.toArray⟩)):=A.out.kept λ_ _=>rfl;have i:Hid (zb w w0.drew):=m.out.drew;have j:Hid (cD w0.drew w.heap.size 112 (bG k p.kind v p.value p.other p.eK)):=a.out;go_region_with (first
   |(go_at_call 99;refine(Er k idx p v base w0.drew f b hi H.out T.out o.out).mono ?_;rintro e w1 ⟨hb,g,rfl,D,q⟩;
     have k1:Hid (cD w1 w.heap.size 112 (bG k p.kind v p.value p.other p.eK)):=j.out.below hb bW;
     have l:Hid (zb w w1):=i.out.trans (hb.mono i.out.size);
     have I:Hid (fF w1):=n.out.below l.out (zAb _);
     have K:w1.cell? ⟨g,0,aB⟩=aA (aK ⟨(p.iD k idx.data.toList 0).toArray⟩):=(q.cell 0).trans (by simp);
     clear hb D q;
     have q0:w1.cell? ⟨w.heap.size,0,aB⟩=aA (aC aD (k:Int)):=(k1.out.cell 0).trans rfl;
     have z:w1.cell? ⟨w.heap.size,1,aB⟩=aA (aC aD (p.kind:Int)):=(k1.out.cell 1).trans rfl;
     have y:w1.cell? ⟨w.heap.size,2,aB⟩=aA v:=(k1.out.cell 2).trans rfl;
     have u:w1.cell? ⟨w.heap.size,3,aB⟩=aA (aK ⟨p.value.toArray⟩):=(k1.out.cell 3).trans rfl;
     have t:w1.cell? ⟨w.heap.size,4,aB⟩=aA (aK ⟨p.other.toArray⟩):=(k1.out.cell 4).trans rfl;
     have s:w1.cell? ⟨w.heap.size,5,aB⟩=aA (aK ⟨p.eK.toArray⟩):=(k1.out.cell 5).trans rfl)
   |(go_at_call 53;refine(rH k ⟨(p.iD k idx.data.toList 0).toArray⟩ _ f b (by show(p.iD k idx.data.toList 0).length<=_;omega) I.out).mono ?_;rintro e w2 ⟨rfl,c⟩;
     have k2:Hid (cD w2 w.heap.size 112 (bG k p.kind v p.value p.other p.eK)):=k1.out.below c k1.out.lt;
     have G:Hid (zb w w2):=l.out.trans (c.mono l.out.size);
     clear c;
     have q0:w2.cell? ⟨w.heap.size,0,aB⟩=aA (aC aD (k:Int)):=(k2.out.cell 0).trans rfl;
     have z:w2.cell? ⟨w.heap.size,1,aB⟩=aA (aC aD (p.kind:Int)):=(k2.out.cell 1).trans rfl;
     have y:w2.cell? ⟨w.heap.size,2,aB⟩=aA v:=(k2.out.cell 2).trans rfl;
     have u:w2.cell? ⟨w.heap.size,3,aB⟩=aA (aK ⟨p.value.toArray⟩):=(k2.out.cell 3).trans rfl;
     have t:w2.cell? ⟨w.heap.size,4,aB⟩=aA (aK ⟨p.other.toArray⟩):=(k2.out.cell 4).trans rfl;
     have s:w2.cell? ⟨w.heap.size,5,aB⟩=aA (aK ⟨p.eK.toArray⟩):=(k2.out.cell 5).trans rfl))
 all_goals
  go_wp2
  go_ret
  exact⟨by rw[h.out];rfl,G.out⟩
def cU:zA:= #[aC aD 0,aC aD 0,aJ aB 0 0,aK ⟨#[]⟩,aK ⟨#[]⟩,aK ⟨#[]⟩]
def MX (root idx s:zB)(w:zW)(e:Ending)(w':zW):Prop:=
 zb w w'/\
 ((bR root idx s≠0/\e=aL (.tuple #[.agg cU,aC aD (bR root idx s:Nat)]))\/
  ∃p v,bR root idx s=0/\parse root.length idx s=aA p/\p.root root.length idx=root/\e=aL (.tuple #[.agg (bG root.length p.kind v p.value p.other p.eK),aC aD 0])/\Own w' w.heap.size 9 v p.fY.length (p.fY.map λx=>aK ⟨x.toArray⟩))
def YM {root idx s:zB}{w w':zW}{n:Nat}(h:bR root idx s=n)(a:n≠0)(b:zb w w'):MX root idx s w (aL (.tuple #[.agg cU,aC aD (n:Int)])) w':=
 ⟨b,aG ⟨by rw[h];exact a,by rw[h]⟩⟩
def OG {w base e v n xs}(h:Own w base e v n xs){k kd a b c}:(bG k kd v a b c).all (·.oneCell')=aE:=by obtain⟨rfl,_⟩|⟨g,cap,_,_,rfl,_⟩:=h.2<;>simp[bG,Value.oneCell']
def Mj (a b:Nat)(f:a<256)(e:b<256):bits .or aD ((a)*256) (b)=256*(a)+(b):=by
 have d:((a:Int)*256%((2^64:Nat):Int)).toNat=a<<<8:=by rw[aFD];omega
 have c:((b:Int)%((2^64:Nat):Int)).toNat=b:=by omega
 have h:a<<<8|||b=a*256+b:=by rw[<-Nat.shiftLeft_add_eq_or_of_lt (by omega:b<2^8),aFD]
 unfold bits;simp only[BitVec.toNat_or,BitVec.toNat_ofInt];rw[zGj,show IntKind.i64.bits=64 from rfl,d,c,h];omega
def Jump (root idx s:zB)(w:zW)(a:Act)(w':zW):Prop:=
 a.defers=[]/\a.tmps.size=146/\a.tmps[6]? =aA (aN (aA ⟨w.heap.size,0,aB⟩))/\a.tmps[10]? =aA (aC aD (bR root idx s:Nat))/\bR root idx s≠0/\zb w w'/\cD w' w.heap.size 112 cU
def Gk (root idx s)(w)(hs:s.size<=140737488351232)(No:1<=root.size)(F:root.size<=32)(hi:idx.size=32)(hT:fF w):
  Calls zq 55 #[aK root,aK idx,aK s] w (MX root.data.toList idx.data.toList s.data.toList w):=by
 have HT:Hid (fF w):=hT;clear hT;have m:Hid (root.data.toList.length=root.size):=by show _=_;simp
 have Zx:Hid (idx.data.toList.length=idx.size):=by show _=_;simp
 have E:Hid (¬(root.data.toList.length<1\/32<root.data.toList.length\/idx.data.toList.length≠32)):=by show¬_;rw[m.out,Zx.out];omega
 generalize hk:root.size=k at*;have Hk:Hid (root.size=k):=hk;go_enter (Qz.fn func55),ntmps55;go_upto_region 1 with(fail)
 refine wp_scope_jumps 0 (Jump root.data.toList idx.data.toList s.data.toList w) (λ_ _=>0) rfl ?_ ?_;case refine_2=>
  rintro⟨T,df⟩ W ⟨h0,h1,h2,h3,h4,h5,h6⟩
  obtain rfl:df=[]:=h0
  dsimp only at h1 h2 h3
  have hB:Hid (zb w W):=h5
  have hZ:Hid (cD W w.heap.size 112 cU):=h6
  have f:Hid (bR root.data.toList idx.data.toList s.data.toList≠0):=h4
  have g6:T[6]'(by omega)=aN (aA ⟨w.heap.size,0,aB⟩):=(zAa.1 h2).2
  have g10:T[10]'(by omega)=aC aD (bR root.data.toList idx.data.toList s.data.toList:Nat):=(zAa.1 h3).2
  clear h2 h3 h4 h5 h6
  generalize hn:bR root.data.toList idx.data.toList s.data.toList=n at*
  have Hn:Hid (bR root.data.toList idx.data.toList s.data.toList=n):=hn
  clear hn
  go_wp2_with (refine zGk rfl 112 _ _ rfl w.heap.size cU (by simp[Act.eval,h1,g6]) (by simp[Act.eval,h1,cU]) _ _ hZ.out (by kernel_rfl) rfl (by kernel_rfl) ?_)
  change bodyPost zq f55 _ Exit.ret _ _
  exact zGs (eW results55 _ _ w.heap.size _ _ _ _ (by simp[h1,g6]) (hZ.out.dV _) ((Qz.eO 112).trans underlying112) rfl (by kernel_rfl) (aC aD (n:Int)) (by simp[h1])) rfl (YM Hn.out f.out (cA hB.out (zAb _) _))
 go_upto_region 2 with(fail)
 have b1:Hid (zb w ((w.alloc (aI cU 112)).alloc (aI (bG k 0 (aJ aB 0 0) [] [] []) 112))):=((zGe _ _).alloc (zAb _) _).alloc (by simp) _;have b2:Hid (cD ((w.alloc (aI cU 112)).alloc (aI (bG k 0 (aJ aB 0 0) [] [] []) 112)) w.heap.size 112 cU):=(cD.new _ _ _).alloc _;have b3:Hid (cD ((w.alloc (aI cU 112)).alloc (aI (bG k 0 (aJ aB 0 0) [] [] []) 112)) (w.heap.size+1) 112 (bG k 0 (aJ aB 0 0) [] [] [])):=by have:=cD.new (w.alloc (aI cU 112)) 112 (bG k 0 (aJ aB 0 0) [] [] []);rw[size_alloc]at this;exact this
 have b4:Hid (w.heap.size+2<=((w.alloc (aI cU 112)).alloc (aI (bG k 0 (aJ aB 0 0) [] [] []) 112)).heap.size):=by show _<=_;rw[size_alloc,size_alloc];omega
 rw[show((w.alloc (aI #[aC aD 0,aC aD 0,aJ aB 0 0,aK ⟨#[]⟩,aK ⟨#[]⟩,aK ⟨#[]⟩] 112)).alloc (aI #[aC aD (k:Int),aC aD 0,aJ aB 0 0,aK ⟨#[]⟩,aK ⟨#[]⟩,aK ⟨#[]⟩] 112))=((w.alloc (aI cU 112)).alloc (aI (bG k 0 (aJ aB 0 0) [] [] []) 112))from rfl];generalize(w.alloc (aI cU 112)).alloc (aI (bG k 0 (aJ aB 0 0) [] [] []) 112)=w0 at*;have e0:w0.cell? ⟨w.heap.size+1,0,aB⟩=aA (aC aD (k:Int)):=by rw[b3.out.cell];rfl
 go_wp2_with fail;refine(MY k w0 No F (HT.out.below b1.out (zAb _))).mono ?_;rintro e w1 ⟨rfl,P⟩;have c1:=bE b1.out P b1.out.size;have c2:Hid (cD w1 w.heap.size 112 cU):=b2.out.below P b2.out.lt;have c3:Hid (cD w1 (w.heap.size+1) 112 (bG k 0 (aJ aB 0 0) [] [] [])):=b3.out.below P b3.out.lt;have c4:Hid (w.heap.size+2<=w1.heap.size):=zAw b4.out P.size;clear b1 b2 b3 b4 e0 P;have hDl:(dg k [0]).length=k:=fE k _ F;generalize hD:dg k [0]=D at*;have HD:Hid (dg k [0]=D):=hD;have u:Hid (s.data.toList.length=s.size):=by show _=_;simp
 clear hD;by_cases h3:s.size<3
 .have f:Hid (bR root.data.toList idx.data.toList s.data.toList=2):=dO E.out (oT (aG (by rw[u.out];exact h3)));go_wp2;go_step3;show 0=0/\Jump root.data.toList idx.data.toList s.data.toList w _ _;exact⟨rfl,rfl,rfl,rfl,by rw[f.out];rfl,by rw[f.out];decide,c1.out,c2.out⟩
 have h3':3<=s.size:=by omega
 have hx0:∀W,(Instr.index 9 (aK s) (aC aD 0)).run zq W= .ok (aC aP ((kindOf s.data.toList:Nat):Int)) W:=GI s 0 (by omega);have ot:∀W,(Instr.index 9 (aK s) (aC aD 1)).run zq W= .ok (aC aP ((s.data.toList.getD 1 0).toNat:Int)) W:=GI s 1 (by omega);have hx2:∀W,(Instr.index 9 (aK s) (aC aD 2)).run zq W= .ok (aC aP ((s.data.toList.getD 2 0).toNat:Int)) W:=GI s 2 (by omega);have i3:(3:Int)<=(s.size:Int):=by omega
 have hd:bits .or aD (((s.data.toList.getD 1 0).toNat:Int)*256) ((s.data.toList.getD 2 0).toNat:Int)=((dP s.data.toList:Nat):Int):=by rw[Mj _ _ (s.data.toList.getD 1 0).toNat_lt (s.data.toList.getD 2 0).toNat_lt];unfold dP;omega
 have hn:(((dP s.data.toList:Nat):Int)+7)/8=((dD s.data.toList:Nat):Int):=by unfold dD;omega
 have Yf:=Pc s.data.toList;have hnl:dD s.data.toList<8193:=by unfold dD;omega
 have hkl:kindOf s.data.toList<256:=(s.data.toList.getD 0 0).toNat_lt;have P:((s.data.toList.getD 1 0).toNat:Int)<256:=by have:=(s.data.toList.getD 1 0).toNat_lt;omega
 have ZU:((s.data.toList.getD 2 0).toNat:Int)<256:=by have:=(s.data.toList.getD 2 0).toNat_lt;omega
 have kv:0<=((s.data.toList.getD 1 0).toNat:Int):=zDz _;have rf:0<=((s.data.toList.getD 2 0).toNat:Int):=zDz _;generalize((s.data.toList.getD 1 0).toNat:Int)=y1 at*;generalize((s.data.toList.getD 2 0).toNat:Int)=y2 at*;generalize hL:s.data.toList=L at*;have HL:Hid (s.data.toList=L):=hL;clear hL;generalize hI:idx.data.toList=I at*;have HI:Hid (idx.data.toList=I):=hI;clear hI;generalize hR:root.data.toList=l at*;have HR:Hid (root.data.toList=l):=hR;clear hR;generalize Ya:kindOf L=p at*;have z:Hid (kindOf L=p):=Ya;generalize yb:dP L=d at*;have J:Hid (dP L=d):=yb;generalize kk:dD L=n at*;have G:Hid (dD L=n):=kk;clear Ya yb kk;have e1:w1.cell? ⟨w.heap.size+1,1,aB⟩=aA (aC aD 0):=by rw[c3.out.cell];rfl
 have f1:w1.frozen? ⟨w.heap.size+1,1,aB⟩=aF:=c3.out.frozen 1;have e0:w1.cell? ⟨w.heap.size+1,0,aB⟩=aA (aC aD (k:Int)):=by rw[c3.out.cell];rfl
 go_wp2;have v0:IntKind.i64.wrap (p:Int)=(p:Int):=by rw[zGj];omega
 have v1:IntKind.i64.wrap y1=y1:=by rw[zGj];omega
 have v2:IntKind.i64.wrap (y1*256)=y1*256:=by rw[zGj];omega
 have v3:IntKind.i64.wrap y2=y2:=by rw[zGj];omega
 refine wp_region_any (by kernel_rfl) ?_;change wpAny _ _ _ _ _ _ _ (World.drew _);refine zGx (i:=0) (v:=aK s) rfl (by kernel_rfl) (by kernel_rfl) (by kernel_rfl) (λ_ _ _ h=>h) (aG ⟨by rfl,λW=>by go_simp⟩) ?_;simp only[Act.put];refine zGx (i:=1) (v:=aC aP (p:Int)) rfl (by kernel_rfl) (by kernel_rfl) (by kernel_rfl) (λ_ _ _ h=>h) (aG ⟨by rfl,λW=>by go_simp⟩) ?_;simp only[Act.put];refine zGx (i:=2) (v:=aC aD (p:Int)) rfl (by kernel_rfl) (by kernel_rfl) (by kernel_rfl) (λ_ _ _ h=>h) (aG ⟨by rfl,λW=>by go_simp⟩) ?_;simp only[Act.put];refine zGx (i:=3) (v:=aK s) rfl (by kernel_rfl) (by kernel_rfl) (by kernel_rfl) (λ_ _ _ h=>h) (aG ⟨by rfl,λW=>by go_simp⟩) ?_;simp only[Act.put];refine zGx (i:=4) (v:=aC aP y1) rfl (by kernel_rfl) (by kernel_rfl) (by kernel_rfl) (λ_ _ _ h=>h) (aG ⟨by rfl,λW=>by go_simp⟩) ?_;simp only[Act.put];refine zGx (i:=5) (v:=aC aD y1) rfl (by kernel_rfl) (by kernel_rfl) (by kernel_rfl) (λ_ _ _ h=>h) (aG ⟨by rfl,λW=>by go_simp⟩) ?_;simp only[Act.put];refine zGx (i:=6) (v:=aC aD (y1*256)) rfl (by kernel_rfl) (by kernel_rfl) (by kernel_rfl) (λ_ _ _ h=>h) (aG ⟨by rfl,λW=>by go_simp⟩) ?_;simp only[Act.put];refine zGx (i:=7) (v:=aK s) rfl (by kernel_rfl) (by kernel_rfl) (by kernel_rfl) (λ_ _ _ h=>h) (aG ⟨by rfl,λW=>by go_simp⟩) ?_;simp only[Act.put];refine zGx (i:=8) (v:=aC aP y2) rfl (by kernel_rfl) (by kernel_rfl) (by kernel_rfl) (λ_ _ _ h=>h) (aG ⟨by rfl,λW=>by go_simp⟩) ?_;simp only[Act.put];refine zGx (i:=9) (v:=aC aD y2) rfl (by kernel_rfl) (by kernel_rfl) (by kernel_rfl) (λ_ _ _ h=>h) (aG ⟨by rfl,λW=>by go_simp⟩) ?_;simp only[Act.put];refine zGx (i:=10) (v:=aC aD (d:Int)) rfl (by kernel_rfl) (by kernel_rfl) (by kernel_rfl) (λ_ _ _ h=>h) (aG ⟨by rfl,λW=>by go_simp⟩) ?_;simp only[Act.put];refine zGx (i:=11) (v:=aK s) rfl (by kernel_rfl) (by kernel_rfl) (by kernel_rfl) (λ_ _ _ h=>h) (aG ⟨by rfl,λW=>by go_simp⟩) ?_;simp only[Act.put];refine zGx (i:=12) (v:=aK (s.extract 3 s.size)) rfl (by kernel_rfl) (by kernel_rfl) (by kernel_rfl) (λ_ _ _ h=>h) (aG ⟨by rfl,λW=>by go_simp⟩) ?_;simp only[Act.put];refine zGx (i:=13) (v:=aN (aA ⟨w.heap.size+1,1,aB⟩)) rfl (by kernel_rfl) (by kernel_rfl) (by kernel_rfl) (λ_ _ _ h=>h) (aG ⟨by rfl,λW=>by go_simp⟩) ?_;simp only[Act.put];refine wpAny_ready (rs:=[14]) (by kernel_rfl) (by simp) ?_;refine aFu rfl (λK hK=> ?_) aFv;go_simp;refine hK _ _ ?_;clear hK K;refine wpAny_ready (rs:=[15]) (by kernel_rfl) (by simp) ?_;refine aFu rfl (λK hK=> ?_) aFv;go_simp;refine hK _ _ ?_;clear hK K;refine wpAny_ready (rs:=[16]) (by kernel_rfl) (by simp) ?_;refine aFu rfl (λK hK=> ?_) aFv;go_simp;refine hK _ _ ?_;clear hK K;refine wpAny_done (by kernel_rfl) ?_ _;have d1:Hid (zb w (w1.setCell ⟨w.heap.size+1,1,aB⟩ (aC aD (p:Int))).drew):=(c1.out.setCell (by simp) _).drew;have d2:Hid (cD (w1.setCell ⟨w.heap.size+1,1,aB⟩ (aC aD (p:Int))).drew w.heap.size 112 cU):=c2.out.bO _ _ (by simp);have d3:Hid (cD (w1.setCell ⟨w.heap.size+1,1,aB⟩ (aC aD (p:Int))).drew (w.heap.size+1) 112 (bG k p (aJ aB 0 0) [] [] [])):=c3.out.dL 1 _;have d4:Hid (w.heap.size+2<=(w1.setCell ⟨w.heap.size+1,1,aB⟩ (aC aD (p:Int))).drew.heap.size):=by show _<=(w1.setCell _ _).heap.size;rw[size_setCell];exact c4.out
 clear c1 c2 c3 c4 e1 f1 e0 v0 v1 v2 v3 hx0 ot hx2 hd P ZU kv rf;generalize(w1.setCell ⟨w.heap.size+1,1,aB⟩ (aC aD (p:Int))).drew=w2 at*;have wb:Hid (s.extract 3 s.size=⟨(L.drop 3).toArray⟩):=by show _=_;rw[<-HL.out];apply zDs;apply zCk.1;simp;rw[zBv (by simp)]
 rw[wb.out];have ky:((⟨(L.drop 3).toArray⟩:ByteArray)).size=s.size-3:=by show(L.drop 3).length=_;rw[zCh,u.out]
 generalize ym:(⟨(L.drop 3).toArray⟩:ByteArray)=t0 at*;have zo:Hid (t0=⟨(L.drop 3).toArray⟩):=ym.symm;clear ym wb;have tx:Hid (t0.size=s.size-3):=ky;clear ky;have e1:w2.cell? ⟨w.heap.size+1,1,aB⟩=aA (aC aD (p:Int)):=by rw[d3.out.cell];rfl
 by_cases qn:2<p
 .have f:Hid (bR l I L=2):=dO E.out (oT (aH (aG (by rw[z.out];exact qn))));go_wp2;go_step3;show 0=0/\Jump l I L w _ _;exact⟨rfl,rfl,rfl,rfl,by rw[f.out];rfl,by rw[f.out];decide,d1.out,d2.out⟩
 by_cases so:256<d
 .have f:Hid (bR l I L=2):=dO E.out (oT (aH (aH (aG (by rw[J.out];exact so)))));go_wp2;go_step3;show 0=0/\Jump l I L w _ _;exact⟨rfl,rfl,rfl,rfl,by rw[f.out];rfl,by rw[f.out];decide,d1.out,d2.out⟩
 have qf:Hid ((d+7)/8=n):=by show _=_;omega
 go_wp2_with fail;refine(tL d w2 (by omega)).mono ?_;rw[qf.out];rintro e w3 ⟨rfl,wu⟩;obtain rfl:w2=w3:=wu.symm;clear wu;by_cases hsn:t0.size<n
 .have f:Hid (bR l I L=2):=dO E.out (oT (aH (aH (aH (by rw[G.out,u.out];have:=tx.out;omega)))));go_wp2;go_step3;show 0=0/\Jump l I L w _ _;exact⟨rfl,rfl,rfl,rfl,by rw[f.out];rfl,by rw[f.out];decide,d1.out,d2.out⟩
 have Xz:Hid (3+n<=s.size):=by show _<=_;have:=tx.out;omega
 have HB:Hid (∀W:zW,Calls zq 80 #[aC aD d] W λe U=>e=aL (aC aD (n:Int))/\U=W):=λW=>by have:=tL d W (by omega);rw[qf.out]at this;exact this
 have i1:(0:Int)<=(n:Int):=zDz _;have i2:(n:Int)<=(t0.size:Int):=by omega
 go_wp2;go_quiet ((exact zGq (HB.out _)));have g1:Hid (zb w (w2.drewN nq)):=below_drewN d1.out nq;have g2:Hid (cD (w2.drewN nq) w.heap.size 112 cU):=d2.out.drewN nq;have g3:Hid (cD (w2.drewN nq) (w.heap.size+1) 112 (bG k p (aJ aB 0 0) [] [] [])):=d3.out.drewN nq;have g4:Hid (w.heap.size+2<=(w2.drewN nq).heap.size):=d4.out;clear d1 d2 d3 d4 e1 HB;generalize w2.drewN nq=w3 at*;have Da:Hid (t0.extract 0 n=⟨(marksOf L).toArray⟩):=by show _=_;rw[zo.out,marksOf,G.out];apply zDs;apply zCk.1;simp
 have xa:Hid (t0.extract n t0.size=⟨(L.drop (3+n)).toArray⟩):=by show _=_;have h1:=tx.out;rw[zo.out];apply zDs;apply zCk.1;simp[aFr];rw[zBv (by simp;omega)]
 rw[Da.out,xa.out];have ko:((⟨(marksOf L).toArray⟩:ByteArray)).size=n:=by show(marksOf L).length=n;rw[marksOf,G.out,zBj,zCh,u.out];have:=Xz.out;omega
 generalize hM:(⟨(marksOf L).toArray⟩:ByteArray)=M at*;have HM:Hid (M.data.toList=marksOf L):=by show _=_;rw[<-hM]
 clear hM Da xa;go_wp2_with fail;refine(ZA M d w3 (by omega)).mono ?_;rw[HM.out];rintro e w4 ⟨wj,b,rfl,Zy,ye⟩;obtain rfl:w3=w4:=wj.symm;clear wj;have zm:Hid (b=aE->∃i,d<=i/\i<8*M.size/\bZ (marksOf L) i=1):=Zy;have zn:Hid (b=aF->∀i,d<=i->i<8*M.size->bZ (marksOf L) i=0):=ye;clear Zy ye;cases b with
 |true=>
  have f:Hid (bR l I L=2):=by obtain⟨i,q1,q2,q3⟩:=zm.out rfl;exact dO E.out (SX i (by rw[J.out];exact q1) (by rw[G.out,<-ko];exact q2) q3)
  go_wp2;go_step3;show 0=0/\Jump l I L w _ _;exact⟨rfl,rfl,rfl,rfl,by rw[f.out];rfl,by rw[f.out];decide,g1.out,g2.out⟩
 |false=>
 have HC:Hid (PN L (8*n)):=λi q1 q2=>zn.out rfl i (by rw[J.out]at q1;exact q1) (by rw[ko];exact q2);clear zm zn;go_wp2;go_loopg [2,64] d (λq x i wr=>∃(j at_:Nat)(S:zLL)(v:zY),j+q=d/\i=aC aD (j:Int)/\x=aK ⟨(L.drop at_).toArray⟩/\eC k L j=aA (S,at_)/\zb w wr/\cD wr w.heap.size 112 cU/\cD wr (w.heap.size+1) 112 (bG k p v [] [] [])/\Own wr (w.heap.size+2) 9 v j (S.map λx=>aK ⟨x.toArray⟩)/\w.heap.size+2<=wr.heap.size);case atStart=>exact⟨0,3+n,[],aJ aB 0 0,by omega,rfl,rfl,by rw[eC,G.out],g1.out,g2.out,g3.out,Own.nil _ _ _,g4.out⟩
 case round=>
  obtain⟨j,at_,S,v,hj,rfl,rfl,c0,c1,c2,c3,c4,c5⟩:=hrel
  have C0:Hid (eC k L j=aA (S,at_)):=c0
  have Q:Hid (zb w wr):=c1
  have X:Hid (cD wr w.heap.size 112 cU):=c2
  have C:Hid (cD wr (w.heap.size+1) 112 (bG k p v [] [] [])):=c3
  have C4:Hid (Own wr (w.heap.size+2) 9 v j (S.map λx=>aK ⟨x.toArray⟩)):=c4
  have C5:Hid (w.heap.size+2<=wr.heap.size):=c5
  clear c0 c1 c2 c3 c4 c5 g1 g2 g3 g4
  obtain⟨q1,q2,q3⟩:=Cg (by rw[G.out,u.out];exact Xz.out) C0.out
  rw[u.out]at q2
  have yj:Hid (((⟨(L.drop at_).toArray⟩:ByteArray)).size=s.size-at_):=by show(L.drop at_).length=_;rw[zCh,u.out]
  generalize yl:(⟨(L.drop at_).toArray⟩:ByteArray)=T at*
  have O:Hid (T=⟨(L.drop at_).toArray⟩):=yl.symm
  clear yl
  by_cases bW:j<d
  .go_wp2_with fail;refine(kS M j wr (by rw[ko];omega) (by rw[ko];omega) (by omega)).mono ?_;rw[HM.out];rintro e w5 ⟨rfl,wh⟩;obtain rfl:wr=w5:=wh.symm;clear wh;have rh:=jQ (marksOf L) j;generalize kx:bZ (marksOf L) j=b at*;have ll:Hid (bZ (marksOf L) j=b):=kx;clear kx;obtain rfl|rfl:=rh
   .have hbq:decide ((0:Nat)=1)=aF:=by{decide};have e0:wr.cell? ⟨w.heap.size+1,2,aB⟩=aA v:=by{rw[C.out.cell];rfl};have Rg:aA (w.heap.size+1)≠v.ownBlock:=uB C4.out _ (by omega);have Vf:j+1<=1000000:=by{omega};go_wp2_with (at_builtin;refine pE rfl _ _ rfl (w.heap.size+2) _ _ _ rfl C4.out [_] 1 rfl (by simp) (by simp[Value.oneCell']) Vf C5.out ?_;intro v' U r B;obtain⟨g',cap',rfl⟩:=r.form (by simp);have p3:Hid (cD U (w.heap.size+1) 112 (bG k p v [] [] [])):=C.out.grown B Rg;have e1:U.cell? ⟨w.heap.size+1,2,aB⟩=aA v:=(p3.out.cell 2).trans rfl;have e2:U.frozen? ⟨w.heap.size+1,2,aB⟩=aF:=p3.out.frozen 2);go_roundg (d-(j+1));case measure=>omega
    case rel=>
     go_light
     refine⟨j+1,at_,S++[dg k [0]],_,by omega,by go_num,by rw[O.out],XY C0.out ll.out,(pB Q.out C4.out B (by omega) Q.out.size).setCell (by simp) _,(X.out.grown B (uB C4.out _ (by omega))).bO _ _ (by simp),p3.out.dL 2 _,?_,by rw[size_setCell];exact zAw C5.out B.size⟩
     have Y:=r.kept (w':=U.setCell ⟨w.heap.size+1,2,aB⟩ (aJ (aA ⟨g',0,aB⟩) (j+1) cap')) λg hg=>zGh _ _ _ _ (by have:=(r.lt g hg).1;simp only;omega)
     rw[zDi]
     rw[HD.out]
     exact Y
   .have hbq:decide ((1:Nat)=1)=aE:=by{decide};have ek:wr.cell? ⟨w.heap.size+1,0,aB⟩=aA (aC aD (k:Int)):=by{rw[C.out.cell];rfl};by_cases aBM:T.size<k
    .have f:Hid (bR l I L=2):=dO E.out (by
      rw[m.out];have:=KU (KV C0.out ll.out (by rw[u.out];have:=yj.out;omega)) (d-(j+1));rw[show j+1+(d-(j+1))=d from by omega]at this;exact FP (by rw[J.out];exact this))
     go_wp2;go_step3;show 0=0/\Jump l I L w _ _;exact⟨rfl,rfl,rfl,rfl,by rw[f.out];rfl,by rw[f.out];decide,Q.out,X.out⟩
    .have oq:Hid (T.extract 0 k=⟨((L.drop at_).take k).toArray⟩):=by
      show _=_;rw[O.out];apply zDs;apply zCk.1;simp
     have hxd:Hid (T.extract k T.size=⟨(L.drop (at_+k)).toArray⟩):=by show _=_;rw[O.out];apply zDs;apply zCk.1;simp[aFr];rw[zBv (by simp;omega)]
     have i1:(0:Int)<=(k:Int):=zDz _;have i2:(k:Int)<=(T.size:Int):=by{omega};by_cases c:T.extract 0 k=⟨D.toArray⟩
     .have f:Hid (bR l I L=2):=dO E.out (by
       rw[m.out];have hl:(L.drop at_).take k=dg k [0]:=by have:=congrArg (λb=>b.data.toList) (oq.out.symm.trans c);rw[HD.out];simpa using this
       have:=KU (KV C0.out ll.out (by rw[hl];simp)) (d-(j+1));rw[show j+1+(d-(j+1))=d from by omega]at this;exact FP (by rw[J.out];exact this))
      have hse:((T.extract 0 k).toList==D)=aE:=by{rw[c,ByteArray.toList_mk];simp};clear c;go_wp2;go_step3;show 0=0/\Jump l I L w _ _;exact⟨rfl,rfl,rfl,rfl,by rw[f.out];rfl,by rw[f.out];decide,Q.out,X.out⟩
     .have hl:Hid ((L.drop at_).take k≠dg k [0]):=λh=>c (by rw[oq.out,h,HD.out]);have hse:((T.extract 0 k).toList==D)=aF:=Hd c;clear c;go_wp2;go_quiet (fail);have E1:Hid (zb w (wr.drewN nq)):=below_drewN Q.out nq;have E2:Hid (cD (wr.drewN nq) w.heap.size 112 cU):=X.out.drewN nq;have E3:Hid (cD (wr.drewN nq) (w.heap.size+1) 112 (bG k p v [] [] [])):=C.out.drewN nq;have E4:Hid (Own (wr.drewN nq) (w.heap.size+2) 9 v j (S.map λx=>aK ⟨x.toArray⟩)):=C4.out.kept λ_ _=>rfl;have E5:Hid (w.heap.size+2<=(wr.drewN nq).heap.size):=C5.out;clear Q X C C4 C5 ek;generalize wr.drewN nq=w6 at*;have e0:w6.cell? ⟨w.heap.size+1,2,aB⟩=aA v:=by{rw[E3.out.cell];rfl};have Rg:aA (w.heap.size+1)≠v.ownBlock:=uB E4.out _ (by omega);have Vf:j+1<=1000000:=by{omega};go_wp2_with (at_builtin;refine pE rfl _ _ rfl (w.heap.size+2) _ _ _ rfl E4.out [_] 1 rfl (by simp) (by simp[Value.oneCell']) Vf E5.out ?_;intro v' U r B;obtain⟨g',cap',rfl⟩:=r.form (by simp);have p3:Hid (cD U (w.heap.size+1) 112 (bG k p v [] [] [])):=E3.out.grown B Rg;have e1:U.cell? ⟨w.heap.size+1,2,aB⟩=aA v:=(p3.out.cell 2).trans rfl;have e2:U.frozen? ⟨w.heap.size+1,2,aB⟩=aF:=p3.out.frozen 2);go_roundg (d-(j+1));case measure=>omega
      case rel=>
       go_light
       refine⟨j+1,at_+k,S++[(L.drop at_).take k],_,by omega,by go_num,by rw[hxd.out],XX C0.out ll.out (by rw[u.out];have:=yj.out;omega) hl.out,(pB E1.out E4.out B (by omega) E1.out.size).setCell (by simp) _,(E2.out.grown B (uB E4.out _ (by omega))).bO _ _ (by simp),p3.out.dL 2 _,?_,by rw[size_setCell];exact zAw E5.out B.size⟩
       have Y:=r.kept (w':=U.setCell ⟨w.heap.size+1,2,aB⟩ (aJ (aA ⟨g',0,aB⟩) (j+1) cap')) λg hg=>zGh _ _ _ _ (by have:=(r.lt g hg).1;simp only;omega)
       rw[zDi]
       simp only[oq.out]at Y
       exact Y
  .obtain rfl:j=d:=by{omega};have hP:Hid (parse k I L=qF k I L S (L.drop at_)):=BY (by rw[u.out];exact h3') (by rw[z.out];omega) (by rw[J.out];omega) (by rw[G.out,u.out];exact Xz.out) (by rw[G.out];exact HC.out) (by rw[J.out];exact C0.out);have V:Hid ((L.drop at_).length=T.size):=by{show _=_;rw[O.out];rfl};have ae:Hid (T.toList=L.drop at_):=by{show _=_;rw[O.out,ByteArray.toList_mk]};generalize hR:L.drop at_=R at*;clear hR C0;have e1:wr.cell? ⟨w.heap.size+1,1,aB⟩=aA (aC aD (p:Int)):=by{rw[C.out.cell];rfl};have ek:wr.cell? ⟨w.heap.size+1,0,aB⟩=aA (aC aD (k:Int)):=by{rw[C.out.cell];rfl};obtain Ve|qo|ej:p=0\/p=1\/p=2:=by omega
   .subst Ve;by_cases A:R=[]
    .have HP:Hid (parse k I L=aA ⟨0,S,[],[],[]⟩):=by{show _=_;rw[hP.out,qF,z.out,zAq rfl,zAq A]};have px:T.toList.isEmpty=aE:=by{rw[ae.out,A];rfl};clear A;have iz:Hid (PW.Ok k ⟨0,S,[],[],[]⟩):=xG F HP.out;have N:Hid (fF wr):=HT.out.below Q.out (zAb _);have t:Hid (Own wr (w.heap.size+2) 9 v S.length (S.map λx=>aK ⟨x.toArray⟩)):=by rw[q1];exact C4.out
     go_wp2_with (first
      |refine zGm rfl 112 _ rfl (w.heap.size+1) rfl _ _ _ _ C.out ((Qz.eO 112).trans underlying112) rfl (by kernel_rfl) ?_)
     refine(AD k idx ⟨0,S,[],[],[]⟩ v (w.heap.size+2) wr No F hi iz.out N.out t.out).mono ?_;rw[HI.out];rintro e Z ⟨rfl,o⟩;have F1:=bE Q.out o Q.out.size;have F2:Hid (cD Z w.heap.size 112 cU):=X.out.below o X.out.lt;have F3:Hid (cD Z (w.heap.size+1) 112 (bG k 0 v [] [] [])):=C.out.below o C.out.lt;have F4:Hid (Own Z (w.heap.size+2) 9 v S.length (S.map λx=>aK ⟨x.toArray⟩)):=t.out.below o (zAb _);clear o t N;have y:Hid (parse l.length I L=aA ⟨0,S,[],[],[]⟩):=by{show _=_;rw[m.out];exact HP.out};have H:Hid (PW.root l.length I ⟨0,S,[],[],[]⟩=PW.root k I ⟨0,S,[],[],[]⟩):=by{show _=_;rw[m.out]};by_cases a:PW.root k I ⟨0,S,[],[],[]⟩=l
     .have f:Hid (bR l I L=0):=vP E.out y.out (H.out.trans a);have Y:(PW.root k I ⟨0,S,[],[],[]⟩==root.toList)=aE:=by rw[zCo,zGo,HR.out];exact a
      have iw:Hid (PW.root k I ⟨0,S,[],[],[]⟩=l):=a;clear a;go_wp2_with (first
       |refine zGm rfl 112 _ rfl (w.heap.size+1) rfl _ _ _ _ F3.out ((Qz.eO 112).trans underlying112) rfl (by kernel_rfl) ?_
       |refine zGk rfl 112 _ _ rfl w.heap.size (bG _ _ _ _ _ _) rfl rfl _ _ F2.out (by kernel_rfl) rfl (OG F4.out) ?_)
      change bodyPost zq f55 _ Exit.ret _ _;refine zGs (eW results55 _ _ w.heap.size _ _ _ _ rfl (F2.out.dV _) ((Qz.eO 112).trans underlying112) rfl (by kernel_rfl) _ rfl) rfl ?_;exact⟨cA F1.out (zAb _) _,aH ⟨⟨0,S,[],[],[]⟩,v,f.out,y.out,H.out.trans iw.out,by rw[m.out];rfl,(F4.out.setRow _ _ (by omega)).lower (by omega)⟩⟩
     .have f:Hid (bR l I L=3):=qV E.out y.out (λh=>a (H.out.symm.trans h));have Y:(PW.root k I ⟨0,S,[],[],[]⟩==root.toList)=aF:=by{rw[zBw,zGo,HR.out];exact a};clear a;go_wp2;go_step3;show 0=0/\Jump l I L w _ _;exact⟨rfl,rfl,rfl,rfl,by rw[f.out];rfl,by rw[f.out];decide,F1.out,F2.out⟩
    .have f:Hid (bR l I L=2):=dO E.out (by rw[m.out,hP.out,qF,z.out,zAq rfl,zAn A]);have px:T.toList.isEmpty=aF:=by{rw[ae.out];cases hR2:R with|nil=>exact absurd hR2 A|cons _ _=>rfl};clear A;go_wp2;go_step3;show 0=0/\Jump l I L w _ _;exact⟨rfl,rfl,rfl,rfl,by rw[f.out];rfl,by rw[f.out];decide,Q.out,X.out⟩
   .subst qo;by_cases aCQ:100<T.size
    .have f:Hid (bR l I L=2):=dO E.out (by rw[m.out,hP.out,qF,z.out,zAn (by decide),zAq rfl,zAn (by rw[V.out];omega)]);go_wp2;go_step3;show 0=0/\Jump l I L w _ _;exact⟨rfl,rfl,rfl,rfl,by rw[f.out];rfl,by rw[f.out];decide,Q.out,X.out⟩
    .have HP:Hid (parse k I L=aA ⟨1,S,R,[],[]⟩):=by{show _=_;rw[hP.out,qF,z.out,zAn (by decide),zAq rfl,zAq (by rw[V.out];omega)]};have e2:wr.cell? ⟨w.heap.size+1,3,aB⟩=aA (aK ⟨#[]⟩):=by rw[C.out.cell];rfl
     have f2:wr.frozen? ⟨w.heap.size+1,3,aB⟩=aF:=C.out.frozen 3;have D3:Hid (cD (wr.setCell ⟨w.heap.size+1,3,aB⟩ (aK T)) (w.heap.size+1) 112 (bG k 1 v R [] [])):=by have:=C.out.dL 3 (aK T);rw[O.out]at this⊢;exact this
     have D2:Hid (cD (wr.setCell ⟨w.heap.size+1,3,aB⟩ (aK T)) w.heap.size 112 cU):=X.out.bO _ _ (by simp);have D4:Hid (Own (wr.setCell ⟨w.heap.size+1,3,aB⟩ (aK T)) (w.heap.size+2) 9 v j (S.map λx=>aK ⟨x.toArray⟩)):=C4.out.kept λg hg=>zGh _ _ _ _ (by have:=(C4.out.lt g hg).1;simp only;omega);have D1:Hid (zb w (wr.setCell ⟨w.heap.size+1,3,aB⟩ (aK T))):=Q.out.setCell (by simp) _;have iz:Hid (PW.Ok k ⟨1,S,R,[],[]⟩):=xG F HP.out;have N:Hid (fF (wr.setCell ⟨w.heap.size+1,3,aB⟩ (aK T))):=HT.out.below D1.out (zAb _);have t:Hid (Own (wr.setCell ⟨w.heap.size+1,3,aB⟩ (aK T)) (w.heap.size+2) 9 v S.length (S.map λx=>aK ⟨x.toArray⟩)):=by rw[q1];exact D4.out
     go_wp2_with (first
      |refine zGm rfl 112 _ rfl (w.heap.size+1) rfl _ _ _ _ D3.out ((Qz.eO 112).trans underlying112) rfl (by kernel_rfl) ?_)
     refine(AD k idx ⟨1,S,R,[],[]⟩ v (w.heap.size+2) (wr.setCell ⟨w.heap.size+1,3,aB⟩ (aK T)) No F hi iz.out N.out t.out).mono ?_;rw[HI.out];rintro e Z ⟨rfl,o⟩;have F1:=bE D1.out o D1.out.size;have F2:Hid (cD Z w.heap.size 112 cU):=D2.out.below o D2.out.lt;have F3:Hid (cD Z (w.heap.size+1) 112 (bG k 1 v R [] [])):=D3.out.below o D3.out.lt;have F4:Hid (Own Z (w.heap.size+2) 9 v S.length (S.map λx=>aK ⟨x.toArray⟩)):=t.out.below o (zAb _);clear o t N;have y:Hid (parse l.length I L=aA ⟨1,S,R,[],[]⟩):=by{show _=_;rw[m.out];exact HP.out};have H:Hid (PW.root l.length I ⟨1,S,R,[],[]⟩=PW.root k I ⟨1,S,R,[],[]⟩):=by{show _=_;rw[m.out]};by_cases a:PW.root k I ⟨1,S,R,[],[]⟩=l
     .have f:Hid (bR l I L=0):=vP E.out y.out (H.out.trans a);have Y:(PW.root k I ⟨1,S,R,[],[]⟩==root.toList)=aE:=by rw[zCo,zGo,HR.out];exact a
      have iw:Hid (PW.root k I ⟨1,S,R,[],[]⟩=l):=a;clear a;go_wp2_with (first
       |refine zGm rfl 112 _ rfl (w.heap.size+1) rfl _ _ _ _ F3.out ((Qz.eO 112).trans underlying112) rfl (by kernel_rfl) ?_
       |refine zGk rfl 112 _ _ rfl w.heap.size (bG _ _ _ _ _ _) rfl rfl _ _ F2.out (by kernel_rfl) rfl (OG F4.out) ?_)
      change bodyPost zq f55 _ Exit.ret _ _;refine zGs (eW results55 _ _ w.heap.size _ _ _ _ rfl (F2.out.dV _) ((Qz.eO 112).trans underlying112) rfl (by kernel_rfl) _ rfl) rfl ?_;exact⟨cA F1.out (zAb _) _,aH ⟨⟨1,S,R,[],[]⟩,v,f.out,y.out,H.out.trans iw.out,by rw[m.out];rfl,(F4.out.setRow _ _ (by omega)).lower (by omega)⟩⟩
     .have f:Hid (bR l I L=3):=qV E.out y.out (λh=>a (H.out.symm.trans h));have Y:(PW.root k I ⟨1,S,R,[],[]⟩==root.toList)=aF:=by{rw[zBw,zGo,HR.out];exact a};clear a;go_wp2;go_step3;show 0=0/\Jump l I L w _ _;exact⟨rfl,rfl,rfl,rfl,by rw[f.out];rfl,by rw[f.out];decide,F1.out,F2.out⟩
   .subst ej;by_cases hlen:T.size=32+k
    .have hO:Hid (T.extract 0 32=⟨(R.take 32).toArray⟩):=by
      show _=_;rw[O.out];apply zDs;apply zCk.1;simp
     have ze:Hid (T.extract 32 (32+k)=⟨(R.drop 32).toArray⟩):=by show _=_;have:=V.out;rw[O.out];apply zDs;apply zCk.1;simp;rw[zBv (by simp;omega)]
     have Nu:(T.extract 0 32).size=32:=by{rw[hO.out];show(R.take 32).length=32;rw[zBj,V.out];omega};have e3:wr.cell? ⟨w.heap.size+1,4,aB⟩=aA (aK ⟨#[]⟩):=by{rw[C.out.cell];rfl};have f3:wr.frozen? ⟨w.heap.size+1,4,aB⟩=aF:=C.out.frozen 4;have e4:wr.cell? ⟨w.heap.size+1,5,aB⟩=aA (aK ⟨#[]⟩):=by rw[C.out.cell];rfl
     have f4:wr.frozen? ⟨w.heap.size+1,5,aB⟩=aF:=C.out.frozen 5;have lq:Hid (cD (wr.setCell ⟨w.heap.size+1,4,aB⟩ (aK (T.extract 0 32))) (w.heap.size+1) 112 (bG k 2 v [] (R.take 32) [])):=by have:=C.out.dL 4 (aK (T.extract 0 32));rw[hO.out]at this⊢;exact this
     have e5:(wr.setCell ⟨w.heap.size+1,4,aB⟩ (aK (T.extract 0 32))).cell? ⟨w.heap.size+1,5,aB⟩=aA (aK ⟨#[]⟩):=by{rw[lq.out.cell];rfl};have f5:(wr.setCell ⟨w.heap.size+1,4,aB⟩ (aK (T.extract 0 32))).frozen? ⟨w.heap.size+1,5,aB⟩=aF:=lq.out.frozen 5;have i1:(32:Int)<=(T.size:Int):=by{omega};have i2:(32:Int)<=32+(k:Int):=by omega
     go_wp2;go_region_law ((fail));have D4:Hid (Own ((wr.setCell ⟨w.heap.size+1,4,aB⟩ (aK (T.extract 0 32))).setCell ⟨w.heap.size+1,5,aB⟩ (aK (T.extract 32 (32+k)))).drew (w.heap.size+2) 9 v j (S.map λx=>aK ⟨x.toArray⟩)):=
      (C4.out.kept λg hg=>zGh _ _ _ _ (by have:=(C4.out.lt g hg).1;simp only;omega)).kept λg hg=>zGh _ _ _ _ (by have:=(C4.out.lt g hg).1;simp only;omega)
     have D3:Hid (cD ((wr.setCell ⟨w.heap.size+1,4,aB⟩ (aK (T.extract 0 32))).setCell ⟨w.heap.size+1,5,aB⟩ (aK (T.extract 32 (32+k)))).drew (w.heap.size+1) 112 (bG k 2 v [] (R.take 32) (R.drop 32))):=by have:=lq.out.dL 5 (aK (T.extract 32 (32+k)));rw[ze.out]at this⊢;exact this
     have D2:Hid (cD ((wr.setCell ⟨w.heap.size+1,4,aB⟩ (aK (T.extract 0 32))).setCell ⟨w.heap.size+1,5,aB⟩ (aK (T.extract 32 (32+k)))).drew w.heap.size 112 cU):=(X.out.bO _ _ (by simp)).bO _ _ (by simp);have D1:Hid (zb w ((wr.setCell ⟨w.heap.size+1,4,aB⟩ (aK (T.extract 0 32))).setCell ⟨w.heap.size+1,5,aB⟩ (aK (T.extract 32 (32+k)))).drew):=((Q.out.setCell (by simp) _).setCell (by simp) _).drew;clear Q X C C4 C5 e3 f3 e4 f4 e5 f5 e1 ek lq ze;generalize((wr.setCell ⟨w.heap.size+1,4,aB⟩ (aK (T.extract 0 32))).setCell ⟨w.heap.size+1,5,aB⟩ (aK (T.extract 32 (32+k)))).drew=w7 at*;obtain⟨ob,dy⟩:∃ob:ByteArray,Hid (ob=⟨(R.take 32).toArray⟩):=⟨_,rfl⟩;have e6:w7.cell? ⟨w.heap.size+1,4,aB⟩=aA (aK ob):=by{rw[D3.out.cell,dy.out];rfl};have qe:ob.size=32:=by{rw[dy.out,<-hO.out];exact Nu};have tl:Hid (R.length=32+k):=V.out.trans hlen;clear Nu hO;by_cases c:R.take 32=I;{have f:Hid (bR l I L=2):=dO E.out (by rw[m.out,hP.out,qF,z.out,zAn (by decide),zAn (by decide),zAn (λh=>h.2.1 c)]);have Y:(ob.toList==idx.toList)=aE:=by{rw[zCo,zGo,zGo,HI.out,dy.out];exact c};clear c;go_wp2;go_step3;show 0=0/\Jump l I L w _ _;exact⟨rfl,rfl,rfl,rfl,by rw[f.out];rfl,by rw[f.out];decide,D1.out,D2.out⟩}
     .have Y:(ob.toList==idx.toList)=aF:=by rw[zBw,zGo,zGo,HI.out,dy.out];exact c
      have Hne:Hid (R.take 32≠I):=c;clear c;go_wp2_with fail;refine(JN ob idx j w7 qe hi (by omega)).mono ?_;rw[HI.out];rintro e w9 ⟨we,b,rfl,hb⟩;obtain rfl:w7=w9:=we.symm;clear we;have Hb:Hid (b=aE↔sameBits I (R.take 32) (dP L)):=by show _↔_;rw[hb,J.out,dy.out];exact⟨λh i hi=>(h i hi).symm,λh i hi=>(h i hi).symm⟩
      clear hb;cases b with
      |true=>
       have HP:Hid (parse k I L=aA ⟨2,S,[],R.take 32,R.drop 32⟩):=by show _=_;rw[hP.out,qF,z.out,zAn (by decide),zAn (by decide),zAq ⟨tl.out,Hne.out,by rw[SK];exact Hb.out.1 rfl⟩]
       have iz:Hid (PW.Ok k ⟨2,S,[],(R.take 32),(R.drop 32)⟩):=xG F HP.out;have N:Hid (fF w7):=HT.out.below D1.out (zAb _);have t:Hid (Own w7 (w.heap.size+2) 9 v S.length (S.map λx=>aK ⟨x.toArray⟩)):=by rw[q1];exact D4.out
       go_wp2_with (first
        |refine zGm rfl 112 _ rfl (w.heap.size+1) rfl _ _ _ _ D3.out ((Qz.eO 112).trans underlying112) rfl (by kernel_rfl) ?_)
       refine(AD k idx ⟨2,S,[],(R.take 32),(R.drop 32)⟩ v (w.heap.size+2) w7 No F hi iz.out N.out t.out).mono ?_;rw[HI.out];rintro e Z ⟨rfl,o⟩;have F1:=bE D1.out o D1.out.size;have F2:Hid (cD Z w.heap.size 112 cU):=D2.out.below o D2.out.lt;have F3:Hid (cD Z (w.heap.size+1) 112 (bG k 2 v [] (R.take 32) (R.drop 32))):=D3.out.below o D3.out.lt;have F4:Hid (Own Z (w.heap.size+2) 9 v S.length (S.map λx=>aK ⟨x.toArray⟩)):=t.out.below o (zAb _);clear o t N;have y:Hid (parse l.length I L=aA ⟨2,S,[],(R.take 32),(R.drop 32)⟩):=by{show _=_;rw[m.out];exact HP.out};have H:Hid (PW.root l.length I ⟨2,S,[],(R.take 32),(R.drop 32)⟩=PW.root k I ⟨2,S,[],(R.take 32),(R.drop 32)⟩):=by{show _=_;rw[m.out]};by_cases a:PW.root k I ⟨2,S,[],(R.take 32),(R.drop 32)⟩=l
       .have f:Hid (bR l I L=0):=vP E.out y.out (H.out.trans a);have Y:(PW.root k I ⟨2,S,[],(R.take 32),(R.drop 32)⟩==root.toList)=aE:=by rw[zCo,zGo,HR.out];exact a
        have iw:Hid (PW.root k I ⟨2,S,[],(R.take 32),(R.drop 32)⟩=l):=a;clear a;go_wp2_with (first
         |refine zGm rfl 112 _ rfl (w.heap.size+1) rfl _ _ _ _ F3.out ((Qz.eO 112).trans underlying112) rfl (by kernel_rfl) ?_
         |refine zGk rfl 112 _ _ rfl w.heap.size (bG _ _ _ _ _ _) rfl rfl _ _ F2.out (by kernel_rfl) rfl (OG F4.out) ?_)
        change bodyPost zq f55 _ Exit.ret _ _;refine zGs (eW results55 _ _ w.heap.size _ _ _ _ rfl (F2.out.dV _) ((Qz.eO 112).trans underlying112) rfl (by kernel_rfl) _ rfl) rfl ?_;exact⟨cA F1.out (zAb _) _,aH ⟨⟨2,S,[],(R.take 32),(R.drop 32)⟩,v,f.out,y.out,H.out.trans iw.out,by rw[m.out];rfl,(F4.out.setRow _ _ (by omega)).lower (by omega)⟩⟩
       .have f:Hid (bR l I L=3):=qV E.out y.out (λh=>a (H.out.symm.trans h));have Y:(PW.root k I ⟨2,S,[],(R.take 32),(R.drop 32)⟩==root.toList)=aF:=by{rw[zBw,zGo,HR.out];exact a};clear a;go_wp2;go_step3;show 0=0/\Jump l I L w _ _;exact⟨rfl,rfl,rfl,rfl,by rw[f.out];rfl,by rw[f.out];decide,F1.out,F2.out⟩
      |false=>
       have f:Hid (bR l I L=2):=dO E.out (by rw[m.out,hP.out,qF,z.out,zAn (by decide),zAn (by decide),zAn];rw[SK];intro h;have:=Hb.out.2 h.2.2;cases this)
       go_wp2;go_step3;show 0=0/\Jump l I L w _ _;exact⟨rfl,rfl,rfl,rfl,by rw[f.out];rfl,by rw[f.out];decide,D1.out,D2.out⟩
    .have f:Hid (bR l I L=2):=dO E.out (by rw[m.out,hP.out,qF,z.out,zAn (by decide),zAn (by decide),zAn (by rw[V.out];exactλh=>hlen h.1)]);have hq1:((T.size:Int)!=32+(k:Int))=aE:=by{rw[bne_iff_ne];omega};go_wp2;go_step3;show 0=0/\Jump l I L w _ _;exact⟨rfl,rfl,rfl,rfl,by rw[f.out];rfl,by rw[f.out];decide,Q.out,X.out⟩
end Go.Proofs.Zq
