import Derived.Test.YtghpcgagijhlaaaGreatDoorRows
import Derived.Deep.RegionWith
import Derived.WalkSpells
import Derived.WalkLawsBesides
import Derived.Lib.ConvBytes
import Derived.Deep.MidRow
import Derived.Shelf.Strings.Repeat
import Derived.Test.YtghpcgagijhlaaaGreatDoorProg
import Derived.Deep.CutRange
import Derived.Deep.RegionHeld3
import Derived.Deep.DrawnRows
import Derived.Deep.AppendLies
import Derived.Deep.RegionLaw
import Derived.WalkMore
import Derived.ScopeJumps
import Derived.Test.YtghpcgagijhlaaaGreatDoorL05
set_option linter.all false
set_option maxRecDepth 100000
set_option maxHeartbeats 16000000
open Option renaming some->aA,none->aB
open Bool renaming true->aF,false->aG
open Go.Ending renaming returned->aM
open Go.Obj renaming cells->aJ
open Go.IntKind renaming i64->aD,u32->aP,u64->aR,u8->aQ
open Go.Value renaming slice->aK,string->aL,pointer->aO,int->aC
open BitVec renaming toNat_add->aER,ofNat->aEG
open ByteArray renaming push->aES,data_extract->aET,size_data->aEU,size->aEV,size_append->aEW,extract->aEX
open Go.Calls renaming regrown_of->aEY
open Go.Ending renaming returned->aEZ
open Go.Lib renaming bytesWorld->aE0,bytesWorld_size->aE1,bytesWorld_at_old->aE2,repeatL->aE3
open UInt8 renaming ofNat->aE4
open Go.Proofs.Tryz
namespace Go.Proofs.Zq
open Go.RowKit Sha
def NH {k a b}(h:a=b):aEZ (.int k a)=aM (.int k b):=by rw[h]
def Sq (n:Nat)(h:1<=n)(a:n<=31):bits .and aR (IntKind.u64.wrap (-(n))) 31=((32-n:Nat):Int):=by
 have:∀n:Fin 32,1<=n.val->bits .and aR (IntKind.u64.wrap (-(n.val:Int))) 31=((32-n.val:Nat):Int):=by decide
 exact this ⟨n,by omega⟩ h
def Ru (x:BitVec 32)(n:Nat)(w)(b:1<=n)(h:n<=31):
  Calls zq 130 #[aC aP (V x),aC aD (-(n))] w λe a=>e=aM (aC aP (V (tV x n)))/\a=w:=by
 have c:=Sq n b h;go_enter (Qz.fn func130),ntmps130;go_wp2;go_ret;exact⟨NH (by rw[show 32-(32-n)=n from by omega];exact ij x n),rfl⟩
def Jf (x:BitVec 32)(n:Nat)(w)(b:1<=n)(h:n<=31):
  Calls zq 121 #[aC aP (V x),aC aD n] w λe a=>e=aM (aC aP (V (tV x n)))/\a=w:=by
 go_enter (Qz.fn func121),ntmps121;go_wp2_with (go_at_call 130;refine(Ru x n _ b h).mono ?_;rintro e a ⟨rfl,rfl⟩);go_ret;exact⟨rfl,rfl⟩
def lG (x:BitVec 32)(n:Nat)(m:Int)(w)(h:m=n)(c:1<=n)(b:n<=31):
  Calls zq 121 #[aC aP (V x),aC aD m] w λe a=>e=aM (aC aP (V (tV x n)))/\a=w:=by
 subst h;exact Jf x n w c b
attribute [local go_sem] V_xor V_shr V64_xor
def Zd (x:BitVec 32)(w):
  Calls zq 108 #[aC aP (V x)] w λe a=>e=aM (aC aP (V (S0 x)))/\a=w:=by
 go_enter (Qz.fn func108),ntmps108;go_wp2_with fail;refine(lG x 2 _ _ rfl (by omega) (by omega)).mono ?_;rintro e a ⟨rfl,rfl⟩;go_wp2_with fail;refine(lG x 13 _ _ rfl (by omega) (by omega)).mono ?_;rintro e a ⟨rfl,rfl⟩;go_wp2_with fail;refine(lG x 22 _ _ rfl (by omega) (by omega)).mono ?_;rintro e a ⟨rfl,rfl⟩;go_wp2;go_ret;exact⟨rfl,rfl⟩
def Zc (x:BitVec 32)(w):
  Calls zq 107 #[aC aP (V x)] w λe a=>e=aM (aC aP (V (S1 x)))/\a=w:=by
 go_enter (Qz.fn func107),ntmps107;go_wp2_with fail;refine(lG x 6 _ _ rfl (by omega) (by omega)).mono ?_;rintro e a ⟨rfl,rfl⟩;go_wp2_with fail;refine(lG x 11 _ _ rfl (by omega) (by omega)).mono ?_;rintro e a ⟨rfl,rfl⟩;go_wp2_with fail;refine(lG x 25 _ _ rfl (by omega) (by omega)).mono ?_;rintro e a ⟨rfl,rfl⟩;go_wp2;go_ret;exact⟨rfl,rfl⟩
def Kg (x:BitVec 32)(w):
  Calls zq 110 #[aC aP (V x)] w λe a=>e=aM (aC aP (V (s0 x)))/\a=w:=by
 go_enter (Qz.fn func110),ntmps110;go_wp2_with fail;refine(lG x 7 _ _ rfl (by omega) (by omega)).mono ?_;rintro e a ⟨rfl,rfl⟩;go_wp2_with fail;refine(lG x 18 _ _ rfl (by omega) (by omega)).mono ?_;rintro e a ⟨rfl,rfl⟩;go_wp2;go_ret;exact⟨NH (by rw[Yz,V_xor];rfl),rfl⟩
def Kf (x:BitVec 32)(w):
  Calls zq 109 #[aC aP (V x)] w λe a=>e=aM (aC aP (V (s1 x)))/\a=w:=by
 go_enter (Qz.fn func109),ntmps109;go_wp2_with fail;refine(lG x 17 _ _ rfl (by omega) (by omega)).mono ?_;rintro e a ⟨rfl,rfl⟩;go_wp2_with fail;refine(lG x 19 _ _ rfl (by omega) (by omega)).mono ?_;rintro e a ⟨rfl,rfl⟩;go_wp2;go_ret;exact⟨NH (by rw[Uk,V_xor];rfl),rfl⟩
open Go Go.RowKit
def cL (w:zW)(g:Nat)(t:zD)(cs:zA):Prop:=w.heap[g]? =aA (aJ cs t (0,0))
def cL.cell {w g t cs}(h:cL w g t cs)(i):w.cell? ⟨g,i,aB⟩=cs[i]? :=cell_of_row w g i cs t (0,0) h
def cL.frozen {w g t cs}(h:cL w g t cs)(i):w.frozen? ⟨g,i,aB⟩=aG:=by unfold cL at h;simp[World.frozen?,h]
def cL.lt {w g t cs}(h:cL w g t cs):g<w.heap.size:=(zAa.1 h).1
def cL.drewN {w g t cs}(h:cL w g t cs)(n):cL (w.drewN n) g t cs:=h
def cL.new (w:zW)(t)(cs):cL (w.alloc (aJ cs t)) w.heap.size t cs:=zGu w _
def cL.alloc {w g t cs}(h:cL w g t cs)(o):cL (w.alloc o) g t cs:=by unfold cL;rw[Below.heap_alloc w o g h.lt];exact h
def cL.below {w w' B g t cs}(h:cL w g t cs)(b:Below B w w')(a:g<B):cL w' g t cs:=by unfold cL;rw[b.block g a];exact h
def cL.fM {w g t cs}(h:cL w g t cs)(i)(v):cL (w.setCell ⟨g,i,aB⟩ v) g t (cs.setIfInBounds i v):=by unfold cL at*;simp only[World.setCell,zDt,zCs,h];rfl
def cL.cE {w g t cs}(h:cL w g t cs)(a)(v)(b:g≠a.block):cL (w.setCell a v) g t cs:=by unfold cL;rw[zGr w a v g b];exact h
def oP (w:zW)(g k)(cs)(h:k≠g):(w.setRow g cs).heap[k]? =w.heap[k]? :=by simp only[World.setRow,zDt];rw[zAv (by omega)]
def cL.fN {w g t cs}(h:cL w g t cs)(cs'):cL (w.setRow g cs') g t cs':=setRow_heap w g cs cs' t _ h
def cL.KI {w g b t cs}(h:cL w g t cs)(cs')(a:g≠b):cL (w.setRow b cs') g t cs:=by unfold cL;rw[oP w b g cs' a];exact h
def size_setCell (w:zW)(a)(v):(w.setCell a v).heap.size=w.heap.size:=by simp[World.setCell]
def size_alloc (w:zW)(o):(w.alloc o).heap.size=w.heap.size+1:=by simp
def dS {B:Nat}{a w:zW}(h:Below B a w){g:Nat}(c:B<=g)(cs:zA):Below B a (w.setRow g cs):=
 h.trans ⟨rfl,rfl,rfl,by simp[World.setRow],λk b=>oP _ _ _ _ (by omega)⟩
def below_drewN {B a w}(h:Below B a w)(n):Below B a (w.drewN n):=⟨h.os,h.tape,h.output,h.size,h.block⟩
def VD (w)(e)(s):zb w (aE0 w e s):=by
 refine⟨?_,?_,?_,by rw[aE1];omega,λk h=>aE2 w e s k h⟩;all_goals
  unfold aE0 World.freeze
  rw[zAv (by decide)]
  rfl
def Lb (l:zB):∀s:ByteArray,((l.map λb=>(b.toNat:Int)).foldl (λr n=>r.push (aE4 n.toNat)) s)=⟨s.data++l.toArray⟩:=by
 induction l with
 |nil=>intro s;simp
 |cons b l i=>intro s;rw[zEf,zGa,i];simp[aES]
def pC {P}(w)(src dst e)(g o c)(l:zB)(hs:P.underlying src=aA (.slice e))(i:P.underlying e=aA (.int aQ))(k:P.underlying dst=aA .string)
  (h:∀j,j<l.length->w.cell? ⟨g,o+j,aB⟩=aA (aC aQ ((l.getD j 0).toNat:Int))):
  (convert src dst (aK (aA ⟨g,o,aB⟩) l.length c)).run P w= .ok (aL ⟨l.toArray⟩) w:=by
 rw[run_convert_bytes_string w src dst e _ _ _ hs i k];have hl:(loadCells ⟨g,o,aB⟩ (l.map λb=>Value.int aQ (b.toNat:Int)).length).run P w= .ok (l.map λb=>Value.int aQ (b.toNat:Int)).toArray w:=
  run_loadCells_list w ⟨g,o,aB⟩ (l.map λb=>Value.int aQ (b.toNat:Int)) (λj v d=>by
   have f:j<l.length:=by have:=(zBa.1 d).1;simpa using this
   have a:(⟨g,o,aB⟩:Addr).add j=⟨g,o+j,aB⟩:=by unfold Addr.add;split<;>simp_all
   rw[a,h j f];rw[zDi]at d;simp[f]at d;rw[<-d];simp[f])
 rw[zCl]at hl;have e:(l.map λb=>Value.int aQ (b.toNat:Int))=(l.map λb=>(b.toNat:Int)).map (Value.int aQ):=by simp
 rw[e]at hl;rw[run_bytesToString w ⟨g,o,aB⟩ l.length c _ hl,Lb,show ByteArray.empty.data= #[]from rfl,zCe]
def nJ {P:zZ}{ops:zQ}{C:zW->Prop}{Q:Act->Prop}{a:Act}{o:Oper}{rest:List Oper}(b:o.guard=aB)(ty:zD)(x:Operand)(i:o.op= .load ty x)
  (g:Nat) (c:a.eval x=aO (aA ⟨g,0,aB⟩)) (t:zD) (cs:zA) (d:TypeDesc) (j:∀w,C w->cL w g t cs)
  (f:P.underlying ty=aA d) (k:(match d with| .struct _| .array _ _=>aF|_=>aG)=aF) (hi:(P.info? ty).map (·.size)=aA cs.size)
  (h:wpQuiet P ops C Q rest (a.put o.dst (.agg cs))):wpQuiet P ops C Q (o::rest) a:=by
 refine wpQuiet_step λK l=> ?_;rw[zAz (by simp[Region.wanted,b])];refine⟨.agg cs,λw e=> ?_,l _ h⟩;unfold Oper.quietAt execOp;simp only[i,c,Instr.loadAt,Instr.sureAddr,Sem.run_bind,Sem.run_pure,Result.andThen_ok,run_loadVar_row w g t ty cs (0,0) d (j w e) f k hi];exact⟨rfl,rfl⟩
structure R8 where
 a:BitVec 32
 b:BitVec 32
 c:BitVec 32
 d:BitVec 32
 e:BitVec 32
 f:BitVec 32
 g:BitVec 32
 h:BitVec 32
def R8.one (k w:BitVec 32)(s:R8):BitVec 32:=s.h+S1 s.e+(s.e&&&s.f^^^ ~~~s.e&&&s.g)+k+w
def R8.two (s:R8):BitVec 32:=S0 s.a+(s.a&&&s.b^^^s.a&&&s.c^^^s.b&&&s.c)
def R8.step (k w:BitVec 32)(s:R8):R8:=⟨s.one k w+s.two,s.a,s.b,s.c,s.d+s.one k w,s.e,s.f,s.g⟩
def R8.steps (k ws:Nat->BitVec 32):Nat->R8->R8
 |0,s=>s
 |n+1,s=>(R8.steps k ws n s).step (k n) (ws n)
def R8.plus (s t:R8):R8:=⟨s.a+t.a,s.b+t.b,s.c+t.c,s.d+t.d,s.e+t.e,s.f+t.f,s.g+t.g,s.h+t.h⟩
def R8.mix (k ws:Nat->BitVec 32)(s:R8):R8:=s.plus (R8.steps k ws 64 s)
def R8.cells (s:R8):zA:= #[aC aP (V s.a),aC aP (V s.b),aC aP (V s.c),aC aP (V s.d),aC aP (V s.e),aC aP (V s.f),aC aP (V s.g),aC aP (V s.h)]
def mg (a b c d e:BitVec 32):(V a+V b+V c+V d+V e)%4294967296=V (a+b+c+d+e):=by simp only[V,aER];omega
def bh (d p q k w:BitVec 32):(V d+(V p+V q+V k+V w))%4294967296=V (d+(p+q+k+w)):=by simp only[V,aER];omega
def Table (g:Nat)(k:Nat->BitVec 32)(w:zW):Prop:=g<w.heap.size/\∀t:Nat,t<64->w.cell? ⟨g,t,aB⟩=aA (aC aP (V (k t)))
def FB (s:R8)(xs:zA)(w:zW):zW:=((w.alloc (aJ s.cells 136)).alloc (aJ xs 157)).alloc (aJ #[aC aP 0,aC aP 0,aC aP 0,aC aP 0,aC aP 0,aC aP 0,aC aP 0,aC aP 0] 136)
def Lr (s:R8)(xs)(w)(n b t)(c:b<w.heap.size):((FB s xs w).drewN n).cell? ⟨b,t,aB⟩=w.cell? ⟨b,t,aB⟩:=by
 have h:zb w ((FB s xs w).drewN n):=by have a:zb w (FB s xs w):=(((zGo _ _).alloc (zAb _) _).alloc (by simp) _).alloc (by simp;omega) _;exact⟨a.os,a.tape,a.output,a.size,a.block⟩
 exact h.cell c
def Lq (s:R8)(xs)(w)(n t):((FB s xs w).drewN n).cell? ⟨w.heap.size+1,t,aB⟩=xs[t]? :=by
 show World.cell? (FB s xs w) _=_;have:(FB s xs w).heap[w.heap.size+1]? =aA (aJ xs 157):=by show(((w.heap.push _).push _).push _)[w.heap.size+1]? =_;rw[zBk,zAv (by simp),zBk,zAz (by simp)]
 unfold World.cell?;rw[this];rfl
def R8.get (s:R8):Nat->BitVec 32
 |0=>s.a
 |1=>s.b
 |2=>s.c
 |3=>s.d
 |4=>s.e
 |5=>s.f
 |6=>s.g
 |_=>s.h
def R8.part (s u:R8)(t:Nat):R8:=⟨if 0<t then s.a+u.a else s.a,if 1<t then s.b+u.b else s.b,if 2<t then s.c+u.c else s.c,if 3<t then s.d+u.d else s.d,if 4<t then s.e+u.e else s.e,if 5<t then s.f+u.f else s.f,if 6<t then s.g+u.g else s.g,if 7<t then s.h+u.h else s.h⟩
def Ev (s u:R8)(t)(h:t<8):(s.part u t).cells[t]? =aA (aC aP (V (s.get t))):=by
 match t,h with
 |0,_|1,_|2,_|3,_|4,_|5,_|6,_|7,_=>rfl
def Eu (s u:R8)(t)(h:t<8):(s.part u t).cells.setIfInBounds t (aC aP (V (s.get t+u.get t)))=(s.part u (t+1)).cells:=by
 match t,h with
 |0,_|1,_|2,_|3,_|4,_|5,_|6,_|7,_=>rfl
def TM (u:R8)(t:Nat)(h:t<8)(w):(Instr.index 136 (.agg #[aC aP (V u.a),aC aP (V u.b),aC aP (V u.c),aC aP (V u.d),aC aP (V u.e),aC aP (V u.f),aC aP (V u.g),aC aP (V u.h)]) (aC aD (t))).run zq w= .ok (aC aP (V (u.get t))) w:=by
 have i0:(Instr.index 136 (.agg #[aC aP (V u.a),aC aP (V u.b),aC aP (V u.c),aC aP (V u.d),aC aP (V u.e),aC aP (V u.f),aC aP (V u.g),aC aP (V u.h)]) (aC aD 0)).run zq w= .ok (aC aP (V u.a)) w:=by kernel_rfl
 have i1:(Instr.index 136 (.agg #[aC aP (V u.a),aC aP (V u.b),aC aP (V u.c),aC aP (V u.d),aC aP (V u.e),aC aP (V u.f),aC aP (V u.g),aC aP (V u.h)]) (aC aD 1)).run zq w= .ok (aC aP (V u.b)) w:=by kernel_rfl
 have i2:(Instr.index 136 (.agg #[aC aP (V u.a),aC aP (V u.b),aC aP (V u.c),aC aP (V u.d),aC aP (V u.e),aC aP (V u.f),aC aP (V u.g),aC aP (V u.h)]) (aC aD 2)).run zq w= .ok (aC aP (V u.c)) w:=by kernel_rfl
 have i3:(Instr.index 136 (.agg #[aC aP (V u.a),aC aP (V u.b),aC aP (V u.c),aC aP (V u.d),aC aP (V u.e),aC aP (V u.f),aC aP (V u.g),aC aP (V u.h)]) (aC aD 3)).run zq w= .ok (aC aP (V u.d)) w:=by kernel_rfl
 have i4:(Instr.index 136 (.agg #[aC aP (V u.a),aC aP (V u.b),aC aP (V u.c),aC aP (V u.d),aC aP (V u.e),aC aP (V u.f),aC aP (V u.g),aC aP (V u.h)]) (aC aD 4)).run zq w= .ok (aC aP (V u.e)) w:=by kernel_rfl
 have i5:(Instr.index 136 (.agg #[aC aP (V u.a),aC aP (V u.b),aC aP (V u.c),aC aP (V u.d),aC aP (V u.e),aC aP (V u.f),aC aP (V u.g),aC aP (V u.h)]) (aC aD 5)).run zq w= .ok (aC aP (V u.f)) w:=by kernel_rfl
 have i6:(Instr.index 136 (.agg #[aC aP (V u.a),aC aP (V u.b),aC aP (V u.c),aC aP (V u.d),aC aP (V u.e),aC aP (V u.f),aC aP (V u.g),aC aP (V u.h)]) (aC aD 6)).run zq w= .ok (aC aP (V u.g)) w:=by kernel_rfl
 have i7:(Instr.index 136 (.agg #[aC aP (V u.a),aC aP (V u.b),aC aP (V u.c),aC aP (V u.d),aC aP (V u.e),aC aP (V u.f),aC aP (V u.g),aC aP (V u.h)]) (aC aD 7)).run zq w= .ok (aC aP (V u.h)) w:=by kernel_rfl
 have:t=0\/t=1\/t=2\/t=3\/t=4\/t=5\/t=6\/t=7:=by omega
 obtain rfl|rfl|rfl|rfl|rfl|rfl|rfl|rfl:=this
 .exact i0
 .exact i1
 .exact i2
 .exact i3
 .exact i4
 .exact i5
 .exact i6
 .exact i7
attribute [local go_sem] V_xor V_and V_or V_not V_add V_shr
def Sv (s:R8)(xs)(ws j)(w)(r:∀t:Nat,t<64->xs[t]? =aA (aC aP (V (ws t))))(R:Table 2 j w):
  Calls zq 95 #[.agg s.cells,.agg xs] w λe y=>e=aM (.agg (s.mix j ws).cells)/\zb w y:=by
 obtain⟨P,O⟩:=R;unfold R8.cells;go_enter (Qz.fn func95),ntmps95;go_wp2;go_quiet (fail);go_wp2;go_quiet (fail);go_wp2;go_loopg [5,6,7,8,9,10,11,12,34] 64 (λk A B C D E F G H i wr=>∃t:Nat,t+k=64/\i=aC aD t/\A=aC aP (V (R8.steps j ws t s).a)/\B=aC aP (V (R8.steps j ws t s).b)/\C=aC aP (V (R8.steps j ws t s).c)/\D=aC aP (V (R8.steps j ws t s).d)
   /\E=aC aP (V (R8.steps j ws t s).e)/\F=aC aP (V (R8.steps j ws t s).f)/\G=aC aP (V (R8.steps j ws t s).g)/\H=aC aP (V (R8.steps j ws t s).h)/\∃n,wr=(FB s xs w).drewN n)
 case atStart=>exact⟨0,rfl,rfl,rfl,rfl,rfl,rfl,rfl,rfl,rfl,rfl,_,World.drewN_drewN _ _ _⟩
 case round=>
  obtain⟨t,v,rfl,rfl,rfl,rfl,rfl,rfl,rfl,rfl,rfl,u⟩:=hrel
  have m:=hid u
  generalize x:R8.steps j ws t s=st
  have l:=hid x
  by_cases bT:t<64
  .have T:wr.cell? ⟨2,t,aB⟩=aA (aC aP (V (j t))):=by
    obtain⟨n,rfl⟩:=m.out;rw[Lr _ _ _ _ _ _ P];exact O t bT
   have S:wr.cell? ⟨w.heap.size+1,t,aB⟩=aA (aC aP (V (ws t))):=by obtain⟨n,rfl⟩:=m.out;rw[Lq];exact r t bT
   go_wp2;go_quiet ((exact zGz (Zc _ _)));go_wp2_with (go_at_call 108;refine(Zd _ _).mono ?_;rintro e y ⟨rfl,rfl⟩);go_roundg (63-t);case measure=>omega
   case rel=>
    go_light
    have M:R8.steps j ws (t+1) s=st.step (j t) (ws t):=by rw[<-l.out];rfl
    refine⟨t+1,by omega,by go_num,?_⟩
    rw[M]
    refine⟨congrArg _ (mg _ _ _ _ _),rfl,rfl,rfl,congrArg _ (bh _ _ _ _ _),rfl,rfl,rfl,?_⟩
    obtain⟨n,N⟩:=m.out
    exact⟨_,by rw[N,World.drewN_drewN]⟩
  .have v:t=64:=by omega
   subst v;obtain⟨n,rfl⟩:=m.out;have J:Hid (zb w ((FB s xs w).drewN n)):=below_drewN ((((zGo _ _).alloc (zAb _) _).alloc (by simp) _).alloc (by simp;omega) _) n;have I:Hid (cL ((FB s xs w).drewN n) w.heap.size 136 s.cells):=cL.drewN (((cL.new _ _ _).alloc _).alloc _) n;have b3:Hid (∃z:zA,z.size=8/\cL ((FB s xs w).drewN n) (w.heap.size+1+1) 136 z):=⟨#[aC aP 0,aC aP 0,aC aP 0,aC aP 0,aC aP 0,aC aP 0,aC aP 0,aC aP 0],rfl,by have:=cL.new ((w.alloc (aJ s.cells 136)).alloc (aJ xs 157)) 136 #[aC aP 0,aC aP 0,aC aP 0,aC aP 0,aC aP 0,aC aP 0,aC aP 0,aC aP 0];rw[size_alloc,size_alloc]at this;exact this.drewN n⟩
   generalize(FB s xs w).drewN n=W at*;go_wp2;go_loopg [94] 8 (λk i wr=>∃t:Nat,t+k=8/\i=aC aD t/\zb w wr/\cL wr w.heap.size 136 (s.part st t).cells/\∃z:zA,z.size=8/\cL wr (w.heap.size+1+1) 136 z);case atStart=>exact⟨0,rfl,rfl,J.out,I.out,b3.out⟩
   case round=>
    obtain⟨t,v,rfl,c1,c2,c3⟩:=hrel
    have L:=hid c1
    have p:=hid c2
    have K:=hid c3
    clear c1 c2 c3 J I b3
    by_cases bT:t<8
    .have hi:=TM st t bT;have T:wr.cell? ⟨w.heap.size,t,aB⟩=aA (aC aP (V (s.get t))):=by{rw[p.out.cell,Ev _ _ _ bT]};have S:=p.out.frozen t;go_wp2;go_roundg (7-t);case measure=>omega
     case rel=>
      go_light
      refine⟨t+1,by omega,by go_num,L.out.setCell (zAb _) _,?_,?_⟩
      .have:=p.out.fM t (aC aP (V (s.get t+st.get t)));rw[Eu _ _ _ bT]at this;exact this
      .obtain⟨z,q,o⟩:=K.out;exact⟨z,q,o.cE _ _ (by simp;omega)⟩
    .obtain rfl:t=8:=by{omega};obtain⟨z,q,o⟩:=K.out;have c2:cL wr w.heap.size 136 (s.mix j ws).cells:=by rw[R8.mix,l.out];exact p.out
     have U:=hid c2;have Q:=hid o;clear c2 o;go_wp2_with (first
      |refine zGw rfl 136 _ rfl w.heap.size rfl _ _ _ _ U.out ((Qz.fH 136).trans underlying136) rfl (by kernel_rfl) ?_
      |refine zGx rfl 136 _ _ rfl (w.heap.size+1+1) _ rfl rfl _ _ Q.out (by kernel_rfl) (by rw[q];rfl) (by kernel_rfl) ?_)
     refine zHe ?_ rfl ⟨rfl,?_⟩;{exact results_cell_row results95 _ _ (w.heap.size+1+1) _ _ _ _ rfl (Q.out.fN _) ((Qz.fH 136).trans underlying136) rfl (by kernel_rfl)};{exact dS L.out (by omega) _}
def acc (l:zB):BitVec 32:=l.foldl (λx b=>x<<<8|||aEG 32 b.toNat) 0
def CZ (l:zB)(t:Nat):BitVec 32:=acc ((l.drop (4*t)).take 4)
def put (f:Nat->BitVec 32)(t:Nat)(x:BitVec 32):Nat->BitVec 32:=λi=>if i=t then x else f i
def gD (l:zB)(t:Nat):Nat->BitVec 32:=λi=>if i<t then CZ l i else 0
def sched (l:zB):Nat->Nat->BitVec 32
 |0=>gD l 16
 |n+1=>put (sched l n) (16+n) (s1 (sched l n (16+n-2))+sched l n (16+n-7)+s0 (sched l n (16+n-15))+sched l n (16+n-16))
def row (k:IntKind)(f:Nat->BitVec 32):zA:=((List.range 64).map λi=>Value.int k (V (f i))).toArray
def wL (k:IntKind)(f):(row k f).size=64:=by simp[row]
def lH (k:IntKind)(f)(i)(h:i<64):(row k f)[i]? =aA (.int k (V (f i))):=by simp[row,h]
def Ba (k:IntKind)(f)(t)(x:BitVec 32):(row k f).setIfInBounds t (.int k (V x))=row k (put f t x):=by
 apply zBz;intro i;rw[zBt,wL];by_cases h:i<64
 .rw[lH k (put f t x) i h];by_cases e:t=i
  .subst e;simp[h,put]
  .rw[zAv e,lH k _ i h];simp[put,zDj e]
 .rw[zBq (by rw[wL];omega),zBq (by rw[wL];omega)];by_cases e:t=i
  .subst e;simp[h]
  .rw[zAv e]
def row_one (k:IntKind)(f):(row k f).all (·.oneCell')=aF:=by rw[Array.all_eq_true_iff_forall_mem];intro v h;simp[row]at h;obtain⟨i,_,rfl⟩:=h;rfl
def Rz (f)(t)(x y:BitVec 32):put (put f t x) t y=put f t y:=by funext i;unfold put;split<;>rfl
def Kz (f)(t)(x:BitVec 32):put f t x t=x:=by simp[put]
def YR (l)(t):put (gD l t) t (CZ l t)=gD l (t+1):=by
 funext i;unfold put gD;by_cases h:i=t
 .subst h;simp
 .rw[zAv h];by_cases a:i<t
  .rw[zAz a,zAz (by omega)]
  .rw[zAv a,zAv (by omega)]
def FR (l)(t):put (gD l t) t 0=gD l t:=by
 funext i;unfold put gD;by_cases h:i=t
 .subst h;simp
 .rw[zAv h]
def Ox (l)(b:UInt8):acc (l++[b])=acc l<<<8|||aEG 32 b.toNat:=by simp[acc]
def Ui:acc []=0:=rfl
def Yg (x:BitVec 32)(b:UInt8):bits .or aP (V x*256%4294967296) (b.toNat:Int)=V (x<<<8|||aEG 32 b.toNat):=by
 have a:V x*(256:Int)%(4294967296:Int)=V (x<<<8):=ig x 8;have c:=b.toNat_lt;have h:(b.toNat:Int)=V (aEG 32 b.toNat):=by unfold V;rw[BitVec.toNat_ofNat,Nat.mod_eq_of_lt (by omega)]
 rw[a,h,V_or]
def Dg (s:zB)(j)(h:j<s.length):s.take (j+1)=s.take j++[s.getD j 0]:=by rw[zEl h];simp[h]
def kK (s:ByteArray)(a b):(s.extract a b).data.toList=(s.data.toList.take b).drop a:=by simp[aET,List.drop_take]
attribute [local go_sem] V_xor V_and V_or V_not V_add V_shr
def WM (s)(hs:s.size=64)(w):
  Calls zq 96 #[aL s] w λe I=>e=aM (.agg (row aP (sched s.data.toList 48)))/\zb w I:=by
 have A:=λW r=>Lib.run_convert_string_bytes W 9 50 5 r ((Qz.fH 9).trans underlying9) ((Qz.fH 50).trans underlying50) ((Qz.fH 5).trans underlying5);have o:=λW r j=>Lib.bytesWorld_cell W 5 r j;have H:=hid o;go_enter (Qz.fn func96),ntmps96;go_wp2;go_loopg [8] 16 (λk i wr=>∃t:Nat,t+k=16/\i=aC aD t/\zb w wr/\w.heap.size+2<=wr.heap.size/\cL wr (w.heap.size+1) 157 (row aP (gD s.data.toList t))/\∃z:zA,z.size=64/\cL wr w.heap.size 157 z);case atStart=>
  refine⟨0,rfl,rfl,((zGo _ _).alloc (zAb _) _).alloc (by simp) _,by simp,?_,_,rfl,(cL.new _ _ _).alloc _⟩
  have:=cL.new (w.alloc (aJ (row aP (gD s.data.toList 0)) 157)) 157 (row aP (gD s.data.toList 0))
  rw[size_alloc]at this
  exact this
 case round=>
  obtain⟨t,T,rfl,R,b2,b3,P⟩:=hrel
  have B:=hid R
  have q:=hid b3
  have p:=hid P
  by_cases bT:t<16
  .have J:min (4*t+4) 64-4*t=4:=by omega
   have u:Hid (CZ s.data.toList t=acc (s.extract (4*t) (4*t+4)).data.toList):=by show _=_;rw[kK,CZ,List.take_drop]
   go_wp2;have c1:Hid (zb w (aE0 wr 5 (s.extract (4*t) (4*t+4)))):=B.out.trans ((VD _ _ _).mono B.out.size);have a:(s.extract (4*t) (4*t+4)).size=4:=by simp[hs,J]
   have c3:Hid (cL (aE0 wr 5 (s.extract (4*t) (4*t+4))) (w.heap.size+1) 157 (row aP (gD s.data.toList t))):=by show _=_;rw[aE2 _ _ _ _ (by omega)];exact q.out
   have c4:Hid (∃z:zA,z.size=64/\cL (aE0 wr 5 (s.extract (4*t) (4*t+4))) w.heap.size 157 z):=by obtain⟨z,m,l⟩:=p.out;refine⟨z,m,?_⟩;show _=_;rw[aE2 _ _ _ _ (by omega)];exact l
   have c5:Hid (∀j,j<4->(aE0 wr 5 (s.extract (4*t) (4*t+4))).cell? ⟨wr.heap.size,j,aB⟩=aA (aC aQ ((s.extract (4*t) (4*t+4)).data.toList.getD j 0).toNat)):=λj F=>H.out _ _ j (by rw[a];exact F);have c2:wr.heap.size+1<=(aE0 wr 5 (s.extract (4*t) (4*t+4))).heap.size:=by rw[aE1];omega
   have hl:Hid ((s.extract (4*t) (4*t+4)).data.toList.length=4):=by have:=a;rw[<-aEU]at this;rw[zDh];exact this
   clear B q p a;generalize aE0 wr 5 (s.extract (4*t) (4*t+4))=W1 at*;generalize(s.extract (4*t) (4*t+4)).data.toList=b at*;generalize wr.heap.size=g at*;go_loopg [20] 4 (λk i c=>∃j:Nat,j+k=4/\i=aC aD j/\zb w c/\g+1<=c.heap.size/\cL c (w.heap.size+1) 157 (row aP (put (gD s.data.toList t) t (acc (b.take j))))/\(∃z:zA,z.size=64/\cL c w.heap.size 157 z)/\(∀j,j<4->c.cell? ⟨g,j,aB⟩=aA (aC aQ (b.getD j 0).toNat)));case atStart=>exact⟨0,rfl,rfl,c1.out,c2,by rw[zFm,Ui,FR];exact c3.out,c4.out,c5.out⟩
   case round=>
    obtain⟨j,F,rfl,d1,O,d3,d4,d5⟩:=hrel
    clear c1 c2 c3 c4 c5
    have D1:=hid d1
    have D3:=hid d3
    have D4:=hid d4
    have D5:=hid d5
    clear d1 d3 d4 d5
    by_cases f:j<4
    .have G:=D5.out j f;have N:wr.cell? ⟨w.heap.size+1,t,aB⟩=aA (aC aP (V (acc (b.take j)))):=by{rw[D3.out.cell,lH _ _ _ (by omega),Kz]};have M:=D3.out.frozen t;have C:((b.getD j 0).toNat:Int)<256:=by{have:=(b.getD j 0).toNat_lt;omega};have D:0<=((b.getD j 0).toNat:Int):=zGe _;generalize E:((b.getD j 0).toNat:Int)=y at G C D;have S:=hid E;clear E;go_wp2;go_roundg (3-j);case measure=>omega
     case rel=>
      go_light
      have L:bits .or aP (V (acc (b.take j))*256%4294967296) y=V (acc (b.take (j+1))):=by rw[<-S.out,Yg,Dg b j (by rw[hl.out];exact f),Ox]
      rw[L]
      refine⟨j+1,by omega,by go_num,D1.out.setCell (by simp) _,by rw[size_setCell];exact O,?_,?_,λk K=> ?_⟩
      .have:=D3.out.fM t (aC aP (V (acc (b.take (j+1)))));rw[Ba,Rz]at this;exact this
      .obtain⟨z,m,l⟩:=D4.out;exact⟨z,m,l.cE _ _ (by simp)⟩
      .rw[World.cell?_setCell_other _ _ _ _ (by intro h;injection h;omega)];exact D5.out k K
    .obtain rfl:j=4:=by{omega};go_wp2;go_roundg (15-t);case measure=>omega
     case rel=>
      go_light
      refine⟨t+1,by omega,by go_num,D1.out,by omega,?_,D4.out⟩
      have:=D3.out
      rw[zCx (by rw[hl.out];omega),<-u.out,YR]at this
      exact this
  .obtain rfl:t=16:=by{omega};clear H A hs;go_wp2;go_loopg [7] 48 (λk i c=>∃n:Nat,n+k=48/\i=aC aD (16+(n:Int))/\zb w c/\cL c (w.heap.size+1) 157 (row aP (sched s.data.toList n))/\∃z:zA,z.size=64/\cL c w.heap.size 157 z);case atStart=>exact⟨0,rfl,rfl,B.out,q.out,p.out⟩
   case round=>
    obtain⟨n,U,rfl,d1,d3,d4⟩:=hrel
    clear B q p
    have D1:=hid d1
    have D3:=hid d3
    have D4:=hid d4
    clear d1 d3 d4
    by_cases bT:n<48
    .have G:wr.cell? ⟨w.heap.size+1,16+n-2,aB⟩=aA (aC aP (V (sched s.data.toList n (16+n-2)))):=by{rw[D3.out.cell,lH _ _ _ (by omega)]};have N:wr.cell? ⟨w.heap.size+1,16+n-7,aB⟩=aA (aC aP (V (sched s.data.toList n (16+n-7)))):=by{rw[D3.out.cell,lH _ _ _ (by omega)]};have M:wr.cell? ⟨w.heap.size+1,16+n-15,aB⟩=aA (aC aP (V (sched s.data.toList n (16+n-15)))):=by{rw[D3.out.cell,lH _ _ _ (by omega)]};have Z:wr.cell? ⟨w.heap.size+1,n,aB⟩=aA (aC aP (V (sched s.data.toList n n))):=by{rw[D3.out.cell,lH _ _ _ (by omega)]};have Y:wr.cell? ⟨w.heap.size+1,16+n,aB⟩=aA (aC aP (V (sched s.data.toList n (16+n)))):=by{rw[D3.out.cell,lH _ _ _ (by omega)]};have X:wr.frozen? ⟨w.heap.size+1,16+n,aB⟩=aG:=D3.out.frozen _;go_wp2;refine Tail.Di 23 (by kernel_rfl) (by kernel_rfl) ?_;simp only[zFe,zFm,zFh,zEu];(repeat (any_goals(first|go_big_quiet_step ((first|exact zGz (Kf _ _)|exact zGz (Kg _ _)))|quiet_step ((first|exact zGz (Kf _ _)|exact zGz (Kg _ _))))));refine wpQuiet_nil ?_;intro _ x;obtain⟨nq,rfl⟩:=x;go_wp2;go_roundg (47-n);case measure=>omega
     case rel=>
      go_light
      refine⟨n+1,by omega,by go_num,(below_drewN D1.out nq).setCell (by simp) _,?_,?_⟩
      .have:=(D3.out.drewN nq).fM (16+n) (aC aP (V (s1 (sched s.data.toList n (16+n-2))+sched s.data.toList n (16+n-7)+s0 (sched s.data.toList n (16+n-15))+sched s.data.toList n n)));rw[Ba]at this;have e:sched s.data.toList (n+1)=put (sched s.data.toList n) (16+n) (s1 (sched s.data.toList n (16+n-2))+sched s.data.toList n (16+n-7)+s0 (sched s.data.toList n (16+n-15))+sched s.data.toList n n):=by
        rw[sched,show 16+n-16=n from by omega]
       rw[e];exact this
      .obtain⟨z,m,l⟩:=D4.out;exact⟨z,m,(l.drewN nq).cE _ _ (by simp)⟩
    .obtain rfl:n=48:=by omega
     obtain⟨z,m,l⟩:=D4.out;have Q:=hid l;clear l;have a:=wL aP (sched s.data.toList 48);have d:=hid a;clear a;go_wp2_with (first
      |refine zGw rfl 157 _ rfl (w.heap.size+1) rfl _ _ _ _ D3.out ((Qz.fH 157).trans underlying157) rfl (by rw[d.out];kernel_rfl) ?_
      |refine zGx rfl 157 _ _ rfl w.heap.size _ rfl rfl _ _ Q.out (by rw[d.out];kernel_rfl) (by rw[m,d.out]) (row_one _ _) ?_)
     refine zHe (v:= .agg (row aP (sched s.data.toList 48))) ?_ rfl ⟨rfl,?_⟩;{exact results_cell_row results96 _ _ w.heap.size _ _ _ _ rfl (Q.out.fN _) ((Qz.fH 157).trans underlying157) rfl (by rw[d.out];kernel_rfl)};{exact dS D1.out (zAb _) _}
def oK (s:R8)(i:Nat):UInt8:=aE4 (s.get (i/4)>>>(24-8*(i%4))).toNat
def fP (s:R8):zB:=(List.range 32).map (oK s)
def qO (s:R8)(t:Nat):zA:=((List.range 32).map λi=>Value.int aQ (if i<t then((oK s i).toNat:Int)else 0)).toArray
def sI (s:R8)(t):(qO s t).size=32:=by simp[qO]
def qN (s:R8)(t i)(h:i<32):(qO s t)[i]? =aA (aC aQ (if i<t then((oK s i).toNat:Int)else 0)):=by simp[qO,h]
def SF (s:R8)(t):(qO s t).setIfInBounds t (aC aQ ((oK s t).toNat:Int))=qO s (t+1):=by
 apply zBz;intro i;rw[zBt,sI];by_cases h:i<32
 .rw[qN s (t+1) i h];by_cases e:t=i
  .subst e;simp[h]
  .rw[zAv e,qN s t i h];by_cases a:i<t
   .rw[zAz a,zAz (by omega)]
   .rw[zAv a,zAv (by omega)]
 .rw[zBq (by rw[sI];omega),zBq (by rw[sI];omega)];by_cases e:t=i
  .subst e;simp[h]
  .rw[zAv e]
def WJ (s:R8)(i)(h:i<8):s.cells[i]? =aA (aC aP (V (s.get i))):=by
 have:i=0\/i=1\/i=2\/i=3\/i=4\/i=5\/i=6\/i=7:=by omega
 obtain rfl|rfl|rfl|rfl|rfl|rfl|rfl|rfl:=this<;>rfl
attribute [local go_sem] V_shr
def Hf (s:R8)(w):
  Calls zq 78 #[.agg s.cells] w λe d=>e=aM (aL ⟨(fP s).toArray⟩)/\zb w d:=by
 have o:Hid ((#[aC aQ 0,aC aQ 0,aC aQ 0,aC aQ 0,aC aQ 0,aC aQ 0,aC aQ 0,aC aQ 0,aC aQ 0,aC aQ 0,aC aQ 0,aC aQ 0,aC aQ 0,aC aQ 0,aC aQ 0,aC aQ 0,aC aQ 0,aC aQ 0,aC aQ 0,aC aQ 0,aC aQ 0,aC aQ 0,aC aQ 0,aC aQ 0,aC aQ 0,aC aQ 0,aC aQ 0,aC aQ 0,aC aQ 0,aC aQ 0,aC aQ 0,aC aQ 0]:zA)=qO s 0):=rfl;go_enter (Qz.fn func78),ntmps78;go_wp2;go_loopg [5] 32 (λk i wr=>∃t:Nat,t+k=32/\i=aC aD t/\zb w wr/\cL wr w.heap.size 136 s.cells/\cL wr (w.heap.size+1) 160 (qO s t));case atStart=>
  refine⟨0,rfl,rfl,((zGo _ _).alloc (zAb _) _).alloc (by simp) _,(cL.new _ _ _).alloc _,?_⟩
  have:=cL.new (w.alloc (aJ s.cells 136)) 160 (qO s 0)
  rw[size_alloc]at this
  exact this
 case round=>
  obtain⟨t,p,rfl,n,m,b3⟩:=hrel
  have c:=hid n
  have b:=hid m
  have B:=hid b3
  by_cases bT:t<32
  .have r:wr.cell? ⟨w.heap.size,t/4,aB⟩=aA (aC aP (V (s.get (t/4)))):=by{rw[b.out.cell,WJ _ _ (by omega)]};have l:wr.cell? ⟨w.heap.size+1,t,aB⟩=aA (aC aQ (if t<t then((oK s t).toNat:Int)else 0)):=by{rw[B.out.cell,qN _ _ _ bT]};rw[zAv (by omega)]at l;have q:wr.frozen? ⟨w.heap.size+1,t,aB⟩=aG:=B.out.frozen _;go_wp2;go_roundg (31-t);case measure=>omega
   case rel=>
    go_light
    have g:V (s.get (t/4)>>>(24-8*(t%4)))%256=((oK s t).toNat:Int):=by unfold V oK;rw[zFk];omega
    rw[g]
    refine⟨t+1,by omega,by go_num,c.out.setCell (by simp) _,b.out.cE _ _ (by simp),?_⟩
    have:=B.out.fM t (aC aQ ((oK s t).toNat:Int))
    rw[SF]at this
    exact this
  .obtain rfl:t=32:=by omega
   have a:=pC wr 50 9 5 (w.heap.size+1) 0 32 (fP s) ((Qz.fH 50).trans underlying50) ((Qz.fH 5).trans underlying5) ((Qz.fH 9).trans underlying9) (λj f=>by
    have h:j<32:=by simpa [fP]using f
    rw[zBd,B.out.cell,qN _ _ _ h,zAz h];simp[fP,h])
   rw[show(fP s).length=32 from by simp[fP]]at a;go_wp2;go_ret;exact⟨rfl,c.out⟩
def TH:List Nat:=[1116352408,1899447441,3049323471,3921009573,961987163,1508970993,2453635748,2870763221,3624381080,310598401,607225278,1426881987,1925078388,2162078206,2614888103,3248222580,3835390401,4022224774,264347078,604807628,770255983,1249150122,1555081692,1996064986,2554220882,2821834349,2952996808,3210313671,3336571891,3584528711,113926993,338241895,666307205,773529912,1294757372,1396182291,1695183700,1986661051,2177026350,2456956037,2730485921,2820302411,3259730800,3345764771,3516065817,3600352804,4094571909,275423344,430227734,506948616,659060556,883997877,958139571,1322822218,1537002063,1747873779,1955562222,2024104815,2227730452,2361852424,2428436474,2756734187,3204031479,3329325298]
def K (i:Nat):BitVec 32:=aEG 32 (TH.getD i 0)
def H0:R8:=⟨BitVec.ofNat 32 1779033703,aEG 32 3144134277,aEG 32 1013904242,aEG 32 2773480762,aEG 32 1359893119,aEG 32 2600822924,aEG 32 528734635,aEG 32 1541459225⟩
def blk (l:zB)(j:Nat):zB:=(l.drop (64*j)).take 64
def dI (s:R8)(l:zB):Nat->R8
 |0=>s
 |j+1=>(dI s l j).mix K (sched (blk l j) 48)
def Sz (n i:Nat):UInt8:=aE4 (8*n/2^(8*(7-i)))
def lS (n:Nat):zB:=(List.range 8).map (Sz n)
def zs (n:Nat):Nat:=(119-n%64)%64
def behind (n:Nat):zB:=128::(List.replicate (zs n) 0++lS n)
def qM (l:zB):zB:=l++behind l.length
def Qe (l:zB):zB:=fP (dI H0 (qM l) ((qM l).length/64))
def pK (n):(behind n).length=9+zs n:=by simp[behind,lS];omega
def IZ (l):(qM l).length=l.length+9+zs l.length:=by simp[qM,pK];omega
def VA (s:R8)(a b):∀j,64*j<=a.length->dI s (a++b) j=dI s a j:=by
 intro j;induction j with
 |zero=>intro _;rfl
 |succ j i=>
  intro h;have e:blk (a++b) j=blk a j:=by unfold blk;rw[List.drop_append_of_le_length (by omega),zFs (by simp;omega)]
  simp only[dI,i (by omega),e]
def ZQ (s:R8)(a b)(k)(h:a.length=64*k):∀j,dI s (a++b) (k+j)=dI (dI s a k) b j:=by
 intro j;induction j with
 |zero=>exact VA s a b k (by omega)
 |succ j i=>
  have e:blk (a++b) (k+j)=blk b j:=by unfold blk;rw[Nat.mul_add,<-h,<-List.drop_drop,List.drop_left]
  rw[<-zCh];simp only[dI,i,e]
def Rj (l):Qe l=fP (dI (dI H0 (l.take (l.length-l.length%64)) (l.length/64)) (l.drop (l.length-l.length%64)++behind l.length) ((l.length%64+9+zs l.length)/64)):=by
 have a:l.length-l.length%64=64*(l.length/64):=by omega
 have e:qM l=l.take (l.length-l.length%64)++(l.drop (l.length-l.length%64)++behind l.length):=by rw[<-zBo,zCa];rfl
 have h:(qM l).length/64=l.length/64+(l.length%64+9+zs l.length)/64:=by rw[IZ];unfold zs;omega
 unfold Qe;rw[h,e,ZQ _ _ _ (l.length/64) (by simp;omega)]
def rL (s:R8):(fP s).length=32:=by simp[fP]
def WZ (l):(Qe l).length=32:=rL _
def nT {w w':zW}{o:Obj}{row:Option Nat}(h:(w.alloc o).grownBy w' row):w.grownBy w' row:=
 ⟨h.os,h.tape,h.output,by have:=h.size;rw[size_alloc]at this;omega,λk b a=>by rw[h.block k (by rw[size_alloc];omega) a];exact Below.heap_alloc w o k b⟩
def cL.grown {w w' row g t cs}(h:cL w g t cs)(b:w.grownBy w' row)(a:aA g≠row):cL w' g t cs:=by unfold cL;rw[b.block g h.lt a];exact h
def Hh:∃i,zq.info? 5=aA i/\i.zero=aA (aC aQ 0)/\i.size=1/\i.bytes=1:=by
 have h:(zq.info? 5).map (λi=>(i.zero,i.size,i.bytes))=aA (aA (aC aQ 0),1,1):=by kernel_rfl
 cases a:zq.info? 5 with
 |none=>rw[a]at h;cases h
 |some i=>rw[a]at h;simp only[zBi,Option.some.injEq,Prod.mk.injEq]at h;exact⟨i,rfl,h.1,h.2.1,h.2.2⟩
def Js:∃i,zq.info? 9=aA i/\i.zero=aA (aL ⟨#[]⟩)/\i.size=1/\i.bytes=16:=by
 have h:(zq.info? 9).map (λi=>(i.zero,i.size,i.bytes))=aA (aA (aL ⟨#[]⟩),1,16):=by kernel_rfl
 cases a:zq.info? 9 with
 |none=>rw[a]at h;cases h
 |some i=>rw[a]at h;simp only[zBi,Option.some.injEq,Prod.mk.injEq]at h;exact⟨i,rfl,h.1,h.2.1,h.2.2⟩
def cI (s:R8):s.cells.size=8:=rfl
def cells_one (s:R8):s.cells.all (·.oneCell')=aF:=by simp[R8.cells,Value.oneCell']
def Table.below {g:Nat}{k:Nat->BitVec 32}{w w':zW}{B:Nat}(h:Table g k w)(a:Below B w w')(c:w.heap.size<=B):Table g k w':=
 ⟨zAd h.1 a.size,λt b=>by rw[a.cell (p:=⟨g,t,aB⟩) (zAd h.1 c)];exact h.2 t b⟩
def uK (s:R8)(text)(w)(M:Table 2 K w)(_hl:text.size<=9223372036854775807):
  Calls zq 76 #[.agg s.cells,aL text] w λe E=>e=aM (.agg (dI s text.data.toList (text.size/64)).cells)/\zb w E:=by
 have S:=hid M;have N:Hid (text.data.toList.length=text.size):=by show _=_;simp
 generalize O:text.data.toList=L at*;have T:=hid O;generalize G:text.size=n at*;have R:=hid G;go_enter (Qz.fn func76),ntmps76;go_wp2;go_loopg [1] (n/64) (λq v wr=>∃(j:Nat)(b:ByteArray),j+q=n/64/\v=aL b/\b.data.toList=L.drop (64*j)/\b.size=n-64*j/\zb w wr/\cL wr w.heap.size 136 (dI s L j).cells/\∃z:zA,z.size=8/\cL wr (w.heap.size+1) 136 z);case atStart=>
  refine⟨0,text,by omega,rfl,by rw[T.out];rfl,by rw[R.out];rfl,((zGo _ _).alloc (zAb _) _).alloc (by simp) _,(cL.new _ _ _).alloc _,#[aC aP 0,aC aP 0,aC aP 0,aC aP 0,aC aP 0,aC aP 0,aC aP 0,aC aP 0],rfl,?_⟩
  have:=cL.new (w.alloc (aJ s.cells 136)) 136 #[aC aP 0,aC aP 0,aC aP 0,aC aP 0,aC aP 0,aC aP 0,aC aP 0,aC aP 0]
  rw[size_alloc]at this
  exact this
 case round=>
  obtain⟨j,b,U,rfl,d1,y,C,A,b3⟩:=hrel
  have D1:=hid d1
  have D2:=hid y
  have g:=hid C
  have B:=hid A
  have D:=hid b3
  clear d1 y C A b3
  have I:b.size<=n:=by rw[D2.out];omega
  by_cases bT:j<n/64
  .have m:64<=b.size:=by rw[D2.out];omega
   have f:(b.extract 0 64).data.toList=blk L j:=by rw[kK,zEu,D1.out];rfl
   have H:=hid f;clear f;have o:Hid (∀(d:Nat)(os:zJ),Calls zq 96 #[aL (b.extract 0 64)] (Go.Sort.grow (redrawn wr d) os) λe c=>e=aM (.agg (row aP (sched (blk L j) 48)))/\∃p:Regrown,c=Go.Sort.grow (redrawn wr p.d) p.os):=λd os=>by have h:=WM (b.extract 0 64) (by simp;omega) (Go.Sort.grow (redrawn wr d) os);rw[H.out]at h;exact aEY h
   have r:Hid (∀(d:Nat)(os:zJ),Calls zq 95 #[.agg (dI s L j).cells,.agg (row aP (sched (blk L j) 48))] (Go.Sort.grow (redrawn wr d) os) λe c=>e=aM (.agg (dI s L (j+1)).cells)/\∃p:Regrown,c=Go.Sort.grow (redrawn wr p.d) p.os):=λd os=>
    aEY (Sv (dI s L j) (row aP (sched (blk L j) 48)) (sched (blk L j) 48) K _ (λt F=>lH _ _ _ F) ((S.out.below g.out (zAb _)).below (zGv wr d os) (zAb _)))
   go_wp2;refine Tail.uS 5 (by kernel_rfl) (by kernel_rfl) ?_;simp only[zFe,zFm,zFh,zEu];refine nJ rfl 136 _ rfl w.heap.size rfl 136 (dI s L j).cells _ (λW J=> ?_) ((Qz.fH 136).trans underlying136) rfl (by rw[cI];kernel_rfl) ?_;{obtain⟨p,rfl⟩:=J;exact B.out.below (zGv wr p.d p.os) B.out.lt};simp only[Act.put,zBr,zDg,zCy];(repeat (any_goals(first|go_big_quiet_step ((first|(go_at_call 96;exact o.out _ _)|(go_at_call 95;exact r.out _ _)))|quiet_step ((first|(go_at_call 96;exact o.out _ _)|(go_at_call 95;exact r.out _ _))))));refine wpQuiet_nil ?_;intro P k;obtain⟨p,x⟩:=k;have l:Hid (zb wr P):=by{rw[x];exact zGv wr p.d p.os};clear x o r;have u:=hid (B.out.below l.out B.out.lt);go_wp2_with (refine zGx rfl 136 _ _ rfl w.heap.size _ rfl rfl _ _ u.out (by rw[cI];kernel_rfl) (by rw[cI,cI]) (cells_one _) ?_);go_roundg (n/64-(j+1));case measure=>omega
   case rel=>
    go_light
    refine⟨j+1,_,by omega,rfl,?_,?_,dS (g.out.trans (l.out.mono g.out.size)) (zAb _) _,u.out.fN _,?_⟩
    .rw[kK,zCx (by simp),D1.out,List.drop_drop,show 64*j+64=64*(j+1)from by omega]
    .have:=D2.out;simp;omega
    .obtain⟨z,i,a⟩:=D.out;exact⟨z,i,(a.below l.out a.lt).KI _ (by omega)⟩
  .obtain rfl:j=n/64:=by{omega};have m:b.size<64:=by rw[D2.out];omega
   obtain⟨z,i,a⟩:=D.out;have Q:=hid a;clear a;go_wp2_with (first
    |refine zGw rfl 136 _ rfl w.heap.size rfl _ _ _ _ B.out ((Qz.fH 136).trans underlying136) rfl (by rw[cI];kernel_rfl) ?_
    |refine zGx rfl 136 _ _ rfl (w.heap.size+1) _ rfl rfl _ _ Q.out (by rw[cI];kernel_rfl) (by rw[i,cI]) (cells_one _) ?_)
   refine zHe ?_ rfl ⟨rfl,?_⟩;{exact results_cell_row results76 _ _ (w.heap.size+1) _ _ _ _ rfl (Q.out.fN _) ((Qz.fH 136).trans underlying136) rfl (by rw[cI];kernel_rfl)};{exact dS g.out (by omega) _}
end Go.Proofs.Zq
namespace Go.Proofs
open Go.Shelf
def Qz.BG:Go.Shelf.Ren:=⟨λ|105=>97|212=>111|99=>112|165=>113|166=>114|170=>115|169=>116|263=>122|264=>123|206=>124|240=>125|241=>126|276=>131|277=>132|n=>n,λ|9=>9|3=>3|4=>4|20=>20|0=>0|46=>139|109=>174|5=>5|72=>178|76=>181|51=>135|146=>187|53=>122|148=>189|70=>176|37=>50|75=>180|127=>184|164=>191|80=>161|n=>n,λ|n=>n⟩
def Qz.Tc:Go.Proofs.Lays.n105 zq Qz.BG:={
 mixed:=by kernel_rfl
 f99:=(Qz.fn func112).trans (congrArg aA (by kernel_rfl))
 f105:=(Qz.fn func97).trans (congrArg aA (by kernel_rfl))
 f165:=(Qz.fn func113).trans (congrArg aA (by kernel_rfl))
 f166:=(Qz.fn func114).trans (congrArg aA (by kernel_rfl))
 f169:=(Qz.fn func116).trans (congrArg aA (by kernel_rfl))
 f170:=(Qz.fn func115).trans (congrArg aA (by kernel_rfl))
 f206:=(Qz.fn func124).trans (congrArg aA (by kernel_rfl))
 f212:=(Qz.fn func111).trans (congrArg aA (by kernel_rfl))
 f240:=(Qz.fn func125).trans (congrArg aA (by kernel_rfl))
 f241:=(Qz.fn func126).trans (congrArg aA (by kernel_rfl))
 f263:=(Qz.fn func122).trans (congrArg aA (by kernel_rfl))
 f264:=(Qz.fn func123).trans (congrArg aA (by kernel_rfl))
 f276:=(Qz.fn func131).trans (congrArg aA (by kernel_rfl))
 f277:=(Qz.fn func132).trans (congrArg aA (by kernel_rfl))
 t0:=((Qz.fH 0).trans Tryz.underlying0)
 a0:=(λw=>(Qz.isAgg w 0).trans (Tryz.isAgg0 w))
 z0:=(λw=>(Qz.sizeOf w 0).trans (Tryz.sizeOf0 w))
 v0:=(λw=>(Qz.zeroValue w 0).trans (Tryz.zeroValue0 w))
 t3:=((Qz.fH 3).trans Tryz.underlying3)
 a3:=(λw=>(Qz.isAgg w 3).trans (Tryz.isAgg3 w))
 z3:=(λw=>(Qz.sizeOf w 3).trans (Tryz.sizeOf3 w))
 v3:=(λw=>(Qz.zeroValue w 3).trans (Tryz.zeroValue3 w))
 t4:=((Qz.fH 4).trans Tryz.underlying4)
 a4:=(λw=>(Qz.isAgg w 4).trans (Tryz.isAgg4 w))
 z4:=(λw=>(Qz.sizeOf w 4).trans (Tryz.sizeOf4 w))
 v4:=(λw=>(Qz.zeroValue w 4).trans (Tryz.zeroValue4 w))
 t5:=((Qz.fH 5).trans Tryz.underlying5)
 a5:=(λw=>(Qz.isAgg w 5).trans (Tryz.isAgg5 w))
 z5:=(λw=>(Qz.sizeOf w 5).trans (Tryz.sizeOf5 w))
 v5:=(λw=>(Qz.zeroValue w 5).trans (Tryz.zeroValue5 w))
 t9:=((Qz.fH 9).trans Tryz.underlying9)
 a9:=(λw=>(Qz.isAgg w 9).trans (Tryz.isAgg9 w))
 z9:=(λw=>(Qz.sizeOf w 9).trans (Tryz.sizeOf9 w))
 v9:=(λw=>(Qz.zeroValue w 9).trans (Tryz.zeroValue9 w))
 t20:=((Qz.fH 20).trans Tryz.underlying20)
 a20:=(λw=>(Qz.isAgg w 20).trans (Tryz.isAgg20 w))
 z20:=(λw=>(Qz.sizeOf w 20).trans (Tryz.sizeOf20 w))
 v20:=(λw=>(Qz.zeroValue w 20).trans (Tryz.zeroValue20 w))
 t37:=((Qz.fH 50).trans Tryz.underlying50)
 a37:=(λw=>(Qz.isAgg w 50).trans (Tryz.isAgg50 w))
 z37:=(λw=>(Qz.sizeOf w 50).trans (Tryz.sizeOf50 w))
 v37:=(λw=>(Qz.zeroValue w 50).trans (Tryz.zeroValue50 w))
 t46:=((Qz.fH 139).trans Tryz.underlying139)
 a46:=(λw=>(Qz.isAgg w 139).trans (Tryz.isAgg139 w))
 z46:=(λw=>(Qz.sizeOf w 139).trans (Tryz.sizeOf139 w))
 v46:=(λw=>(Qz.zeroValue w 139).trans (Tryz.zeroValue139 w))
 t51:=((Qz.fH 135).trans Tryz.underlying135)
 a51:=(λw=>(Qz.isAgg w 135).trans (Tryz.isAgg135 w))
 z51:=(λw=>(Qz.sizeOf w 135).trans (Tryz.sizeOf135 w))
 v51:=(λw=>(Qz.zeroValue w 135).trans (Tryz.zeroValue135 w))
 t53:=((Qz.fH 122).trans Tryz.underlying122)
 a53:=(λw=>(Qz.isAgg w 122).trans (Tryz.isAgg122 w))
 z53:=(λw=>(Qz.sizeOf w 122).trans (Tryz.sizeOf122 w))
 v53:=(λw=>(Qz.zeroValue w 122).trans (Tryz.zeroValue122 w))
 t70:=((Qz.fH 176).trans Tryz.underlying176)
 a70:=(λw=>(Qz.isAgg w 176).trans (Tryz.isAgg176 w))
 z70:=(λw=>(Qz.sizeOf w 176).trans (Tryz.sizeOf176 w))
 v70:=(λw=>(Qz.zeroValue w 176).trans (Tryz.zeroValue176 w))
 t72:=((Qz.fH 178).trans Tryz.underlying178)
 a72:=(λw=>(Qz.isAgg w 178).trans (Tryz.isAgg178 w))
 z72:=(λw=>(Qz.sizeOf w 178).trans (Tryz.sizeOf178 w))
 v72:=(λw=>(Qz.zeroValue w 178).trans (Tryz.zeroValue178 w))
 t75:=((Qz.fH 180).trans Tryz.underlying180)
 a75:=(λw=>(Qz.isAgg w 180).trans (Tryz.isAgg180 w))
 z75:=(λw=>(Qz.sizeOf w 180).trans (Tryz.sizeOf180 w))
 v75:=(λw=>(Qz.zeroValue w 180).trans (Tryz.zeroValue180 w))
 t76:=((Qz.fH 181).trans Tryz.underlying181)
 a76:=(λw=>(Qz.isAgg w 181).trans (Tryz.isAgg181 w))
 z76:=(λw=>(Qz.sizeOf w 181).trans (Tryz.sizeOf181 w))
 v76:=(λw=>(Qz.zeroValue w 181).trans (Tryz.zeroValue181 w))
 t109:=((Qz.fH 174).trans Tryz.underlying174)
 a109:=(λw=>(Qz.isAgg w 174).trans (Tryz.isAgg174 w))
 z109:=(λw=>(Qz.sizeOf w 174).trans (Tryz.sizeOf174 w))
 v109:=(λw=>(Qz.zeroValue w 174).trans (Tryz.zeroValue174 w))
 t127:=((Qz.fH 184).trans Tryz.underlying184)
 a127:=(λw=>(Qz.isAgg w 184).trans (Tryz.isAgg184 w))
 z127:=(λw=>(Qz.sizeOf w 184).trans (Tryz.sizeOf184 w))
 v127:=(λw=>(Qz.zeroValue w 184).trans (Tryz.zeroValue184 w))
 t146:=((Qz.fH 187).trans Tryz.underlying187)
 a146:=(λw=>(Qz.isAgg w 187).trans (Tryz.isAgg187 w))
 z146:=(λw=>(Qz.sizeOf w 187).trans (Tryz.sizeOf187 w))
 v146:=(λw=>(Qz.zeroValue w 187).trans (Tryz.zeroValue187 w))
 t148:=((Qz.fH 189).trans Tryz.underlying189)
 a148:=(λw=>(Qz.isAgg w 189).trans (Tryz.isAgg189 w))
 z148:=(λw=>(Qz.sizeOf w 189).trans (Tryz.sizeOf189 w))
 v148:=(λw=>(Qz.zeroValue w 189).trans (Tryz.zeroValue189 w))
 t164:=((Qz.fH 191).trans Tryz.underlying191)
 a164:=(λw=>(Qz.isAgg w 191).trans (Tryz.isAgg191 w))
 z164:=(λw=>(Qz.sizeOf w 191).trans (Tryz.sizeOf191 w))
 v164:=(λw=>(Qz.zeroValue w 191).trans (Tryz.zeroValue191 w))}
def Qz.xZ:Builder.Extra zq Qz.BG:={
 sizeBuilder:=by kernel_rfl
 liesBuilder:=by kernel_rfl
 t5:=((Qz.fH 5).trans Tryz.underlying5)
 a5:=(λw=>(Qz.isAgg w 5).trans (Tryz.isAgg5 w))
 z5:=(λw=>(Qz.sizeOf w 5).trans (Tryz.sizeOf5 w))
 v5:=(λw=>(Qz.zeroValue w 5).trans (Tryz.zeroValue5 w))
 infoByte:=by kernel_rfl
 cellsByte:=by kernel_rfl
 sizeByte:=by kernel_rfl
 neB5:=by decide}
open Go.RowKit Go.Lib in
def Qz.strings_Repeat (s:ByteArray)(c:Nat)(w:zW)(h:c<=9223372036854775807)(hlen:s.size*c<=140737488355328):
  Calls zq 97 #[aL s,aC aD c] w λe a=>e=aM (aL ⟨(aE3 s.data.toList c).toArray⟩)/\zb w a:=Any.strings_Repeat Qz.Tc Qz.xZ s c w h hlen
end Go.Proofs
namespace Go.Proofs.Zq
open Go.RowKit Sha
def qS (m i:Nat):UInt8:=aE4 (m/2^(8*(7-i)))
def eight (m:Nat):zB:=(List.range 8).map (qS m)
def Gy (n):lS n=eight (8*n):=rfl
def ZC (m i):(m)/2^(8*(7-i))%256=((qS m i).toNat:Int):=by rw[qS,zFk,show(2:Nat)^8=256 from rfl,Int.natCast_emod,Int.natCast_ediv,mG];rfl
def nV (n t:Nat):zA:=((List.range 8).map λi=>Value.int aQ (if i<t then((qS n i).toNat:Int)else 0)).toArray
def pI (n t):(nV n t).size=8:=by simp[nV]
def mM (n t i)(h:i<8):(nV n t)[i]? =aA (aC aQ (if i<t then((qS n i).toNat:Int)else 0)):=by simp[nV,h]
def JG (n t):(nV n t).setIfInBounds t (aC aQ ((qS n t).toNat:Int))=nV n (t+1):=by
 apply zBz;intro i;rw[zBt,pI];by_cases h:i<8
 .rw[mM n (t+1) i h];by_cases e:t=i
  .subst e;simp[h]
  .rw[zAv e,mM n t i h];by_cases a:i<t
   .rw[zAz a,zAz (by omega)]
   .rw[zAv a,zAv (by omega)]
 .rw[zBq (by rw[pI];omega),zBq (by rw[pI];omega)];by_cases e:t=i
  .subst e;simp[h]
  .rw[zAv e]
def sT (n:Nat)(w):
  Calls zq 64 #[aC aR n] w λe d=>e=aM (aL ⟨(eight n).toArray⟩)/\zb w d:=by
 go_enter (Qz.fn func64),ntmps64;go_wp2;go_loopg [5] 8 (λq i wr=>∃t:Nat,t+q=8/\i=aC aD (t:Int)/\zb w wr/\cL wr w.heap.size 149 (nV n t));case atStart=>exact⟨0,rfl,rfl,(zGo _ _).alloc (zAb _) _,cL.new _ _ _⟩
 case round=>
  obtain⟨t,o,rfl,m,l⟩:=hrel
  have c:=hid m
  have B:=hid l
  by_cases bT:t<8
  .have k:wr.cell? ⟨w.heap.size,t,aB⟩=aA (aC aQ (if t<t then((qS n t).toNat:Int)else 0)):=by{rw[B.out.cell,mM _ _ _ bT]};rw[zAv (by omega)]at k;have p:wr.frozen? ⟨w.heap.size,t,aB⟩=aG:=B.out.frozen _;go_wp2;go_roundg (7-t);case measure=>omega
   case rel=>
    go_light
    have g:(n:Int)/2^(56-8*t)%256=((qS n t).toNat:Int):=by rw[<-ZC,show 56-8*t=8*(7-t) by omega]
    rw[g]
    refine⟨t+1,by omega,by go_num,c.out.setCell (zAb _) _,?_⟩
    have:=B.out.fM t (aC aQ ((qS n t).toNat:Int))
    rw[JG]at this
    exact this
  .obtain rfl:t=8:=by omega
   have a:Hid ((convert 50 9 (aK (aA ⟨w.heap.size,0,aB⟩) 8 8)).run zq wr= .ok (aL ⟨(eight n).toArray⟩) wr):=
    pC _ 50 9 5 w.heap.size 0 8 (eight n) ((Qz.fH 50).trans underlying50) ((Qz.fH 5).trans underlying5) ((Qz.fH 9).trans underlying9) (λj f=>by
     have h:j<8:=by simpa [eight]using f
     rw[zBd,B.out.cell,mM _ _ _ h,zAz h];simp[eight,h])
   have b:=a.out;go_wp2;go_ret;exact⟨rfl,c.out⟩
def SC (n:Nat)(w)(o:n<=140737488351232):
  Calls zq 77 #[aC aD n] w λe a=>e=aM (aL ⟨(behind n).toArray⟩)/\zb w a:=by
 have m:(64-((n:Int)+1+8)%64)%64=((zs n:Nat):Int):=by unfold zs;omega
 have H:Hid (∀w:zW,Calls zq 97 #[aL ⟨#[0]⟩,aC aD (zs n:Nat)] w λe a=>e=aM (aL ⟨(List.replicate (zs n) 0).toArray⟩)/\zb w a):=λw=>by
  have f:zs n<=63:=by unfold zs;omega
  have h:=Qz.strings_Repeat ⟨#[0]⟩ (zs n) w (by omega) (by show 1*zs n<=_;omega);have e:aE3 ([0]:zB) (zs n)=List.replicate (zs n) 0:=by have:=Lib.repeatL_replicate 0 1 (zs n);rwa [zDw]at this
  have j:=e;rw[j]at h;exact h
 have k:Hid (∀w:zW,Calls zq 64 #[aC aR ((n:Int)*8)] w λe a=>e=aM (aL ⟨(lS n).toArray⟩)/\zb w a):=λw=>by have h:=sT (8*n) w;rw[<-Gy,show((8*n:Nat):Int)=(n:Int)*8 by omega]at h;exact h
 have g:(List.replicate (zs n) (0:UInt8)).length<=63:=by rw[List.length_replicate];unfold zs;omega
 have i:(lS n).length=8:=by simp[lS]
 have d:Hid (behind n=128::(List.replicate (zs n) 0++lS n)):=rfl;generalize List.replicate (zs n) (0:UInt8)=Z at*;generalize lS n=L at*;go_enter (Qz.fn func77),ntmps77;go_wp2_with fail;refine(H.out _).mono ?_;rintro e w1 ⟨rfl,c⟩;have B:=hid c;go_wp2_with fail;refine(k.out _).mono ?_;rintro e w2 ⟨rfl,b⟩;have l:=hid b;go_wp2_with fail;go_ret;refine⟨congrArg aEZ (congrArg Value.string ?_),B.out.trans (l.out.mono B.out.size)⟩;rw[d.out];apply zFw;simp[zEj]
structure fD (w:zW):Prop where
 mF:Table 2 K w
 lt:0<w.heap.size
 iI:w.rangeAt 0 0 H0.cells.toList
def fD.below {w w':zW}{B:Nat}(h:fD w)(a:Below B w w')(b:w.heap.size<=B):fD w':=
 ⟨h.mF.below a b,zAd h.lt a.size,λj v c=>by rw[a.cell (p:=⟨_,_,aB⟩) (zAd h.lt b)];exact h.iI j v c⟩
def tC (k:Nat)(m)(w)(T:1<=k)(R:k<=32)(Q:m.size<=140737488351232)(z:fD w):
  Calls zq 53 #[aC aD k,aL m] w λe M=>e=aM (aL ⟨((Qe m.data.toList).take k).toArray⟩)/\zb w M:=by
 have C:=hid z;go_enter (Qz.fn func53),ntmps53;go_upto_region 2 with(first
  |refine wpList_load_mid rfl 136 _ rfl 0 0 rfl H0.cells.toList _ C.out.iI ((Qz.fH 136).trans underlying136) rfl (by kernel_rfl) ?_
  |refine zGx rfl 136 _ _ rfl w.heap.size H0.cells rfl rfl _ _ (cL.new w 136 #[aC aP 0,aC aP 0,aC aP 0,aC aP 0,aC aP 0,aC aP 0,aC aP 0,aC aP 0]) (by rw[cI];kernel_rfl) (by rw[cI];rfl) (cells_one _) ?_)
 have A:Hid (zb w ((w.alloc (aJ #[aC aP 0,aC aP 0,aC aP 0,aC aP 0,aC aP 0,aC aP 0,aC aP 0,aC aP 0] 136)).setRow w.heap.size H0.cells)):=dS ((zGo _ _).alloc (zAb _) _) (zAb _) _;have r:Hid (cL ((w.alloc (aJ #[aC aP 0,aC aP 0,aC aP 0,aC aP 0,aC aP 0,aC aP 0,aC aP 0,aC aP 0] 136)).setRow w.heap.size H0.cells) w.heap.size 136 H0.cells):=(cL.new w 136 _).fN _;generalize(w.alloc (aJ #[aC aP 0,aC aP 0,aC aP 0,aC aP 0,aC aP 0,aC aP 0,aC aP 0,aC aP 0] 136)).setRow w.heap.size H0.cells=wr at*;have z:=C.out.below A.out (zAb _);have x:=hid z;have K:=hid C;clear z C;simp only[Act.put];have n:Hid (m.data.toList.length=m.size):=by show _=_;simp
 have H:=Rj m.data.toList;rw[n.out]at H;have Z:=hid H;clear H;have O:m.size-m.size%64<=m.size:=by omega
 have N:(m.size:Int)-(m.size:Int)%64=((m.size-m.size%64:Nat):Int):=by omega
 have Y:Hid ((m.size-m.size%64)/64=m.size/64):=by show _=_;omega
 have X:Hid (m.size-(m.size-m.size%64)=m.size%64):=by show _=_;omega
 generalize m.size-m.size%64=b at*;have j:Hid (∀(d:Nat)(os:zJ),Calls zq 76 #[.agg H0.cells,aL (m.extract 0 b)] (Go.Sort.grow (redrawn wr d) os) λe c=>e=aM (.agg (dI H0 (m.data.toList.take b) (m.size/64)).cells)/\∃p:Regrown,c=Go.Sort.grow (redrawn wr p.d) p.os):=λd os=>by have h:=uK H0 (m.extract 0 b) (Go.Sort.grow (redrawn wr d) os) (x.out.below (zGv wr d os) (zAb _)).mF (by simp;omega);have G:(m.extract 0 b).data.toList=m.data.toList.take b:=by{rw[kK,zEu]};have F:(m.extract 0 b).size/64=m.size/64:=by{rw[<-Y.out];simp;omega};rw[G,F]at h;exact aEY h
 go_wp2;refine Tail.uS 5 (by kernel_rfl) (by kernel_rfl) ?_;simp only[zFe,zFm,zFh,zEu];refine nJ rfl 136 _ rfl w.heap.size rfl 136 H0.cells _ (λW E=> ?_) ((Qz.fH 136).trans underlying136) rfl (by rw[cI];kernel_rfl) ?_
 .obtain⟨p,rfl⟩:=E;exact r.out.below (zGv wr p.d p.os) r.out.lt
 simp only[Act.put,zBr,zDg,zCy];repeat (any_goals(first|go_big_quiet_step ((exact j.out _ _))|quiet_step ((exact j.out _ _))))
 refine wpQuiet_nil ?_;intro t f;obtain⟨p,l⟩:=f;have g:Hid (zb wr t):=by rw[l];exact zGv wr p.d p.os
 clear l j;have q:=hid (r.out.below g.out r.out.lt);generalize dI H0 (m.data.toList.take b) (m.size/64)=S1 at*;go_upto_region 4 with(refine zGx rfl 136 _ _ rfl w.heap.size _ rfl rfl _ _ q.out (by rw[cI];kernel_rfl) (by rw[cI,cI]) (cells_one _) ?_)
 have c1:Hid (zb w (t.setRow w.heap.size S1.cells)):=dS (A.out.trans (g.out.mono A.out.size)) (zAb _) _;have c2:Hid (cL (t.setRow w.heap.size S1.cells) w.heap.size 136 S1.cells):=q.out.fN _;have v:Hid (fD (t.setRow w.heap.size S1.cells)):=K.out.below c1.out (zAb _);generalize t.setRow w.heap.size S1.cells=a at*;clear A r g q x;simp only[Act.put];have U:(behind m.size).length<=72:=by rw[pK];unfold zs;omega
 have J:Hid ((behind m.size).length=9+zs m.size):=pK m.size;have I:Hid (∀(d:Nat)(os:zJ),Calls zq 77 #[aC aD (m.size:Nat)] (Go.Sort.grow (redrawn a d) os) λe c=>e=aM (aL ⟨(behind m.size).toArray⟩)/\∃p:Regrown,c=Go.Sort.grow (redrawn a p.d) p.os):=λd os=>aEY (SC m.size _ Q);generalize behind m.size=B at*;have o:(⟨B.toArray⟩:ByteArray).size=B.length:=by simp[aEV]
 have y:=hid o;clear o;have i:Hid (∀(d:Nat)(os:zJ),Calls zq 76 #[.agg S1.cells,aL (m.extract b m.size++⟨B.toArray⟩)] (Go.Sort.grow (redrawn a d) os) λe c=>e=aM (.agg (dI S1 (m.data.toList.drop b++B) ((m.size%64+9+zs m.size)/64)).cells)/\∃p:Regrown,c=Go.Sort.grow (redrawn a p.d) p.os):=λd os=>by
  have h:=uK S1 (m.extract b m.size++⟨B.toArray⟩) (Go.Sort.grow (redrawn a d) os) (v.out.below (zGv a d os) (zAb _)).mF (by rw[aEW,y.out];simp;omega);have G:(m.extract b m.size++⟨B.toArray⟩).data.toList=m.data.toList.drop b++B:=by rw[zEj,Array.toList_append,kK,zCx (by rw[n.out];omega)]
  have F:(m.extract b m.size++⟨B.toArray⟩).size=m.size%64+9+zs m.size:=by rw[<-X.out,zCh,<-J.out,aEW,y.out];simp
  rw[G,F]at h;exact aEY h
 refine Tail.uS 9 (by kernel_rfl) (by kernel_rfl) ?_;simp only[zFe,zFm,zFh,zEu];refine nJ rfl 136 _ rfl w.heap.size rfl 136 S1.cells _ (λW E=> ?_) ((Qz.fH 136).trans underlying136) rfl (by rw[cI];kernel_rfl) ?_
 .obtain⟨p,rfl⟩:=E;exact c2.out.below (zGv a p.d p.os) c2.out.lt
 simp only[Act.put,zBr,zDg,zCy];repeat (any_goals(first|go_big_quiet_step ((first|(go_at_call 77;exact I.out _ _)|(go_at_call 76;exact i.out _ _)))|quiet_step ((first|(go_at_call 77;exact I.out _ _)|(go_at_call 76;exact i.out _ _)))))
 refine wpQuiet_nil ?_;intro s f;obtain⟨p,l⟩:=f;have g:Hid (zb a s):=by rw[l];exact zGv a p.d p.os
 clear l I i;have q:Hid (cL s w.heap.size 136 S1.cells):=c2.out.below g.out c2.out.lt;generalize dI S1 (m.data.toList.drop b++B) ((m.size%64+9+zs m.size)/64)=S at*;go_upto_region 5 with(refine zGx rfl 136 _ _ rfl w.heap.size _ rfl rfl _ _ q.out (by rw[cI];kernel_rfl) (by rw[cI,cI]) (cells_one _) ?_)
 have d1:Hid (zb w (s.setRow w.heap.size S.cells)):=dS (c1.out.trans (g.out.mono c1.out.size)) (zAb _) _;have V:Hid (cL (s.setRow w.heap.size S.cells) w.heap.size 136 S.cells):=q.out.fN _;generalize s.setRow w.heap.size S.cells=L at*;clear c1 c2 g q v;simp only[Act.put];have P:(fP S).length=32:=rL S;have u:Hid (Value.string (aEX ⟨(fP S).toArray⟩ 0 k)=Value.string ⟨((Qe m.data.toList).take k).toArray⟩):=by show _=_;rw[Z.out];congr 1;apply zFw;simp[aET]
 go_wp2_with (first
  |refine zGw rfl 136 _ rfl w.heap.size rfl _ _ _ _ V.out ((Qz.fH 136).trans underlying136) rfl (by rw[cI];kernel_rfl) ?_
  |(go_at_call 78;refine(Hf S _).mono ?_;rintro e w5 ⟨rfl,D⟩))
 go_ret;exact⟨congrArg aEZ u.out,d1.out.trans (D.mono d1.out.size)⟩
def pW (l:zB):Nat->List (BitVec 32)
 |0=>((List.range 16).map (CZ l)).reverse
 |n+1=>(s1 ((pW l n).getD 1 0)+(pW l n).getD 6 0+s0 ((pW l n).getD 14 0)+(pW l n).getD 15 0)::pW l n
def Gu (l):∀n i,i<16+n->(pW l n).getD i 0=sched l n (15+n-i):=by
 intro n;induction n with
 |zero=>intro i hi;have h:i=0\/i=1\/i=2\/i=3\/i=4\/i=5\/i=6\/i=7\/i=8\/i=9\/i=10\/i=11\/i=12\/i=13\/i=14\/i=15:=by{omega};obtain rfl|rfl|rfl|rfl|rfl|rfl|rfl|rfl|rfl|rfl|rfl|rfl|rfl|rfl|rfl|rfl:=h<;>rfl
 |succ n a=>
  intro i hi;cases i with
  |zero=>show _=put (sched l n) (16+n) _ (15+(n+1)-0);rw[show 15+(n+1)-0=16+n from by omega,Kz,pW,List.getD_cons_zero,a 1 (by omega),a 6 (by omega),a 14 (by omega),a 15 (by omega),show 15+n-1=16+n-2 from by omega,show 15+n-6=16+n-7 from by omega,show 15+n-14=16+n-15 from by omega,show 15+n-15=16+n-16 from by omega]
  |succ i=>rw[pW,List.getD_cons_succ,a i (by omega)];show _=put (sched l n) (16+n) _ (15+(n+1)-(i+1));rw[show 15+(n+1)-(i+1)=15+n-i from by omega,put,zAv (by omega)]
def wM:List (BitVec 32×BitVec 32)->R8->R8
 |[],s=>s
 |(k,w)::r,s=>wM r (s.step k w)
def NG (p)(k w:BitVec 32):∀s,wM (p++[(k,w)]) s=(wM p s).step k w:=by
 induction p with
 |nil=>intro s;rfl
 |cons a p i=>intro s;obtain⟨c,b⟩:=a;exact i _
def WI (k ws)(s:R8):∀n,R8.steps k ws n s=wM ((List.range n).map λt=>(k t,ws t)) s:=by
 intro n;induction n with
 |zero=>rfl
 |succ n i=>rw[R8.steps,i,List.range_succ,zDk];exact(NG _ _ _ _).symm
def OB (l:zB)(s:R8):R8:=s.plus (wM ((TH.map (aEG 32)).zip (pW l 48).reverse) s)
def mL (l):∀n,(pW l n).length=16+n:=by
 intro n;induction n with
 |zero=>rfl
 |succ n i=>rw[pW,zAf,i];omega
def VS (l):(TH.map (aEG 32)).zip (pW l 48).reverse=(List.range 64).map λt=>(K t,sched l 48 t):=by
 apply List.ext_getElem
 .simp[TH,mL]
 .intro t d c;have a:t<64:=by simpa using c
  have b:(pW l 48).reverse[t]'(by rw[List.length_reverse,mL];omega)=sched l 48 t:=by have h:=Gu l 48 (63-t) (by omega);rw[List.getElem_reverse];simp only[mL];rw[zDp,zAi (by rw[mL];omega)]at h;rw[show 15+48-(63-t)=t from by omega]at h;simp only[zCv]at h;rw[<-h]
  rw[List.getElem_zip,List.getElem_map,List.getElem_map,List.getElem_range,b];congr 1;rw[K,zDp,zAi (by show t<64;exact a)];rfl
def Lp (l)(s:R8):s.mix K (sched l 48)=OB l s:=by rw[R8.mix,OB,VS,WI]
def Ed (l)(h:(qM l).length=64):Qe l=fP (OB (qM l) H0):=by rw[Qe,h];show fP (R8.mix K (sched (blk (qM l) 0) 48) H0)=_;rw[Lp,blk,Nat.mul_zero,zEu,zCx (by omega)]
def Rl:Qe [97,98,99]=[186,120,22,191,143,1,207,234,65,65,64,222,93,174,34,35,176,3,97,163,150,23,122,156,180,16,255,97,242,0,21,173]:=by rw[Ed _ (by decide+kernel)];decide+kernel
def gu (k:Nat)(l:zB):ByteArray:=⟨((Qe l).take k).toArray⟩
def BI (n)(w)(b:1<=n)(h:n<=32):Calls zq 52 #[aC aD n] w λe a=>e=aM (.bool aF)/\a=w:=by go_enter (Qz.fn func52),ntmps52;go_wp2;go_ret;exact⟨by simp,rfl⟩
def ZE (k:Nat)(m)(w)(b:1<=k)(h:k<=32)(c:m.size<=140737488351232)(d:fD w):
  Calls zq 33 #[aC aD k,aL m] w λe a=>e=aM (.tuple #[aL (gu k m.data.toList),aC aD 0])/\zb w a:=by
 have H:=hid d;go_enter (Qz.fn func33),ntmps33;go_wp2_with (first
  |(go_at_call 52;refine(BI _ _ (by omega) (by omega)).mono ?_;rintro e a ⟨rfl,rfl⟩)
  |(go_at_call 53;refine(tC k m _ b h c H.out).mono ?_;rintro e a ⟨rfl,hb⟩))
 go_ret2;exact⟨rfl,hb⟩
def Nx:gu 2 [97,98,99]=⟨#[186,120]⟩:=by rw[gu,Rl];rfl
def eD (l:zB)(k:Nat):Nat:=(l.getD (k/8) 0).toNat/2^(7-k%8)%2
def byte_at (s:ByteArray)(i)(h:i<s.size):s[i]=s.data.toList.getD i 0:=by
 show s.data[i]=_;have hi:i<s.data.toList.length:=by simpa using h
 rw[zDp,zAi hi];simp
def rA (l)(k):eD l k=0\/eD l k=1:=by unfold eD;omega
def dg (k:Nat)(l:zB):zB:=(Qe l).take k
def tP (k)(l)(h:k<=32):(dg k l).length=k:=by rw[dg,zBf,WZ];omega
def rK {P:zZ}{fn:Func}{p q:Tmp}{ty:zD}(h:fn.results= #[.cell p ty,.tmp q])(tmps:zA)(w:zW)(g:Nat)(t:zD)(cs:zA)(fr:Nat×Nat)(d:TypeDesc)
  (f:tmps.getD p undef=aO (aA ⟨g,0,aB⟩)) (i:w.heap[g]? =aA (aJ cs t fr))
  (e:P.underlying ty=aA d) (j:(match d with| .struct _| .array _ _=>aF|_=>aG)=aF) (hi:(P.info? ty).map (·.size)=aA cs.size) (v:zY) (c:tmps.getD q undef=v):
  (results fn tmps).run P w= .ok (.tuple #[.agg cs,v]) w:=by
 have b:tmps[p]?.getD undef=aO (aA ⟨g,0,aB⟩):=by simpa using f
 have a:tmps[q]?.getD undef=v:=by simpa using c
 simp[results,h,b,a,asAddr,run_loadVar_row w g t ty cs fr d i e j hi]
def FO (s)(i:Nat)(hi:i<s.size)(W):(Instr.index 9 (aL s) (aC aD (i))).run zq W= .ok (aC aQ ((s.data.toList.getD i 0).toNat:Int)) W:=by rw[run_index_string W 9 s aD i ((Qz.fH 9).trans underlying9),dif_pos ⟨by omega,by omega⟩];have e:=zGk i;simp only[e];rw[byte_at s i hi]
def dF:zA:= #[aC aD 0,aL ⟨#[]⟩]
def kA (n:Nat)(l:zB):zA:= #[aC aD (n:Int),aL ⟨l.toArray⟩]
abbrev oW:=zB×zB
def dG (l:List oW)(d b:Nat):List oW:=l.filter λe=>eD e.1 d==b
def FH (k:Nat)(e:oW):zB:=1::(e.1++dg k (4::e.2))
def DG (k:Nat):Nat->List oW->Nat->zB
 |0,[],_=>[0]
 |0,e::_,_=>FH k e
 |_+1,[],_=>[0]
 |_+1,[e],_=>FH k e
 |f+1,a::b::l,d=>2::(dg k (DG k f (dG (a::b::l) d 0) (d+1))++dg k (DG k f (dG (a::b::l) d 1) (d+1)))
def mE (k:Nat)(l:List oW)(d:Nat):zB:=dg k (DG k (256-d) l d)
def Cp {a b}(f:a.length=32)(c:b.length=32)(h:∀i,i<256->eD a i=eD b i):a=b:=by
 have H:∀x:Fin 256,x.val=x.val/2^7%2*128+x.val/2^6%2*64+x.val/2^5%2*32+x.val/2^4%2*16+x.val/2^3%2*8+x.val/2^2%2*4+x.val/2^1%2*2+x.val/2^0%2:=by decide+kernel
 apply List.ext_getElem (by omega);intro n s p;have c:∀r,r<8->a[n].toNat/2^(7-r)%2=b[n].toNat/2^(7-r)%2:=λr t=>by have:=h (8*n+r) (by omega);unfold eD at this;rw[show(8*n+r)/8=n by omega,show(8*n+r)%8=r by omega]at this;rw[zDp,zAi s,zDp,zAi p]at this;exact this
 have e:a[n].toNat=b[n].toNat:=by have f:=H ⟨a[n].toNat,a[n].toNat_lt⟩;have d:=H ⟨b[n].toNat,b[n].toNat_lt⟩;have q0:=c 0 (by omega);have o:=c 1 (by omega);have m:=c 2 (by omega);have l:=c 3 (by omega);have k:=c 4 (by omega);have j:=c 5 (by omega);have g:=c 6 (by omega);have q:=c 7 (by omega);simp only[Nat.sub_zero,Nat.reduceSub]at q0 o m l k j g q f d;rw[f,d,q0,o,m,l,k,j,g,q]
 exact UInt8.toNat_inj.1 e
def eK (l:List oW)(I:zB):Option (zB):=(l.find? λe=>e.1==I).map (·.2)
def eM {l I}(h:∀e∈l,e.1≠I):eK l I=aB:=by unfold eK;rw[List.find?_eq_none.2 (λe a=>by simpa using h e a)];rfl
def Og (y r:Nat)(h:y<256)(a:r<8):(bits .and aQ ((y)*2^r%256) 128 !=0)=decide (y/2^(7-r)%2=1):=by
 have H:∀y:Fin 256,∀r:Fin 8,(bits .and aQ ((y.val:Int)*2^r.val%256) 128 !=0)=decide (y.val/2^(7-r.val)%2=1):=by decide+kernel
 exact H ⟨y,h⟩ ⟨r,a⟩
def EW (s)(k:Nat)(w)(b:k/8<s.size)(hs:s.size<=9223372036854775807)(h:k<=4611686018427387904):
  Calls zq 82 #[aL s,aC aD k] w λe a=>e=aM (.bool (decide (eD s.data.toList k=1)))/\a=w:=by
 go_enter (Qz.fn func82),ntmps82;go_wp2;have c:Hid (decide (eD s.data.toList k=1)=(bits .and aQ ((s[k/8].toNat:Int)*2^(k%8)%256) 128 !=0)):=by show _=_;rw[Og _ _ s[k/8].toNat_lt (zGj _ (by omega)),byte_at s (k/8) b,eD]
 rw[c.out];go_ret;exact⟨rfl,rfl⟩
def UU (d:Nat)(w)(h:d<=65536):Calls zq 80 #[aC aD d] w λe a=>e=aM (aC aD (((d+7)/8:Nat):Int))/\a=w:=by go_enter (Qz.fn func80),ntmps80;go_wp2;go_ret;exact⟨by rw[Int.natCast_ediv];rfl,rfl⟩
def uR (w):Calls zq 98 #[] w λe a=>e=aM (aL ⟨#[0]⟩)/\a=w:=by go_enter (Qz.fn func98),ntmps98;go_wp2;go_ret;exact⟨rfl,rfl⟩
def JM (a)(w)(h:a.size<=1000):Calls zq 133 #[aL a] w λe b=>e=aM (aL ⟨(4::a.data.toList).toArray⟩)/\b=w:=by
 have e:Hid ((⟨#[4]⟩:ByteArray)++a=⟨(4::a.data.toList).toArray⟩):=by apply zFw;apply zDx.1;simp[zEj]
 go_enter (Qz.fn func133),ntmps133;go_wp2;rw[e.out];go_ret;exact⟨rfl,rfl⟩
def PC (a b)(w)(h:a.size<=1000)(d:b.size<=1000):Calls zq 127 #[aL a,aL b] w λe c=>e=aM (aL ⟨(1::(a.data.toList++b.data.toList)).toArray⟩)/\c=w:=by
 have e:Hid ((⟨#[1]⟩:ByteArray)++a++b=⟨(1::(a.data.toList++b.data.toList)).toArray⟩):=by apply zFw;apply zDx.1;simp[zEj]
 go_enter (Qz.fn func127),ntmps127;go_wp2;rw[e.out];go_ret;exact⟨rfl,rfl⟩
def OY (a b)(w)(h:a.size<=1000)(d:b.size<=1000):Calls zq 118 #[aL a,aL b] w λe c=>e=aM (aL ⟨(2::(a.data.toList++b.data.toList)).toArray⟩)/\c=w:=by
 have e:Hid ((⟨#[2]⟩:ByteArray)++a++b=⟨(2::(a.data.toList++b.data.toList)).toArray⟩):=by apply zFw;apply zDx.1;simp[zEj]
 go_enter (Qz.fn func118),ntmps118;go_wp2;rw[e.out];go_ret;exact⟨rfl,rfl⟩
def ML (k:Nat)(w)(b:1<=k)(a:k<=32)(d:fD w):
  Calls zq 79 #[aC aD k] w λe c=>e=aM (aL ⟨(dg k [0]).toArray⟩)/\zb w c:=by
 have H:=hid d;go_enter (Qz.fn func79),ntmps79;go_wp2_with fail;refine(uR w).mono ?_;rintro e w2 ⟨rfl,h⟩;obtain rfl:w=w2:=h.symm;go_wp2_with fail;refine(tC k ⟨#[0]⟩ w b a (by decide) H.out).mono ?_;rintro e w3 ⟨rfl,hb⟩;have f:=hid hb;go_wp2;go_ret;exact⟨rfl,f.out⟩
def Ia (k:Nat)(a)(w)(c:1<=k)(b:k<=32)(d:a.size<=1000)(i:fD w):
  Calls zq 128 #[aC aD k,aL a] w λe f=>e=aM (aL ⟨(dg k (4::a.data.toList)).toArray⟩)/\zb w f:=by
 have j:=hid i;go_enter (Qz.fn func128),ntmps128;go_wp2_with fail;refine(JM a w d).mono ?_;rintro e w2 ⟨rfl,h⟩;obtain rfl:w=w2:=h.symm;have hl:(4::a.data.toList).length<=1001:=by simp;exact d
 generalize g:4::a.data.toList=Y at*;have H:=hid g;go_wp2_with fail;refine(tC k ⟨Y.toArray⟩ w c b (by show Y.length<=_;omega) j.out).mono ?_;rintro e w3 ⟨rfl,hb⟩;have l:=hid hb;go_wp2;go_ret;exact⟨by rw[<-H.out];rfl,l.out⟩
def bR {B w w1 w2}(h:Below B w w1)(b:zb w1 w2)(a:B<=w1.heap.size):Hid (Below B w w2):=h.trans (b.mono a)
def gX:zA:= #[aC aD 0,aC aD 0,aK aB 0 0,aL ⟨#[]⟩,aL ⟨#[]⟩,aL ⟨#[]⟩]
end Go.Proofs.Zq
