import Derived.Test.YtghpcgagijhlaaaGreatDoorRows
import Derived.Deep.RegionWith
import Derived.WalkSpells
import Derived.WalkLawsBesides
import Derived.Lib.ConvBytes
import Derived.Deep.MidRow
import Derived.Shelf.Strings.Repeat
import Derived.Test.YtghpcgagijhlaaaGreatDoorProg
import Derived.Deep.CutRange
import Derived.Deep.RegionHeld3
import Derived.Deep.DrawnRows
import Derived.Deep.AppendLies
import Derived.Deep.RegionLaw
import Derived.WalkMore
import Derived.ScopeJumps
import Derived.Test.YtghpcgagijhlaaaGreatDoorG06
set_option linter.all false
set_option maxRecDepth 100000
set_option maxHeartbeats 16000000
open Option renaming some->aA,none->aB
open Bool renaming true->aF,false->aG
open Or renaming inr->aI
open Go.Ending renaming returned->aM
open Go.Obj renaming cells->aJ
open Go.IntKind renaming i64->aD,u32->aP,u64->aR,u8->aQ
open Go.Value renaming slice->aK,string->aL,pointer->aO,int->aC
open BitVec renaming ofNat->GU
open ByteArray renaming data_extract->aMU,data_append->aMV,size->aMW,size_append->aMX,extract->aMY
open Go.Addr renaming add->ML
open Go.Calls renaming quiet_of->Mb,regrown_of->Ma
open Go.Ending renaming returned->Nq
open Go.IntKind renaming wrap_u8'->Np
open Go.Lib renaming bytesWorld->Gb,bytesWorld_size->Ob,bytesWorld_at_old->Oa,run_convert_string_bytes->aM7,bytesCells->OM,repeatL->aM9
open Int renaming natCast_emod->My,natCast_ediv->aNa
open UInt8 renaming ofNat->Dw
open Go.Proofs.Tryz
open List renaming length->zAH,toArray->zAL
open Array renaming setIfInBounds->zAI,toList->zAM
open Go.World renaming setCell->zAJ,alloc->zAK
section
variable {P:Prop}
def C9(h:P:=by simp[Value.oneCell']):=h
def G0(h:P:=by simp only[V,Me];exact bm):=h
def I6(h:P:=by rw[D3.out.cell,gI _ _ _ bm]):=h
def I8(h:P:=by rw[C.out.cell,gI _ _ _ bm]):=h
def P8(h:P:=by exact⟨z,y,(r.drewN nq).cB _ _ j0⟩):=h
def Q6(h:P:=by unfold fV;exact ji):=h
def X6(h:P:=by go_wp2;go_ret;exact⟨rfl,c.out⟩):=h
def Z3(h:P:=by unfold wrap64;exact bm):=h
def Z4(h:P:=by go_wp2;rw[e.out];go_ret;exact j1):=h
def j6(h:P:=by rw[size_alloc];exact bm):=h
def j7(h:P:=by simp only[maxLen];exact bm):=h
def s9(h:P:=by rw[cZ];exact c9):=h
def zAF(h:P:=by decide+kernel):=h
def zAG(h:P:=by go_enter (Qz.fn func52),ntmps52;go_wp2;go_ret;exact j1):=h
end
namespace Go.Proofs.Zq
open Go.RowKit Sha
def AL {k a b}(h:a=b):Nq (.int k a)=aM (.int k b):=by rw[h]
def cn (x:BitVec 32)(n:Nat)(w)(h:1<=n)(c:n<=31): Calls zq 130 #[aC aP (V x),aC aD (-(n))] w λe a=>e=aM (aC aP (V (oD x n)))/\a=w:=by have b:=by{have:∀n:Fin 32,1<=n.val->bits .and aR (IntKind.u64.wrap (-(n.val:Int))) 31=((32-n.val:Nat):Int):=j2;exact this ⟨n,bm⟩ h};go_enter (Qz.fn func130),ntmps130;go_wp2;go_ret;exact⟨AL (by rw[show 32-(32-n)=n from bm];exact cm x n),rfl⟩
def kG (x:BitVec 32)(n:Nat)(m:Int)(w)(h:m=n)(c:1<=n)(b:n<=31): Calls zq 121 #[aC aP (V x),m] w λe a=>e=aM (aC aP (V (oD x n)))/\a=w:=by subst h;go_enter (Qz.fn func121),ntmps121;go_wp2_with (go_at_call 130;refine(cn x n _ c b).mono ?_;rintro e a ⟨rfl,rfl⟩);go_ret;exact j1
attribute [local go_sem] V_xor V_shr V64_xor
def se (x:BitVec 32)(w): Calls zq 108 #[aC aP (V x)] w λe a=>e=aM (aC aP (V (S0 x)))/\a=w:=by go_enter (Qz.fn func108),ntmps108;go_wp2_with fail;refine(kG x 2 _ _ rfl bm bm).mono ?_;rintro e a ⟨rfl,rfl⟩;go_wp2_with fail;refine(kG x 13 _ _ rfl bm bm).mono ?_;rintro e a ⟨rfl,rfl⟩;go_wp2_with fail;refine(kG x 22 _ _ rfl bm bm).mono ?_;rintro e a ⟨rfl,rfl⟩;go_wp2;go_ret;exact W5
def ry (x:BitVec 32)(w): Calls zq 107 #[aC aP (V x)] w λe a=>e=aM (aC aP (V (S1 x)))/\a=w:=by go_enter (Qz.fn func107),ntmps107;go_wp2_with fail;refine(kG x 6 _ _ rfl bm bm).mono ?_;rintro e a ⟨rfl,rfl⟩;go_wp2_with fail;refine(kG x 11 _ _ rfl bm bm).mono ?_;rintro e a ⟨rfl,rfl⟩;go_wp2_with fail;refine(kG x 25 _ _ rfl bm bm).mono ?_;rintro e a ⟨rfl,rfl⟩;go_wp2;go_ret;exact W5
def nz (x:BitVec 32)(w): Calls zq 110 #[aC aP (V x)] w λe a=>e=aM (aC aP (V (s0 x)))/\a=w:=by go_enter (Qz.fn func110),ntmps110;go_wp2_with fail;refine(kG x 7 _ _ rfl bm bm).mono ?_;rintro e a ⟨rfl,rfl⟩;go_wp2_with fail;refine(kG x 18 _ _ rfl bm bm).mono ?_;rintro e a ⟨rfl,rfl⟩;go_wp2;go_ret;exact⟨AL (by rw[Yx,V_xor];rfl),rfl⟩
def Tu (x:BitVec 32)(w): Calls zq 109 #[aC aP (V x)] w λe a=>e=aM (aC aP (V (s1 x)))/\a=w:=by go_enter (Qz.fn func109),ntmps109;go_wp2_with fail;refine(kG x 17 _ _ rfl bm bm).mono ?_;rintro e a ⟨rfl,rfl⟩;go_wp2_with fail;refine(kG x 19 _ _ rfl bm bm).mono ?_;rintro e a ⟨rfl,rfl⟩;go_wp2;go_ret;exact⟨AL (by rw[iw,V_xor];rfl),rfl⟩
def sH (x:BitVec 32)(n:Nat)(w:zW)(b:1<=n)(h:n<=31): Calls zq 120 #[aC aR (V x),n] w λe a=>e=aM (aC aR (V (oD x n)))/\∃k,a=w.drewN k:=by go_enter (Qz.fn func120),ntmps120;go_wp2;go_quiet (fail);go_wp2;go_ret;exact⟨AL (Yy x n bm),nq,rfl⟩
def QO (x:BitVec 32)(a b c:Nat)(w:zW)(f:1<=a/\a<=31)(d:1<=b/\b<=31)(h:1<=c/\c<=31): Calls zq 105 #[aC aR (V x),a,b,c] w λe g=>e=aM (aC aR (V (oD x a^^^oD x b^^^oD x c)))/\∃k,g=w.drewN k:=by go_enter (Qz.fn func105),ntmps105;go_wp2_with fail;refine(sH x a _ f.1 f.2).mono ?_;rintro e w1 ⟨rfl,k1,rfl⟩;go_wp2_with fail;refine(sH x b _ d.1 d.2).mono ?_;rintro e w1 ⟨rfl,k2,rfl⟩;go_wp2_with fail;refine(sH x c _ h.1 h.2).mono ?_;rintro e w1 ⟨rfl,i,rfl⟩;go_wp2;go_ret;exact⟨rfl,_,rfl⟩
def LI (x:BitVec 32)(a b c:Nat)(w:zW)(l:1<=a/\a<=31)(g:1<=b/\b<=31)(m:c<=31): Calls zq 104 #[aC aR (V x),a,b,c] w λe d=>e=aM (aC aR (V (oD x a^^^oD x b^^^x>>>c)))/\∃k,d=w.drewN k:=by go_enter (Qz.fn func104),ntmps104;go_wp2;let⟨j,i⟩:=l;let⟨f,h⟩:=g;go_quiet ((refine Mb (sH x _ _ ?_ ?_)<;>omega));go_wp2;go_ret;exact⟨rfl,nq,rfl⟩
open Go Go.RowKit
def hid {p:Prop}(h:p):Hid p:=h
def bT (w:zW)(g:Nat)(t:zD)(cs:zA):Prop:=w.heap[g]? =aA (aJ cs t (0,0))
theorem bT.cell {w g t cs}(h:bT w g t cs)(i):w.cell? ⟨g,i,aB⟩=cs[i]? :=Eh w g i cs t (0,0) h
def bT.frozen {w g t cs}(h:bT w g t cs)(i):w.frozen? ⟨g,i,aB⟩=aG:=by unfold bT at h;simp[World.frozen?,h]
theorem bT.lt {w g t cs}(h:bT w g t cs):g<w.heap.size:=(Ax.1 h).1
def bT.drewN {w g t cs}(h:bT w g t cs)(n):bT (w.drewN n) g t cs:=h
theorem bT.new (w:zW)(t)(cs):bT (zAK w (aJ cs t)) w.heap.size t cs:=Ei w _
def bT.alloc {w g t cs}(h:bT w g t cs)(o):bT (zAK w o) g t cs:=by unfold bT;rw[Below.heap_alloc w o g h.lt];exact h
theorem bT.below {w w' B g t cs}(h:bT w g t cs)(b:Below B w w')(a:g<B):bT w' g t cs:=by unfold bT;rw[b.block g a];exact h
theorem bT.bR {w g t cs}(h:bT w g t cs)(i)(v):bT (zAJ w (g,i) v) g t (zAI cs i v):=by unfold bT at*;simp only[zAJ,Ly,Cx,h];rfl
theorem bT.cB {w g t cs}(h:bT w g t cs)(a)(v)(b:g≠a.block):bT (zAJ w a v) g t cs:=by unfold bT;rw[Du w a v g b];exact h
theorem lV (w:zW)(g k)(cs)(h:k≠g):(w.setRow g cs).heap[k]? =w.heap[k]? :=by simp only[World.setRow,Ly];exact ji
def bT.gH {w g t cs}(h:bT w g t cs)(cs'):bT (w.setRow g cs') g t cs':=setRow_heap w g cs cs' t _ h
theorem bT.kX {w g b t cs}(h:bT w g t cs)(cs')(a:g≠b):bT (w.setRow b cs') g t cs:=by unfold bT;rw[lV w b g cs' a];exact h
def size_setRow (w:zW)(g:Nat)(cs:zA):(w.setRow g cs).heap.size=w.heap.size:=j1
def size_setCell (w:zW)(a)(v):(zAJ w a v).heap.size=w.heap.size:=j1
theorem size_alloc (w:zW)(o):(zAK w o).heap.size=w.heap.size+1:=j0
theorem eH {B:Nat}{a w:zW}(h:Below B a w){g:Nat}(b:B<=g)(cs:zA):Below B a (w.setRow g cs):=h.trans ⟨rfl,rfl,rfl,j1,by grind[lV]⟩
def below_drewN {B a w}(h:Below B a w)(n):Below B a (w.drewN n):=⟨h.os,h.tape,h.output,h.size,h.block⟩
def qG (w)(e)(s):zb w (Gb w e s):=by refine⟨?_,?_,?_,by grind[Ob],by grind[Oa]⟩;all_goals unfold Gb World.freeze;rw[AF j2];rfl
def Ul (l:zB):∀s:ByteArray,((l.map λb=>(b.toNat:Int)).foldl (λr n=>r.push (Dw n.toNat)) s)=⟨s.data++zAL l⟩:=by induction l<;>simp_all
def gO {P}(w)(src dst e)(g o c)(l:zB)(hs:P.underlying src=aA (.slice e))(d:P.underlying e=aA (.int aQ))(f:P.underlying dst=aA .string)
  (h:∀j,j<l.length->w.cell? ⟨g,o+j,aB⟩=aA (aC aQ ((l.getD j 0).toNat:Int))):
  (convert src dst (aK (aA ⟨g,o,aB⟩) l.length c)).run P w= .ok (aL ⟨l.toArray⟩) w:=by rw[run_convert_bytes_string w src dst e _ _ _ hs d f];have hl:(loadCells (g,o) (zAH (l.map λb=>Value.int aQ (b.toNat:Int)))).run P w= .ok (zAL (l.map λb=>Value.int aQ (b.toNat:Int))) w:=run_loadCells_list w (g,o) (l.map λb=>Value.int aQ (b.toNat:Int)) (λj v i=>by have k:j<zAH l:=by{grind};have a:((g,o):Addr).add j=(g,o+j):=by{unfold ML;grind};grind);rw[Hj]at hl;have e:(l.map λb=>Value.int aQ (b.toNat:Int))=(l.map λb=>(b.toNat:Int)).map (Value.int aQ):=by{simp};rw[e]at hl;rw[run_bytesToString w (g,o) (zAH l) c _ hl,Ul,show ByteArray.empty.data= #[]from rfl,JO]
def JK (w:zW)(n:Nat):(w.drewN n).heap.size=w.heap.size:=rfl
def gW {P:zZ}{ops:zQ}{C:zW->Prop}{Q:Act->Prop}{a:Act}{o:Oper}{rest:List Oper}(b:o.guard=aB)(ty:zD)(x:Operand)(i:o.op= .load ty x) (g:Nat) (c:a.eval x=aO g) (t:zD) (cs:zA) (d:TypeDesc) (j:∀w,C w->bT w g t cs) (f:P.underlying ty=aA d) (k:(match d with| .struct _| .array _ _=>aF|_=>aG)=aF) (hi:(P.info? ty).map (·.size)=aA cs.size) (h:wpQuiet P ops C Q rest (a.put o.dst (.agg cs))):wpQuiet P ops C Q (o::rest) a:=by refine wpQuiet_step λK l=> ?_;rw[AE (by simp[Region.wanted,b])];refine⟨.agg cs,λw e=> ?_,l _ h⟩;unfold Oper.quietAt execOp;simp only[i,c,Instr.loadAt,Instr.sureAddr,Sem.run_bind,Sem.run_pure,Result.andThen_ok,run_loadVar_row w g t ty cs (0,0) d (j w e) f k hi];exact W5
structure R8 where
 a:BitVec 32
 b:BitVec 32
 c:BitVec 32
 d:BitVec 32
 e:BitVec 32
 f:BitVec 32
 g:BitVec 32
 h:BitVec 32
def R8.one (k w:BitVec 32)(s:R8):BitVec 32:=s.h+S1 s.e+(s.e&&&s.f^^^ ~~~s.e&&&s.g)+k+w
def R8.two (s:R8):BitVec 32:=S0 s.a+(s.a&&&s.b^^^s.a&&&s.c^^^s.b&&&s.c)
def R8.step (k w:BitVec 32)(s:R8):R8:=⟨s.one k w+s.two,s.a,s.b,s.c,s.d+s.one k w,s.e,s.f,s.g⟩
def R8.steps (k ws:Nat->BitVec 32):Nat->R8->R8
 |0,s=>s|n+1,s=>(R8.steps k ws n s).step (k n) (ws n)
def R8.plus (s t:R8):R8:=⟨s.a+t.a,s.b+t.b,s.c+t.c,s.d+t.d,s.e+t.e,s.f+t.f,s.g+t.g,s.h+t.h⟩
def R8.mix (k ws:Nat->BitVec 32)(s:R8):R8:=s.plus (R8.steps k ws 64 s)
def R8.cells (s:R8):zA:= #[aC aP (V s.a),aC aP (V s.b),aC aP (V s.c),aC aP (V s.d),aC aP (V s.e),aC aP (V s.f),aC aP (V s.g),aC aP (V s.h)]
def aBQ (a b c d e:BitVec 32):(V a+V b+V c+V d+V e)%4294967296=V (a+b+c+d+e):=G0
def vx (d p q k w:BitVec 32):(V d+(V p+V q+V k+V w))%4294967296=V (d+(p+q+k+w)):=G0
def Table (g:Nat)(k:Nat->BitVec 32)(w:zW):Prop:=g<w.heap.size/\∀t:Nat,t<64->w.cell? (g,t)=aA (aC aP (V (k t)))
def LC (s:R8)(xs:zA)(w:zW):zW:=zAK (zAK (zAK w (aJ s.cells 136)) (aJ xs 157)) (aJ #[aC aP 0,aC aP 0,aC aP 0,aC aP 0,aC aP 0,aC aP 0,aC aP 0,aC aP 0] 136)
def Vg (s:R8)(xs)(w)(n b t)(c:b<w.heap.size):((LC s xs w).drewN n).cell? ⟨b,t,aB⟩=w.cell? ⟨b,t,aB⟩:=by
 have h:zb w ((LC s xs w).drewN n):=by have a:zb w (LC s xs w):=(((Av _ _).alloc (je _) _).alloc j0 _).alloc j3 _;exact⟨a.os,a.tape,a.output,a.size,a.block⟩
 exact h.cell c
def Vf (s:R8)(xs)(w)(n t):((LC s xs w).drewN n).cell? ⟨w.heap.size+1,t,aB⟩=xs[t]? :=by show World.cell? (LC s xs w) _=_;have:(LC s xs w).heap[w.heap.size+1]? =aA (aJ xs 157):=by{show(((w.heap.push _).push _).push _)[w.heap.size+1]? =_;grind};unfold World.cell?;exact ji
def R8.get (s:R8):Nat->BitVec 32
 |0=>s.a|1=>s.b|2=>s.c|3=>s.d|4=>s.e|5=>s.f|6=>s.g|_=>s.h
def R8.part (s u:R8)(t:Nat):R8:=⟨if 0<t then s.a+u.a else s.a,if 1<t then s.b+u.b else s.b,if 2<t then s.c+u.c else s.c,if 3<t then s.d+u.d else s.d,if 4<t then s.e+u.e else s.e,if 5<t then s.f+u.f else s.f,if 6<t then s.g+u.g else s.g,if 7<t then s.h+u.h else s.h⟩
def zDy (s u:R8)(t)(h:t<8):(s.part u t).cells[t]? =aA (aC aP (V (s.get t))):=by match t,h with|0,_|1,_|2,_|3,_|4,_|5,_|6,_|7,_=>rfl
def zEb (s u:R8)(t)(h:t<8):zAI (s.part u t).cells t (aC aP (V (s.get t+u.get t)))=(s.part u (t+1)).cells:=by match t,h with|0,_|1,_|2,_|3,_|4,_|5,_|6,_|7,_=>rfl
def ZP (u:R8)(t:Nat)(h:t<8)(w):(Instr.index 136 (.agg #[aC aP (V u.a),aC aP (V u.b),aC aP (V u.c),aC aP (V u.d),aC aP (V u.e),aC aP (V u.f),aC aP (V u.g),aC aP (V u.h)]) (aC aD (t))).run zq w= .ok (aC aP (V (u.get t))) w:=by have i0:(Instr.index 136 (.agg #[aC aP (V u.a),aC aP (V u.b),aC aP (V u.c),aC aP (V u.d),aC aP (V u.e),aC aP (V u.f),aC aP (V u.g),aC aP (V u.h)]) (aC aD 0)).run zq w= .ok (aC aP (V u.a)) w:=by{kernel_rfl};have i1:(Instr.index 136 (.agg #[aC aP (V u.a),aC aP (V u.b),aC aP (V u.c),aC aP (V u.d),aC aP (V u.e),aC aP (V u.f),aC aP (V u.g),aC aP (V u.h)]) (aC aD 1)).run zq w= .ok (aC aP (V u.b)) w:=by{kernel_rfl};have i2:(Instr.index 136 (.agg #[aC aP (V u.a),aC aP (V u.b),aC aP (V u.c),aC aP (V u.d),aC aP (V u.e),aC aP (V u.f),aC aP (V u.g),aC aP (V u.h)]) (aC aD 2)).run zq w= .ok (aC aP (V u.c)) w:=by{kernel_rfl};have i3:(Instr.index 136 (.agg #[aC aP (V u.a),aC aP (V u.b),aC aP (V u.c),aC aP (V u.d),aC aP (V u.e),aC aP (V u.f),aC aP (V u.g),aC aP (V u.h)]) (aC aD 3)).run zq w= .ok (aC aP (V u.d)) w:=by{kernel_rfl};have i4:(Instr.index 136 (.agg #[aC aP (V u.a),aC aP (V u.b),aC aP (V u.c),aC aP (V u.d),aC aP (V u.e),aC aP (V u.f),aC aP (V u.g),aC aP (V u.h)]) (aC aD 4)).run zq w= .ok (aC aP (V u.e)) w:=by{kernel_rfl};have i5:(Instr.index 136 (.agg #[aC aP (V u.a),aC aP (V u.b),aC aP (V u.c),aC aP (V u.d),aC aP (V u.e),aC aP (V u.f),aC aP (V u.g),aC aP (V u.h)]) (aC aD 5)).run zq w= .ok (aC aP (V u.f)) w:=by{kernel_rfl};have i6:(Instr.index 136 (.agg #[aC aP (V u.a),aC aP (V u.b),aC aP (V u.c),aC aP (V u.d),aC aP (V u.e),aC aP (V u.f),aC aP (V u.g),aC aP (V u.h)]) (aC aD 6)).run zq w= .ok (aC aP (V u.g)) w:=by{kernel_rfl};have i7:(Instr.index 136 (.agg #[aC aP (V u.a),aC aP (V u.b),aC aP (V u.c),aC aP (V u.d),aC aP (V u.e),aC aP (V u.f),aC aP (V u.g),aC aP (V u.h)]) (aC aD 7)).run zq w= .ok (aC aP (V u.h)) w:=by{kernel_rfl};have:t=0\/t=1\/t=2\/t=3\/t=4\/t=5\/t=6\/t=7:=by{omega};obtain rfl|rfl|rfl|rfl|rfl|rfl|rfl|rfl:=this;{exact i0};{exact i1};{exact i2};{exact i3};{exact i4};{exact i5};{exact i6};.exact i7
attribute [local go_sem] V_xor V_and V_or V_not V_add V_shr
def ez (s:R8)(xs)(ws j)(w)(q:∀t:Nat,t<64->xs[t]? =aA (aC aP (V (ws t))))(P:Table 2 j w):
  Calls zq 95 #[.agg s.cells,.agg xs] w λe y=>e=aM (.agg (s.mix j ws).cells)/\zb w y:=by
 let⟨O,N⟩:=P;unfold R8.cells;go_enter (Qz.fn func95),ntmps95;go_wp2;go_quiet (fail);go_wp2;go_quiet (fail);go_wp2;go_loopg [5,6,7,8,9,10,11,12,34] 64 (λk A B C D E F G H i wr=>∃t:Nat,t+k=64/\i=aC aD t/\A=aC aP (V (R8.steps j ws t s).a)/\B=aC aP (V (R8.steps j ws t s).b)/\C=aC aP (V (R8.steps j ws t s).c)/\D=aC aP (V (R8.steps j ws t s).d)
   /\E=aC aP (V (R8.steps j ws t s).e)/\F=aC aP (V (R8.steps j ws t s).f)/\G=aC aP (V (R8.steps j ws t s).g)/\H=aC aP (V (R8.steps j ws t s).h)/\∃n,wr=(LC s xs w).drewN n)
 case atStart=>exact⟨0,rfl,rfl,rfl,rfl,rfl,rfl,rfl,rfl,rfl,rfl,_,World.drewN_drewN _ _ _⟩
 case round=>
  obtain⟨t,v,rfl,rfl,rfl,rfl,rfl,rfl,rfl,rfl,rfl,r⟩:=hrel
  have u:=hid r
  generalize x:R8.steps j ws t s=st
  have l:=hid x
  by_cases hlt:t<64
  .have S:wr.cell? (2,t)=aA (aC aP (V (j t))):=by
    obtain⟨n,rfl⟩:=u;rw[Vg _ _ _ _ _ _ O];exact N t hlt
   have R:wr.cell? (w.heap.size+1,t)=aA (aC aP (V (ws t))):=by obtain⟨n,rfl⟩:=u;rw[Vf];exact q t hlt
   go_wp2;go_quiet ((exact Im (ry _ _)));go_wp2_with (go_at_call 108;refine(se _ _).mono ?_;rintro e y ⟨rfl,rfl⟩);go_roundg (63-t);case measure=>omega
   case rel=>
    go_light
    have M:R8.steps j ws (t+1) s=st.step (j t) (ws t):=by rw[<-l.out];rfl
    refine⟨t+1,bm,j9,?_⟩
    rw[M]
    refine⟨congrArg _ (aBQ _ _ _ _ _),rfl,rfl,rfl,congrArg _ (vx _ _ _ _ _),rfl,rfl,rfl,?_⟩
    grind[Hid,World.drewN_drewN]
  .have v:t=64:=by omega
   subst v;obtain⟨n,rfl⟩:=u;have J:Hid (zb w ((LC s xs w).drewN n)):=below_drewN ((((Av _ _).alloc (je _) _).alloc j0 _).alloc j3 _) n;have I:Hid (bT ((LC s xs w).drewN n) w.heap.size 136 s.cells):=bT.drewN (((bT.new _ _ _).alloc _).alloc _) n;have b3:Hid (∃z:zA,z.size=8/\bT ((LC s xs w).drewN n) (w.heap.size+1+1) 136 z):=⟨#[aC aP 0,aC aP 0,aC aP 0,aC aP 0,aC aP 0,aC aP 0,aC aP 0,aC aP 0],rfl,by have:=bT.new (zAK (zAK w (aJ s.cells 136)) (aJ xs 157)) 136 #[aC aP 0,aC aP 0,aC aP 0,aC aP 0,aC aP 0,aC aP 0,aC aP 0,aC aP 0];rw[size_alloc,size_alloc]at this;exact j5⟩
   generalize(LC s xs w).drewN n=W at*;go_wp2;go_loopg [94] 8 (λk i wr=>∃t:Nat,t+k=8/\i=aC aD t/\zb w wr/\bT wr w 136 (s.part st t).cells/\∃z:zA,z.size=8/\bT wr (w.heap.size+1+1) 136 z);case atStart=>exact⟨0,rfl,rfl,J,I,b3⟩
   case round=>
    obtain⟨t,v,rfl,c1,c2,c3⟩:=hrel
    have L:=hid c1
    have o:=hid c2
    have K:=hid c3
    clear c1 c2 c3 J I b3
    by_cases hlt:t<8
    .have hi:=ZP st t hlt;have S:wr.cell? (w,t)=aA (aC aP (V (s.get t))):=by{rw[o.out.cell,zDy _ _ _ hlt]};have R:=o.frozen t;go_wp2;go_roundg (7-t);case measure=>omega
     case rel=>
      go_light
      refine⟨t+1,bm,j9,L.setCell (je _) _,?_,?_⟩
      .have:=o.bR t (aC aP (V (s.get t+st.get t)));rw[zEb _ _ _ hlt]at this;exact this
      .obtain⟨z,p,m⟩:=K;exact⟨z,p,m.cB _ _ j3⟩
    .obtain rfl:t=8:=bm;let⟨z,p,m⟩:=K;have c2:bT wr w 136 (s.mix j ws).cells:=by rw[R8.mix,l.out];exact o
     have T:=hid c2;have Q:=hid m;clear c2 m;go_wp2_with (first
      |refine Dx rfl 136 _ rfl w rfl _ _ _ _ T ((Qz.eR 136).trans underlying136) rfl c9 ?_
      |refine Gz rfl 136 _ _ rfl (w.heap.size+1+1) _ rfl rfl _ _ Q (by kernel_rfl) (by rw[p];rfl) (by kernel_rfl) ?_)
     refine Fx ?_ rfl ⟨rfl,?_⟩;{exact results_cell_row results95 _ _ (w.heap.size+1+1) _ _ _ _ rfl (Q.gH _) ((Qz.eR 136).trans underlying136) rfl c9};{exact eH L bm _}
def acc (l:zB):BitVec 32:=l.foldl (λx b=>x<<<8|||GU 32 b.toNat) 0
def sF (l:zB)(t:Nat):BitVec 32:=acc ((l.drop (4*t)).take 4)
def put (f:Nat->BitVec 32)(t:Nat)(x:BitVec 32):Nat->BitVec 32:=λi=>if i=t then x else f i
def eU (l:zB)(t:Nat):Nat->BitVec 32:=λi=>if i<t then sF l i else 0
def sched (l:zB):Nat->Nat->BitVec 32
 |0=>eU l 16|n+1=>put (sched l n) (16+n) (s1 (sched l n (16+n-2))+sched l n (16+n-7)+s0 (sched l n (16+n-15))+sched l n (16+n-16))
def row (k:IntKind)(f:Nat->BitVec 32):zA:=zAL ((List.range 64).map λi=>Value.int k (V (f i)))
theorem KF (k:IntKind)(f):(row k f).size=64:=by simp[row]
def gI (k:IntKind)(f)(i)(h:i<64):(row k f)[i]? =aA (.int k (V (f i))):=by simp[row,h]
def GZ (k:IntKind)(f)(t)(x:BitVec 32):zAI (row k f) t (.int k (V x))=row k (put f t x):=by apply GI;intro i;rw[Hq,KF];by_cases h:i<64;{rw[gI k (put f t x) i h];by_cases e:t=i;{subst e;simp[h,put]};.rw[AF e,gI k _ i h];simp[put,Dp e]};grind[KF,Array.getElem?_eq_none]
def row_one (k:IntKind)(f):(row k f).all (·.oneCell')=aF:=by rw[Nt];intro v h;simp[row]at h;obtain⟨i,_,rfl⟩:=h;rfl
def df (f)(t)(x y:BitVec 32):put (put f t x) t y=put f t y:=by funext i;unfold put;exact ji
def Uj (f)(t)(x:BitVec 32):put f t x t=x:=by simp[put]
theorem LW (l)(t):put (eU l t) t (sF l t)=eU l (t+1):=by funext i;unfold put eU;exact ji
def zFf (l)(t):put (eU l t) t 0=eU l t:=by funext i;unfold put eU;exact ji
def Cl (l)(b:UInt8):acc (l++[b])=acc l<<<8|||GU 32 b.toNat:=by simp[acc]
def Lf:acc []=0:=rfl
def qp (x:BitVec 32)(b:UInt8):bits .or aP (V x*256%4294967296) (b.toNat:Int)=V (x<<<8|||GU 32 b.toNat):=by have a:V x*(256:Int)%(4294967296:Int)=V (x<<<8):=(Jg x 8);have c:=b.toNat_lt;have h:(b.toNat:Int)=V (GU 32 b.toNat):=by{unfold V;grind};rw[a,h,V_or]
def OX (s:zB)(j)(h:j<zAH s):s.take (j+1)=s.take j++[s.getD j 0]:=j1
def lX (s:ByteArray)(a b):zAM (s.extract a b).data=(s.data.toList.take b).drop a:=by simp[aMU,List.drop_take]
attribute [local go_sem] V_xor V_and V_or V_not V_add V_shr
def zBb (s)(hs:s.size=64)(w):
  Calls zq 96 #[aL s] w λe r=>e=aM (.agg (row aP (sched (zAM s.data) 48)))/\zb w r:=by
 have A:=λW u=>aM7 W 9 50 5 u ((Qz.eR 9).trans underlying9) j1 j1;have l:=λW u j=>Lib.bytesWorld_cell W 5 u j;have H:=hid l;go_enter (Qz.fn func96),ntmps96;go_wp2;go_loopg [8] 16 (λk i wr=>∃t:Nat,t+k=16/\i=aC aD t/\zb w wr/\w.heap.size+2<=wr.heap.size/\bT wr (w.heap.size+1) 157 (row aP (eU (zAM s.data) t))/\∃z:zA,z.size=64/\bT wr w 157 z);case atStart=>
  refine⟨0,rfl,rfl,((Av _ _).alloc (je _) _).alloc j0 _,j0,?_,_,rfl,(bT.new _ _ _).alloc _⟩
  have:=bT.new (zAK w (aJ (row aP (eU (zAM s.data) 0)) 157)) 157 (row aP (eU (zAM s.data) 0))
  rw[size_alloc]at this
  exact this
 case round=>
  obtain⟨t,T,rfl,R,b2,b3,P⟩:=hrel
  have B:=hid R
  have q:=hid b3
  have p:=hid P
  by_cases hlt:t<16
  .have I:min (4*t+4) 64-4*t=4:=by omega
   have G:Hid (sF (zAM s.data) t=acc (zAM (s.extract (4*t) (4*t+4)).data)):=by show _=_;rw[lX,sF,List.take_drop]
   go_wp2;have c1:Hid (zb w (Gb wr 5 (s.extract (4*t) (4*t+4)))):=B.out.trans ((qG _ _ _).mono B.size);have a:(s.extract (4*t) (4*t+4)).size=4:=by simp[hs,I]
   have c3:Hid (bT (Gb wr 5 (s.extract (4*t) (4*t+4))) (w.heap.size+1) 157 (row aP (eU (zAM s.data) t))):=by show _=_;rw[Oa _ _ _ _ bm];exact q
   have c4:Hid (∃z:zA,z.size=64/\bT (Gb wr 5 (s.extract (4*t) (4*t+4))) w.heap.size 157 z):=by let⟨z,o,f⟩:=p;refine⟨z,o,?_⟩;show _=_;rw[Oa _ _ _ _ bm];exact f
   have c5:Hid (∀j,j<4->(Gb wr 5 (s.extract (4*t) (4*t+4))).cell? (wr,j)=aA (aC aQ ((s.extract (4*t) (4*t+4)).data.toList.getD j 0).toNat)):=λj K=>H _ _ j bm;have c2:wr.heap.size+1<=(Gb wr 5 (s.extract (4*t) (4*t+4))).heap.size:=by rw[Ob];omega
   have hl:Hid (zAH (zAM (s.extract (4*t) (4*t+4)).data)=4):=by have:=a;assumption
   clear B q p a;generalize Gb wr 5 (s.extract (4*t) (4*t+4))=W1 at*;generalize(s.extract (4*t) (4*t+4)).data.toList=b at*;generalize wr.heap.size=g at*;go_loopg [20] 4 (λk i c=>∃j:Nat,j+k=4/\i=aC aD j/\zb w c/\g+1<=c.heap.size/\bT c (w.heap.size+1) 157 (row aP (put (eU (zAM s.data) t) t (acc (b.take j))))/\(∃z:zA,z.size=64/\bT c w 157 z)/\(∀j,j<4->c.cell? (g,j)=aA (aC aQ (b.getD j 0).toNat)));case atStart=>exact⟨0,rfl,rfl,c1,c2,by rw[Fy,Lf,zFf];exact c3,c4,c5⟩
   case round=>
    obtain⟨j,K,rfl,d1,O,d3,d4,d5⟩:=hrel
    clear c1 c2 c3 c4 c5
    have D1:=hid d1
    have D3:=hid d3
    have D4:=hid d4
    have D5:=hid d5
    clear d1 d3 d4 d5
    by_cases d:j<4
    .have F:=D5 j d;have N:wr.cell? (w.heap.size+1,t)=aA (aC aP (V (acc (b.take j)))):=by{rw[D3.out.cell,gI _ _ _ bm,Uj]};have M:=D3.frozen t;have C:((b.getD j 0).toNat:Int)<256:=by{have:=(b.getD j 0).toNat_lt;exact bm};have D:0<=((b.getD j 0).toNat:Int):=bm;generalize E:((b.getD j 0).toNat:Int)=y at F C D;have S:=hid E;clear E;go_wp2;go_roundg (3-j);case measure=>omega
     case rel=>
      go_light
      have L:bits .or aP (V (acc (b.take j))*256%4294967296) y=V (acc (b.take (j+1))):=by rw[<-S.out,qp,OX b j (by rw[hl.out];exact d),Cl]
      rw[L]
      refine⟨j+1,bm,j9,D1.setCell j0 _,by rw[size_setCell];exact O,?_,?_,λk J=> ?_⟩
      .have:=D3.bR t (aC aP (V (acc (b.take (j+1)))));rw[GZ,df]at this;exact this
      .obtain⟨z,o,f⟩:=D4;exact⟨z,o,f.cB _ _ j0⟩
      .rw[World.cell?_setCell_other _ _ _ _ (by intro h;injection h;exact bm)];exact D5 k J
    .obtain rfl:j=4:=bm;go_wp2;go_roundg (15-t);case measure=>omega
     case rel=>
      go_light
      refine⟨t+1,bm,j9,D1,bm,?_,D4⟩
      grind[Hid,LW,List.take_of_length_le]
  .obtain rfl:t=16:=bm;clear H A hs;go_wp2;go_loopg [7] 48 (λk i c=>∃n:Nat,n+k=48/\i=aC aD (16+(n:Int))/\zb w c/\bT c (w.heap.size+1) 157 (row aP (sched (zAM s.data) n))/\∃z:zA,z.size=64/\bT c w 157 z);case atStart=>exact⟨0,rfl,rfl,B,q,p⟩
   case round=>
    obtain⟨n,U,rfl,d1,d3,d4⟩:=hrel
    clear B q p
    have D1:=hid d1
    have D3:=hid d3
    have D4:=hid d4
    clear d1 d3 d4
    by_cases hlt:n<48
    .have F:wr.cell? (w.heap.size+1,16+n-2)=aA (aC aP (V (sched (zAM s.data) n (16+n-2)))):=I6;have N:wr.cell? (w.heap.size+1,16+n-7)=aA (aC aP (V (sched (zAM s.data) n (16+n-7)))):=I6;have M:wr.cell? (w.heap.size+1,16+n-15)=aA (aC aP (V (sched (zAM s.data) n (16+n-15)))):=I6;have Z:wr.cell? (w.heap.size+1,n)=aA (aC aP (V (sched (zAM s.data) n n))):=I6;have Y:wr.cell? (w.heap.size+1,16+n)=aA (aC aP (V (sched (zAM s.data) n (16+n)))):=by rw[D3.out.cell,gI _ _ _ bm]
     have X:wr.frozen? (w.heap.size+1,16+n)=aG:=D3.frozen _;go_wp2;refine Tail.vK 23 c9 c9 ?_;simp only[Ia,Fy,Hz,Gq];repeat (any_goals(first|go_big_quiet_step ((first|exact Im (Tu _ _)|exact Im (by go_enter (Qz.fn func110),ntmps110;go_wp2_with fail;refine(kG (sched (zAM s.data) n (16+n-15)) 7 _ _ rfl bm bm).mono ?_;rintro e r ⟨rfl,rfl⟩;go_wp2_with fail;refine(kG (sched (zAM s.data) n (16+n-15)) 18 _ _ rfl bm bm).mono ?_;rintro e r ⟨rfl,rfl⟩;go_wp2;go_ret;exact⟨AL (by rw[Yx,V_xor];rfl),rfl⟩)))|quiet_step ((first|exact Im (Tu _ _)|exact Im (nz _ _)))))
     refine Dn ?_;intro _ x;obtain⟨nq,rfl⟩:=x;go_wp2;go_roundg (47-n);case measure=>omega
     case rel=>
      go_light
      refine⟨n+1,bm,j9,(below_drewN D1 nq).setCell j0 _,?_,?_⟩
      .have:=(D3.drewN nq).bR (16+n) (aC aP (V (s1 (sched (zAM s.data) n (16+n-2))+sched (zAM s.data) n (16+n-7)+s0 (sched (zAM s.data) n (16+n-15))+sched (zAM s.data) n n)));rw[GZ]at this;have e:sched (zAM s.data) (n+1)=put (sched (zAM s.data) n) (16+n) (s1 (sched (zAM s.data) n (16+n-2))+sched (zAM s.data) n (16+n-7)+s0 (sched (zAM s.data) n (16+n-15))+sched (zAM s.data) n n):=by
        rw[sched,show 16+n-16=n from bm]
       rw[e];exact this
      .obtain⟨z,o,f⟩:=D4;exact⟨z,o,(f.drewN nq).cB _ _ j0⟩
    .obtain rfl:n=48:=by omega
     let⟨z,o,f⟩:=D4;have Q:=hid f;clear f;have a:=KF aP (sched (zAM s.data) 48);have m:=hid a;clear a;go_wp2_with (first
      |refine Dx rfl 157 _ rfl (w.heap.size+1) rfl _ _ _ _ D3 ((Qz.eR 157).trans underlying157) rfl (by rw[m.out];exact c9) ?_
      |refine Gz rfl 157 _ _ rfl w _ rfl rfl _ _ Q (by rw[m.out];kernel_rfl) (by assumption) (row_one _ _) ?_)
     refine Fx (v:= .agg (row aP (sched (zAM s.data) 48))) ?_ rfl ⟨rfl,?_⟩;{exact results_cell_row results96 _ _ w _ _ _ _ rfl (Q.gH _) ((Qz.eR 157).trans underlying157) rfl (by rw[m.out];exact c9)};{exact eH D1 (je _) _}
def eY (s:R8)(i:Nat):UInt8:=Dw (s.get (i/4)>>>(24-8*(i%4))).toNat
def dC (s:R8):zB:=(List.range 32).map (eY s)
def uN (s:R8)(t:Nat):zA:=zAL ((List.range 32).map λi=>Value.int aQ (if i<t then((eY s i).toNat:Int)else 0))
theorem FR (s:R8)(t):(uN s t).size=32:=by simp[uN]
def sQ (s:R8)(t i)(h:i<32):(uN s t)[i]? =aA (aC aQ (if i<t then((eY s i).toNat:Int)else 0)):=by simp[uN,h]
theorem YG (s:R8)(t):zAI (uN s t) t (aC aQ ((eY s t).toNat:Int))=uN s (t+1):=by apply GI;intro i;rw[Hq,FR];by_cases h:i<32;{rw[sQ s (t+1) i h];by_cases e:t=i;{exact ji};.rw[AF e,sQ s t i h];exact ji};grind[Array.getElem?_eq_none,FR]
def zDi (s:R8)(i)(h:i<8):s.cells[i]? =aA (aC aP (V (s.get i))):=by have:i=0\/i=1\/i=2\/i=3\/i=4\/i=5\/i=6\/i=7:=by{omega};obtain rfl|rfl|rfl|rfl|rfl|rfl|rfl|rfl:=this<;>rfl
def Ut (s:R8)(j:Nat)(h:j<8):(dC s).take (4*(j+1))=(dC s).take (4*j)++[eY s (4*j),eY s (4*j+1),eY s (4*j+2),eY s (4*j+3)]:=by have e:∀n,n<=32->(dC s).take n=(List.range n).map (eY s):=λn a=>by{rw[dC,<-List.map_take,List.take_range,Nat.min_eq_left a]};grind[List.range_succ]
def IP (x:BitVec 32)(n:Nat):V (x>>>n)%256=((Dw (x>>>n).toNat).toNat:Int):=by unfold V;exact j1
def aMa (s:R8)(j:Nat):V (s.get j)/16777216%256=((eY s (4*j)).toNat:Int):=by have h:=IP (s.get j) 24;rw[<-V_shr]at h;rw[eY,show 4*j/4=j from bm,show 24-8*(4*j%4)=24 from bm];exact h
def aMl (s:R8)(j:Nat):V (s.get j)/65536%256=((eY s (4*j+1)).toNat:Int):=by have h:=IP (s.get j) 16;rw[<-V_shr]at h;rw[eY,show(4*j+1)/4=j from bm,show 24-8*((4*j+1)%4)=16 from bm];exact h
def aMn (s:R8)(j:Nat):V (s.get j)/256%256=((eY s (4*j+2)).toNat:Int):=by have h:=IP (s.get j) 8;rw[<-V_shr]at h;rw[eY,show(4*j+2)/4=j from bm,show 24-8*((4*j+2)%4)=8 from bm];exact h
def aMt (s:R8)(j:Nat):V (s.get j)%256=((eY s (4*j+3)).toNat:Int):=by have h:=IP (s.get j) 0;rw[<-V_shr]at h;rw[eY,show(4*j+3)/4=j from bm,show 24-8*((4*j+3)%4)=0 from bm];exact bm
attribute [local go_sem] V_shr
def Qj (s:R8)(w):
  Calls zq 78 #[.agg s.cells] w λe d=>e=aM (dC s)/\zb w d:=by
 go_enter (Qz.fn func78),ntmps78;go_wp2;go_loopg [5] 32 (λk i wr=>∃t:Nat,t+k=32/\i=aC aD t/\zb w wr/\bT wr w 136 s.cells/\bT wr (w.heap.size+1) 160 (uN s t));case atStart=>
  refine⟨0,rfl,rfl,((Av _ _).alloc (je _) _).alloc j0 _,(bT.new _ _ _).alloc _,?_⟩
  have:=bT.new (zAK w (aJ s.cells 136)) 160 (uN s 0)
  rw[size_alloc]at this
  exact this
 case round=>
  obtain⟨t,n,rfl,m,l,b3⟩:=hrel
  have c:=hid m
  have b:=hid l
  have B:=hid b3
  by_cases hlt:t<32
  .have q:wr.cell? (w,t/4)=aA (aC aP (V (s.get (t/4)))):=by{rw[b.out.cell,zDi _ _ bm]};have g:wr.cell? (w.heap.size+1,t)=aA (aC aQ (if t<t then((eY s t).toNat:Int)else 0)):=by{rw[B.out.cell,sQ _ _ _ hlt]};rw[AF bm]at g;have p:wr.frozen? (w.heap.size+1,t)=aG:=B.frozen _;go_wp2;go_roundg (31-t);case measure=>omega
   case rel=>
    go_light
    have f:V (s.get (t/4)>>>(24-8*(t%4)))%256=((eY s t).toNat:Int):=by unfold V eY;simp_all
    rw[f]
    refine⟨t+1,bm,j9,c.setCell j0 _,b.cB _ _ j0,?_⟩
    grind[bT.bR,YG,Hid]
  .obtain rfl:t=32:=by omega
   have a:=gO wr 50 9 5 (w.heap.size+1) 0 32 (dC s) ((Qz.eR 50).trans underlying50) ((Qz.eR 5).trans underlying5) ((Qz.eR 9).trans underlying9) (λj o=>by
    have h:j<32:=by assumption
    rw[Ce,B.out.cell,sQ _ _ _ h,AE h];simp[dC,h])
   rw[show(dC s).length=32 from by simp[dC]]at a;exact X6
def ZJ:List Nat:=[1116352408,1899447441,3049323471,3921009573,961987163,1508970993,2453635748,2870763221,3624381080,310598401,607225278,1426881987,1925078388,2162078206,2614888103,3248222580,3835390401,4022224774,264347078,604807628,770255983,1249150122,1555081692,1996064986,2554220882,2821834349,2952996808,3210313671,3336571891,3584528711,113926993,338241895,666307205,773529912,1294757372,1396182291,1695183700,1986661051,2177026350,2456956037,2730485921,2820302411,3259730800,3345764771,3516065817,3600352804,4094571909,275423344,430227734,506948616,659060556,883997877,958139571,1322822218,1537002063,1747873779,1955562222,2024104815,2227730452,2361852424,2428436474,2756734187,3204031479,3329325298]
def K (i:Nat):BitVec 32:=GU 32 (ZJ.getD i 0)
def H0:R8:=⟨BitVec.ofNat 32 1779033703,GU 32 3144134277,GU 32 1013904242,GU 32 2773480762,GU 32 1359893119,GU 32 2600822924,GU 32 528734635,GU 32 1541459225⟩
def blk (l:zB)(j:Nat):zB:=(l.drop (64*j)).take 64
def cL (s:R8)(l:zB):Nat->R8
 |0=>s|j+1=>(cL s l j).mix K (sched (blk l j) 48)
def IF (n i:Nat):UInt8:=Dw (8*n/2^(8*(7-i)))
def dY (n:Nat):zB:=(List.range 8).map (IF n)
def zs (n:Nat):Nat:=(119-n%64)%64
def behind (n:Nat):zB:=128::(List.replicate (zs n) 0++dY n)
def kQ (l:zB):zB:=l++behind (zAH l)
def Ji (l:zB):zB:=dC (cL H0 (kQ l) (zAH (kQ l)/64))
def ZB (n i:Nat):8*(n:Int)/2^(8*(7-i))%256=((IF n i).toNat:Int):=by rw[IF,Hh,show(2:Nat)^8=256 from rfl,My,aNa,Int.natCast_mul,jH];rfl
def rG (n):zAH (behind n)=9+zs n:=by simp[behind,dY];exact bm
def rA (l):zAH (kQ l)=zAH l+9+zs (zAH l):=by simp[kQ,rG];exact bm
def zBn (l:zB):zAH (kQ l)%64=0:=by rw[rA];unfold zs;exact bm
def zCr (l:zB)(j:Nat)(h:64*j+64<=zAH l):zAH (blk l j)=64:=by simp[blk];exact bm
def zAf (s:R8)(a b):∀j,64*j<=a.length->cL s (a++b) j=cL s a j:=by intro j;induction j with|zero=>intro _;rfl|succ j i=>intro h;have e:blk (a++b) j=blk a j:=by{unfold blk;grind};simp only[cL,i bm,e]
theorem zCw (s:R8)(a b)(k)(h:a.length=64*k):∀j,cL s (a++b) (k+j)=cL (cL s a k) b j:=by intro j;induction j with|zero=>exact zAf s a b k bm|succ j i=>have e:blk (a++b) (k+j)=blk b j:=by{unfold blk;rw[Nat.mul_add,<-h,<-List.drop_drop,List.drop_left]};rw[<-Gp];simp only[cL,i,e]
def bq (l):Ji l=dC (cL (cL H0 (l.take (zAH l-zAH l%64)) (zAH l/64)) (l.drop (zAH l-zAH l%64)++behind (zAH l)) ((zAH l%64+9+zs (zAH l))/64)):=by have a:zAH l-zAH l%64=64*(zAH l/64):=by{omega};have e:kQ l=l.take (zAH l-zAH l%64)++(l.drop (zAH l-zAH l%64)++behind (zAH l)):=by{rw[<-Df,GO];rfl};have h:zAH (kQ l)/64=zAH l/64+(zAH l%64+9+zs (zAH l))/64:=by{rw[rA];omega};unfold Ji;grind[zCw]
def kL (s:R8):zAH (dC s)=32:=by simp[dC]
def aNb (l):zAH (Ji l)=32:=kL _
def Own (w:zW)(base:Nat)(e:zD)(v:zY)(n:Nat)(xs:zV):Prop:=zAH xs=n/\((v=aK aB 0 0/\n=0)\/ ∃(g cap:Nat)(b:zA)(f:Nat×Nat),v=aK g n cap/\base<=g/\w.heap[g]? =aA (aJ b e f)/\(∀j,j<b.size->¬(f.1<=j/\j<f.2))/\n<=cap/\b.size=cap/\b.toList.take n=xs)
def Own.nil (w)(base)(e):Own w base e (aK aB 0 0) 0 []:=⟨rfl,by grind⟩
theorem Own.cell {w base e g n cap xs}(h:Own w base e (aK (aA ⟨g,0,aB⟩) n cap) n xs)(j)(l:j<n):w.cell? ⟨g,j,aB⟩=xs[j]? :=by
 let⟨_,d⟩:=h;obtain⟨d,_⟩|⟨q,f,cur,p,k,_,hh,_,_,_,ht⟩:=d
 .cases d
 .injection k with b y r;iterate 2 (injection b with b)
  subst b;rw[Eh w g j cur e p hh,<-ht,GK,AE l];exact j0
theorem Own.base {w base e g n cap xs}(h:Own w base e (aK (aA ⟨g,0,aB⟩) n cap) n xs):base<=g/\g<w.heap.size/\n<=cap:=by let⟨_,b⟩:=h;exact ji
theorem Own.kept {w w' base e v n xs}(h:Own w base e v n xs)(hk:∀g,v.ownBlock=aA g->w'.heap[g]? =w.heap[g]?):Own w' base e v n xs:=by let⟨h1,b⟩:=h;refine⟨h1,?_⟩;obtain b|⟨g,cap,cur,f,rfl,hb,hh,r⟩:=b;{exact ji};.exact aI ⟨g,cap,cur,f,rfl,hb,by rw[hk g rfl];exact hh,r⟩
theorem Own.lt {w base e v n xs}(h:Own w base e v n xs):∀g,v.ownBlock=aA g->base<=g/\g<w.heap.size:=by intro g b;obtain⟨rfl,_⟩|⟨d,cap,cur,f,rfl,hb,hh,_⟩:=h.2;{cases b};.injection b with b;exact ji
def Own.alloc {w:zW}{base:Nat}{e:zD}{v:zY}{n:Nat}{xs:zV}(h:Own w base e v n xs)(o:Obj):Own (zAK w o) base e v n xs:=h.kept λg b=>Below.heap_alloc w o g (h.lt g b).2
theorem Own.below {w w':zW}{B base:Nat}{e:zD}{v:zY}{n:Nat}{xs:zV}(h:Own w base e v n xs)(hb:Below B w w')(d:w.heap.size<=B):Own w' base e v n xs:=h.kept λg b=>hb.block g (Ao (h.lt g b).2 d)
def Own.setRow {w:zW}{base:Nat}{e:zD}{v:zY}{n:Nat}{xs:zV}(h:Own w base e v n xs)(k:Nat)(cs:zA)(hk:k<base):Own (w.setRow k cs) base e v n xs:=h.kept λg b=>lV w k g cs (by have:=(h.lt g b).1;exact bm)
def zBq (w:zW)(base:Nat)(e:zD)(s:ByteArray)(hb:base<=w.heap.size):Own (Gb w e s) base e (aK w s.size (grownCap w s.size 0 e)) s.size (s.data.toList.map λb=>aC aQ (b.toNat:Int)):=by have h:=grownCap_ge w s.size 0 e;refine⟨j0,aI ⟨w.heap.size,_,OM w e s,_,rfl,hb,Lib.bytesWorld_at_new w e s,bm,h,?_,?_⟩⟩;{simp[OM];exact bm};.simp[OM]
def aNk (b):∀(g)(o)(w:zW)(d)(e)(k:Nat×Nat),w.heap[b]? =aA (aJ d e k)->o+zAH g<=d.size-> ∃f,(w.setCells b o g).heap[b]? =aA (aJ f e k)/\f.size=d.size/\f.toList.take (o+zAH g)=d.toList.take o++g:=by intro g;induction g with|nil=>intro o w d e k h _;exact⟨d,h,rfl,j0⟩|cons v r l=>intro o w d e k h hl;simp only[Bf]at hl;have h1:(zAJ w (b,o) v).heap[b]? =aA (aJ (zAI d o v) e k):=by{simp only[zAJ,Ly,h];rfl};let⟨f,q,y,p⟩:=l (o+1) _ _ e k h1 j3;refine⟨f,q,ji,?_⟩;rw[Bf,show o+(zAH r+1)=o+1+zAH r from bm,p];have:(zAI d o v).toList.take (o+1)=d.toList.take o++[v]:=by{rw[Ng,Lz j3];grind[List.take_set,List.getElem_set_self,List.set_eq_of_length_le]};exact ji
def wM (b k)(hk:k≠b):∀(d)(o)(w:zW),(w.setCells b o d).heap[k]? =w.heap[k]? :=by intro d;induction d with|nil=>intro o w;rfl|cons v r f=>intro o w;rw[World.setCells,f,Du _ _ _ _ hk]
def aL9 (b):∀(f)(o)(w:zW),(w.setCells b o f).os=w.os/\(w.setCells b o f).tape=w.tape/\(w.setCells b o f).output=w.output/\(w.setCells b o f).heap.size=w.heap.size:=by intro f;induction f with|nil=>intro o w;exact⟨rfl,rfl,rfl,rfl⟩|cons v r g=>intro o w;let⟨a,b,c,d⟩:=g (o+1) (zAJ w (b,o) v);exact⟨a,b,c,by rw[World.setCells,d,size_setCell]⟩
def zBj {P}(w)(base)(t ty e)(i:TypeInfo)(z)(ht:P.underlying t=aA (.slice e))(hi:P.info? e=aA i)(hz:i.zero=aA z)
  (ZQ:i.size=1) (xz:z.cells.size=1) (v) (n) (xs) (oG:Own w base e v n xs)
  (a) (m c) (news) (hm:0<m) (hl:news.length=m) (LS:∀j u,news[j]? =aA u->w.cell? (a.add j)=aA u) (h1:∀u∈news,u.oneCell'=aF)
  (h63:n+m<=maxLen) (LX:(n+m)*i.bytes<=140737488355328) (FZ:base<=w.heap.size):
  ∃H r,(Builtin.append_ #[t,t] ty #[v,aK (aA a) m c]).run P w= .ok H r/\Own r base e H (n+m) (xs++news)/\w.grownBy r v.ownBlock:=by have hlen:zAH (xs++news)=n+m:=by{rw[At,oG.1,hl]};have p:n+m<=9223372036854775807:=by{assumption};have grown:∀(old:Nat)(row:Option Nat),Own (zAK w.drew (aJ (zAL xs++zAL news++Builtin.zeroCells z.cells (grownCap w (n+m) old e-(n+m))) e)) base e (aK w (n+m) (grownCap w (n+m) old e)) (n+m) (xs++news)/\ w.grownBy (zAK w.drew (aJ (zAL xs++zAL news++Builtin.zeroCells z.cells (grownCap w (n+m) old e-(n+m))) e)) row:=by{intro old row;have B:=grownCap_ge w (n+m) old e;refine⟨⟨hlen,aI ⟨w.heap.size,_,_,(0,0),rfl,FZ,Ei w.drew _,bm,B,?_,?_⟩⟩,⟨rfl,rfl,rfl,j0,λk q _=>(by first|exact heap_alloc_old w.drew _ q|exact heap_alloc_old w.drew _ k q)⟩⟩;{simp only[Array.size_append,Dq,size_zeroCells,xz,oG.1,hl];exact bm};exact ji};obtain⟨rfl,rfl⟩|⟨g,cap,cur,G,rfl,F,C,D,M,E,y⟩:=oG.2;{have hx:=Hr oG.1;subst hx;have L:=run_append_nil w t ty e i z ht hi hz a m c news ji LS hm bm ji;have A:=grown 0 (Value.ownBlock (aK aB 0 0));exact ji};.by_cases b:n+m<=cap;{obtain⟨l,K,J,S⟩:=aNk g news n w cur e G C bm;let⟨s1,s2,I,R⟩:=aL9 g news n w;have O:=run_firstCells_some (P:=P) w 1 m a m c news bm LS;have f:=run_storeCells_cells (P:=P) g n news 0 w (λj N=>by rw[Eo,Eh w g _ cur e G C];exact j3) (λj N=>by have:=D (n+j) (by omega);simp only[World.frozen?,Eo,C];grind) h1;rw[Eo]at f;have d:(g:Addr).add n=(g,n):=by{unfold ML;exact ji};refine⟨aK g (n+m) cap,w.setCells g n news,?_,⟨hlen,aI ⟨g,cap,l,G,rfl,F,K,ji,b,by rw[J,E],?_⟩⟩,⟨s1,s2,I,bm,λk _ q=>wM g k (λh=>q (by rw[h];rfl)) news n w⟩⟩;{simp[Builtin.append_,run_underlying ht,sizeOf,typeInfo,hi,ZQ,Builtin.lenOf,b,O,d,f]};exact ji};.have holds:∀j u,xs[j]? =aA u->w.cell? ((g:Addr).add j)=aA u:=λj u T=>by{have d:(g:Addr).add j=(g,j):=by{unfold ML;exact ji};grind[Own.cell]};have L:=run_append_grow w t ty e i z ht hi hz g n cap xs ji holds a m c news ji LS bm bm (growslice_fits bm LX);have A:=grown cap (Value.ownBlock (aK g n cap));exact ji
section
variable {P:zZ}{w:zW}{o:Oper}{a:Act}{Q:zX}(Ry:o.guard=aB)(s x:Operand)(t:zD)
  (ho:o.op= .call ⟨.builtin .append,#[s,x],#[t,t]⟩)
  (base:Nat) (e:zD) (i:TypeInfo) (z:zY) (ht:P.underlying t=aA (.slice e)) (hi:P.info? e=aA i) (hz:i.zero=aA z)
  (ZQ:i.size=1) (xz:z.cells.size=1) (v:zY) (n:Nat) (xs:zV) (hs:a.eval s=v) (oG:Own w base e v n xs)
  (ad:Addr) (m c:Nat) (news:zV) (hm:0<m) (hx:a.eval x=aK (aA ad) m c) (hl:news.length=m) (LS:∀j u,news[j]? =aA u->w.cell? (ad.add j)=aA u) (h1:∀u∈news,u.oneCell'=aF)
  (h63:n+m<=maxLen) (LX:(n+m)*i.bytes<=140737488355328) (FZ:base<=w.heap.size)
include ho ht hi hz ZQ xz hs oG hm hx hl LS h1 h63 LX FZ
omit Ry in
def tV {K:Act->zW->Prop} (h:∀v' w',Own w' base e v' (n+m) (xs++news)->w.grownBy w' v.ownBlock->K (a.put o.dst v') w'):o.wp P a w K Q:=by let⟨v',w',b,f,d⟩:=zBj (P:=P) w base t o.type e i z ht hi hz ZQ xz v n xs oG ad m c news hm hl LS h1 h63 LX FZ;unfold Oper.wp execOp;simp only[ho,resolve,invoke,builtin,Sem.run_bind,Sem.run_pure,Result.andThen_ok,Lu,List.map_cons,List.map_nil,hs,hx,b];exact h v' w' f d
include Ry
def oU {ops rest} (h:∀v' w',Own w' base e v' (n+m) (xs++news)->w.grownBy w' v.ownBlock->wpList P ops Q rest (a.put o.dst v') w'):wpList P ops Q (o::rest) a w:=wpList_plain Ry λ_ b=>tV s x t ho base e i z ht hi hz ZQ xz v n xs hs oG ad m c news hm hx hl LS h1 h63 LX FZ λv' w' f d=>b _ _ (h v' w' f d)
end
def Own.form {w base e v n xs}(h:Own w base e v n xs)(d:0<n):∃g cap,v=aK (aA ⟨g,0,aB⟩) n cap:=by obtain⟨_,f⟩|⟨g,cap,_,_,b,_⟩:=h.2;all_goals grind
theorem dF {w w':zW}{o:Obj}{row:Option Nat}(h:(zAK w o).grownBy w' row):w.grownBy w' row:= ⟨h.os,h.tape,h.output,by have:=h.size;rw[size_alloc]at this;exact bm,by grind[Below.heap_alloc,World.grownBy.block,size_alloc]⟩
def bT.grown {w w' row g t cs}(h:bT w g t cs)(d:w.grownBy w' row)(b:aA g≠row):bT w' g t cs:=by unfold bT;rw[d.block g h.lt b];exact h
def mO {w base e v n xs}(h:Own w base e v n xs)(g)(d:g<base):aA g≠v.ownBlock:=by intro b;have:=(h.lt g b.symm).1;exact bm
def lH {w0 w w':zW}{B base:Nat}{e:zD}{v:zY}{n:Nat}{xs:zV}(hb:Below B w0 w)(h:Own w base e v n xs)(f:w.grownBy w' v.ownBlock)(g:B<=base)(b:B<=w.heap.size):Below B w0 w':=hb.grown f b λk d=>Az g (h.lt k d).1
def rZ:∃i,zq.info? 5=aA i/\i.zero=aA (aC aQ 0)/\i.size=1/\i.bytes=1:=by have h:(zq.info? 5).map (λi=>(i.zero,i.size,i.bytes))=aA (aA (aC aQ 0),1,1):=by{kernel_rfl};exact j1
section
variable {W:zW}{ops:zQ}{o:Oper}{a:Act}{Q:zX}(Ry:o.guard=aB)(s x:Operand)
  (ho:o.op= .call ⟨.builtin .append,#[s,x],#[50,50]⟩)
  (base:Nat) (v:zY) (n:Nat) (xs:zV) (hs:a.eval s=v) (oG:Own W base 5 v n xs) (ys:zV) (c:Nat) (hx:a.eval x=aK W ys.length c) (hy:0<ys.length) (h1:∀u∈ys,u.oneCell'=aF)
  (hb:n+ys.length<=140737488355328) (FZ:base<=W.heap.size)
include Ry ho hs oG hx hy h1 hb FZ
def tB {rest:List Oper}
  (h:∀v' w',Own w' base 5 v' (n+zAH ys) (xs++ys)->W.grownBy w' v.ownBlock->wpList zq ops Q rest (a.put o.dst v') w'):wpList zq ops Q (o::rest) a (zAK W (aJ (zAL ys) 5)):=by
 let⟨i,hi,hz,b,f⟩:=rZ;refine oU Ry s x 50 ho base 5 i (aC aQ 0) j1 hi hz b rfl v n xs hs (oG.alloc _) _ (zAH ys) c ys hy hx rfl (λj u l=> ?_) h1 j7 ji j6 (λv' w' k g=>h v' w' k (dF g));have d:(W:Addr).add j=(W,j):=by unfold ML;split<;>simp_all
 exact j1
def yU {K:Act->zW->Prop}{E:Prop}
  (h:∀v' w',Own w' base 5 v' (n+zAH ys) (xs++ys)->W.grownBy w' v.ownBlock->K (a.put o.dst v') w'):
  if Region.wanted o (yielded ops a.tmps)=aF then Oper.wp zq o a (zAK W (aJ (zAL ys) 5)) K Q else E:=by
 have f:Region.wanted o (yielded ops a.tmps)=aF:=by simp[Region.wanted,Ry]
 rw[AE f];let⟨i,hi,hz,b,g⟩:=rZ;refine tV s x 50 ho base 5 i (aC aQ 0) j1 hi hz b rfl v n xs hs (oG.alloc _) _ (zAH ys) c ys hy hx rfl (λj u k=> ?_) h1 j7 ji j6 (by grind[dF]);have d:(W:Addr).add j=(W,j):=by unfold ML;split<;>simp_all
 exact j1
end
def WC:∃i,zq.info? 9=aA i/\i.zero=aA (aL ⟨#[]⟩)/\i.size=1/\i.bytes=16:=by have h:(zq.info? 9).map (λi=>(i.zero,i.size,i.bytes))=aA (aA (aL ⟨#[]⟩),1,16):=by{kernel_rfl};exact j1
def GC {W ops rest o a Q}(Ry:o.guard=aB)(s x)
  (ho:o.op= .call ⟨.builtin .append,#[s,x],#[82,82]⟩)
  (base) (v) (n) (xs) (hs:a.eval s=v) (oG:Own W base 9 v n xs) (ys) (c) (hx:a.eval x=aK (aA ⟨W.heap.size,0,aB⟩) ys.length c) (hy:0<ys.length) (h1:∀u∈ys,u.oneCell'=aF)
  (hb:n+ys.length<=1000000) (FZ:base<=W.heap.size)
  (h:∀v' w',Own w' base 9 v' (n+ys.length) (xs++ys)->W.grownBy w' v.ownBlock->wpList zq ops Q rest (a.put o.dst v') w'):wpList zq ops Q (o::rest) a (W.alloc (aJ ys.toArray 9)):=by
 let⟨i,hi,hz,b,f⟩:=WC;refine oU Ry s x 82 ho base 9 i (aL ⟨#[]⟩) j1 hi hz b rfl v n xs hs (oG.alloc _) _ (zAH ys) c ys hy hx rfl (λj u l=> ?_) h1 j7 ji j6 (λv' w' k g=>h v' w' k (dF g));have d:(W:Addr).add j=(W,j):=by unfold ML;split<;>simp_all
 exact j1
def R8.bX (s:R8):zA:= #[aC aR (V s.a),aC aR (V s.b),aC aR (V s.c),aC aR (V s.d),aC aR (V s.e),aC aR (V s.f),aC aR (V s.g),aC aR (V s.h)]
def YC (s u:R8)(t:Nat)(h:t<8):(s.part u t).bX[t]? =aA (aC aR (V (s.get t))):=by match t,h with|0,_|1,_|2,_|3,_|4,_|5,_|6,_|7,_=>rfl
def YB (s u:R8)(t:Nat)(h:t<8):zAI (s.part u t).bX t (aC aR (V (s.get t+u.get t)))=(s.part u (t+1)).bX:=by match t,h with|0,_|1,_|2,_|3,_|4,_|5,_|6,_|7,_=>rfl
def yV (s:R8)(t:Nat)(h:t<8):s.bX[t]? =aA (aC aR (V (s.get t))):=by match t,h with|0,_|1,_|2,_|3,_|4,_|5,_|6,_|7,_=>rfl
def CN (l:zB)(b:UInt8)(h:(acc l).toNat<16777216):(acc (l++[b])).toNat=(acc l).toNat*256+b.toNat:=by have a:=b.toNat_lt;rw[Cl,BitVec.toNat_or,BitVec.toNat_shiftLeft,BitVec.toNat_ofNat,Nat.mod_eq_of_lt (by omega:b.toNat<2^32),Mf,Nat.mod_eq_of_lt bm,<-Mf,<-Nat.shiftLeft_add_eq_or_of_lt a,Mf]
def Yu (a b c d:UInt8):V (acc [a,b,c,d])=(a.toNat:Int)*16777216+(b.toNat:Int)*65536+(c.toNat:Int)*256+(d.toNat:Int):=by have k:=a.toNat_lt;have j:=b.toNat_lt;have i:=c.toNat_lt;have g:(acc [a]).toNat=a.toNat:=by{have:=CN [] a j2;simpa [Lf]using this};have f:(acc [a,b]).toNat=a.toNat*256+b.toNat:=by{have:=CN [a] b bm;rw[g]at this;exact this};have e:(acc [a,b,c]).toNat=(a.toNat*256+b.toNat)*256+c.toNat:=by{have:=CN [a,b] c bm;rw[f]at this;exact this};have h:(acc [a,b,c,d]).toNat=((a.toNat*256+b.toNat)*256+c.toNat)*256+d.toNat:=by{have:=CN [a,b,c] d bm;rw[e]at this;exact this};unfold V;rw[h];exact bm
def gj (l:zB)(h:4<=zAH l):l.take 4=[l.getD 0 0,l.getD 1 0,l.getD 2 0,l.getD 3 0]:=by match l,h with|a::b::c::d::r,_=>rfl
def VK (l:zB)(t:Nat)(h:4*t+4<=zAH l):V (sF l t)=((l.getD (4*t) 0).toNat:Int)*16777216+((l.getD (4*t+1) 0).toNat:Int)*65536+((l.getD (4*t+2) 0).toNat:Int)*256+((l.getD (4*t+3) 0).toNat:Int):=by have e:∀j,(l.drop (4*t)).getD j 0=l.getD (4*t+j) 0:=λj=>by{simp[List.getD,Hm]};rw[sF,gj _ j3,Yu,e 0,e 1,e 2,e 3,Eo]
def aBR (a b c d:BitVec 32):(V a+V b+V c+V d)%4294967296=V (a+b+c+d):=G0
def aBP (a b c d e f g:BitVec 32):(V a+V b+V c+V d+V e+(V f+V g))%4294967296=V (a+b+c+d+e+(f+g)):=G0
def vw (x a b c d e:BitVec 32):(V x+(V a+V b+V c+V d+V e))%4294967296=V (x+(a+b+c+d+e)):=G0
def aMy (x:BitVec 32)(w:zW):Calls zq 105 #[aC aR (V x),aC aD 6,aC aD 11,aC aD 25] w λe a=>e=aM (aC aR (V (S1 x)))/\∃k,a=w.drewN k:=QO x 6 11 25 w j2 j2 j2
def zGj (x:BitVec 32)(w:zW):Calls zq 105 #[aC aR (V x),aC aD 2,aC aD 13,aC aD 22] w λe a=>e=aM (aC aR (V (S0 x)))/\∃k,a=w.drewN k:=QO x 2 13 22 w j2 j2 j2
def FW (x:BitVec 32)(w:zW):Calls zq 104 #[aC aR (V x),aC aD 17,aC aD 19,aC aD 10] w λe a=>e=aM (aC aR (V (s1 x)))/\∃k,a=w.drewN k:=LI x 17 19 10 w j2 j2 j2
def FX (x:BitVec 32)(w:zW):Calls zq 104 #[aC aR (V x),aC aD 7,aC aD 18,aC aD 3] w λe a=>e=aM (aC aR (V (s0 x)))/\∃k,a=w.drewN k:=LI x 7 18 3 w j2 j2 j2
attribute [local go_sem] V64_xor V64_and V64_not V64_wrap
def Qq (s:R8)(l:zB)(o:Nat->BitVec 32)(gt J R ck cb:Nat)(w:zW)(hl:zAH l=64)
  (hk:∀t:Nat,t<64->w.cell? (gt,t)=aA (aC aR (V (o t)))) (r:∀j:Nat,j<64->w.cell? (J,R+j)=aA (aC aQ ((l.getD j 0).toNat:Int))) (hgt:gt<w.heap.size) (hgb:J<w.heap.size):
  Calls zq 91 #[.agg s.bX,aK gt 64 ck,aK (J,R) 64 cb] w λe w'=>e=aM (.agg (s.mix o (sched l 48)).bX)/\zb w w':=by
 have HK:=hid hk;have HB:=hid r;have HL:=hid hl;clear hk r hl;go_enter (Qz.fn func91),ntmps91;go_wp2;go_loopg [8] 64 (λk i wr=>∃(t:Nat)(f:Nat->BitVec 32),t+k=64/\i=aC aD t/\zb w wr/\wr.heap.size=w.heap.size+3/\bT wr w 152 s.bX/\(∃z:zA,z.size=8/\bT wr (w.heap.size+1) 152 z)/\bT wr (w.heap.size+2) 171 (row aR f)/\(t<=16->f=eU l t)/\(16<=t->f=sched l (t-16)));case atStart=>
  refine⟨0,eU l 0,rfl,rfl,(((Av _ _).alloc (je _) _).alloc j0 _).alloc j3 _,j0,((bT.new _ _ _).alloc _).alloc _,⟨#[aC aR 0,aC aR 0,aC aR 0,aC aR 0,aC aR 0,aC aR 0,aC aR 0,aC aR 0],rfl,?_⟩,?_,λ_=>rfl,λh=>bm⟩
  .have:=(bT.new (zAK w (aJ s.bX 152)) 152 #[aC aR 0,aC aR 0,aC aR 0,aC aR 0,aC aR 0,aC aR 0,aC aR 0,aC aR 0]).alloc (aJ (row aR (eU l 0)) 171);rw[size_alloc]at this;exact this
  .have:=bT.new (zAK (zAK w (aJ s.bX 152)) (aJ #[aC aR 0,aC aR 0,aC aR 0,aC aR 0,aC aR 0,aC aR 0,aC aR 0,aC aR 0] 152)) 171 (row aR (eU l 0));rw[size_alloc,size_alloc]at this;exact this
 case round=>
  obtain⟨t,f,ht,rfl,b1,b2,b3,b4,b5,b6,b7⟩:=hrel
  have E:=hid b1
  have U:=hid b2
  have Q:=hid b3
  have T:=hid b4
  have C:=hid b5
  have P:Hid ((t<=16->f=eU l t)/\(16<=t->f=sched l (t-16))):=⟨b6,b7⟩
  clear b1 b2 b3 b4 b5 b6 b7
  by_cases hlt:t<64
  .have e0:wr.cell? (w.heap.size+2,t)=aA (aC aR (V (f t))):=I8;have e9:wr.frozen? (w.heap.size+2,t)=aG:=C.frozen _;by_cases h16:t<16
   .have q:∀j,j<64->wr.cell? (J,R+j)=aA (aC aQ ((l.getD j 0).toNat:Int)):=λj hj=>by
     rw[E.out.cell (p:=(J,R+j)) hgb];exact HB j hj
    have S:=q (4*t) bm;have e2:=q (4*t+1) bm;have e3:=q (4*t+2) bm;have e4:=q (4*t+3) bm;clear q;have r0:∀j,0<=((l.getD j 0).toNat:Int)/\((l.getD j 0).toNat:Int)<256:=λj=>by{have:=(l.getD j 0).toNat_lt;exact bm};have w4:Hid (V (sF l t)=((l.getD (4*t) 0).toNat:Int)*16777216+((l.getD (4*t+1) 0).toNat:Int)*65536+((l.getD (4*t+2) 0).toNat:Int)*256+((l.getD (4*t+3) 0).toNat:Int)):=VK l t (by rw[HL.out];exact bm);let⟨p1,p2⟩:=r0 (4*t);let⟨p3,p4⟩:=r0 (4*t+1);let⟨p5,p6⟩:=r0 (4*t+2);let⟨p7,p8⟩:=r0 (4*t+3);clear r0;generalize((l.getD (4*t) 0).toNat:Int)=y0 at*;generalize((l.getD (4*t+1) 0).toNat:Int)=y1 at*;generalize((l.getD (4*t+2) 0).toNat:Int)=y2 at*;generalize((l.getD (4*t+3) 0).toNat:Int)=y3 at*;go_wp2;refine Tail.vK 35 c9 c9 ?_;simp only[Ia,Fy,Hz,Gq];(repeat (any_goals(first|go_big_quiet_step ((fail))|quiet_step ((fail)))));refine Dn ?_;intro _ A;obtain⟨nq,rfl⟩:=A;go_wp2;go_roundg (63-t);case measure=>omega
    case rel=>
     go_light
     rw[<-w4.out]
     refine⟨t+1,eU l (t+1),bm,j9,(below_drewN E nq).setCell j3 _,by rw[size_setCell,JK,U.out],(Q.drewN nq).cB _ _ j3,?_,?_,λ_=>rfl,λh=> ?_⟩
     .obtain⟨z,y,r⟩:=T;exact P8
     .have:=(C.drewN nq).bR t (aC aR (V (sF l t)));rw[GZ,P.out.1 bm,LW]at this;exact this
     .obtain rfl:t=15:=bm;rfl
   .obtain⟨n,rfl⟩:∃n,t=16+n:=⟨t-16,bm⟩;have I:=P.2 bm;rw[show 16+n-16=n from bm]at I;subst I;clear P;have S:wr.cell? (w.heap.size+2,16+n-2)=aA (aC aR (V (sched l n (16+n-2)))):=I8;have e2:wr.cell? (w.heap.size+2,16+n-7)=aA (aC aR (V (sched l n (16+n-7)))):=I8;have e3:wr.cell? (w.heap.size+2,16+n-15)=aA (aC aR (V (sched l n (16+n-15)))):=I8;have e4:wr.cell? (w.heap.size+2,n)=aA (aC aR (V (sched l n n))):=by rw[C.out.cell,gI _ _ _ bm]
    have O:Hid (sched l (n+1)=put (sched l n) (16+n) (s1 (sched l n (16+n-2))+sched l n (16+n-7)+s0 (sched l n (16+n-15))+sched l n n)):=by show _=_;rw[sched,show 16+n-16=n from bm]
    generalize sched l n (16+n-2)=F at S O;generalize sched l n (16+n-7)=W at e2 O;generalize sched l n (16+n-15)=x at e3 O;generalize sched l n n=D at e4 O;go_wp2;have q1:=eV (s1 F);have q2:=wO (s1 F);have q3:=eV W;have q4:=wO W;have q5:=eV (s0 x);have q6:=wO (s0 x);have q7:=eV D;have q8:=wO D;refine Tail.vK 24 c9 c9 ?_;simp only[Ia,Fy,Hz,Gq];(repeat (any_goals(first|go_big_quiet_step ((first|(go_at_call_of 104 (V F);exact Mb (FW _ _))|(go_at_call_of 104 (V x);exact Mb (FX _ _))))|quiet_step ((first|(go_at_call_of 104 (V F);exact Mb (FW _ _))|(go_at_call_of 104 (V x);exact Mb (FX _ _)))))));refine Dn ?_;intro _ A;obtain⟨nq,rfl⟩:=A;go_wp2;go_roundg (47-n);case measure=>omega
    case rel=>
     go_light
     rw[aBR]
     refine⟨16+n+1,sched l (n+1),bm,j9,(below_drewN E nq).setCell j3 _,by rw[size_setCell,JK,U.out],(Q.drewN nq).cB _ _ j3,?_,?_,λh=>bm,λh=> ?_⟩
     .obtain⟨z,y,r⟩:=T;exact P8
     .have:=(C.drewN nq).bR (16+n) (aC aR (V (s1 F+W+s0 x+D)));rw[GZ,<-O.out]at this;exact this
     .rw[show 16+n+1-16=n+1 from bm]
  .obtain rfl:t=64:=by omega
   have I:=P.2 bm;rw[show 64-16=48 from rfl]at I;subst I;clear P HB;have c1:Hid (zb w ((zAK wr (aJ #[aC aR 0,aC aR 0,aC aR 0,aC aR 0,aC aR 0,aC aR 0,aC aR 0,aC aR 0] 152)).setRow wr s.bX)):=eH (E.alloc E.size _) E.size _;have G:=U.out.symm;have c3:Hid (bT ((zAK wr (aJ #[aC aR 0,aC aR 0,aC aR 0,aC aR 0,aC aR 0,aC aR 0,aC aR 0,aC aR 0] 152)).setRow wr s.bX) w.heap.size 152 s.bX):=(Q.alloc _).kX _ bm;have c4:Hid (∃z:zA,z.size=8/\bT ((zAK wr (aJ #[aC aR 0,aC aR 0,aC aR 0,aC aR 0,aC aR 0,aC aR 0,aC aR 0,aC aR 0] 152)).setRow wr s.bX) (w.heap.size+1) 152 z):=by let⟨z,y,r⟩:=T;exact⟨z,y,(r.alloc _).kX _ bm⟩
   have c5:Hid (bT ((zAK wr (aJ #[aC aR 0,aC aR 0,aC aR 0,aC aR 0,aC aR 0,aC aR 0,aC aR 0,aC aR 0] 152)).setRow wr s.bX) (w.heap.size+2) 171 (row aR (sched l 48))):=(C.alloc _).kX _ bm;have c6:Hid (bT ((zAK wr (aJ #[aC aR 0,aC aR 0,aC aR 0,aC aR 0,aC aR 0,aC aR 0,aC aR 0,aC aR 0] 152)).setRow wr s.bX) wr.heap.size 152 s.bX):=(bT.new wr 152 #[aC aR 0,aC aR 0,aC aR 0,aC aR 0,aC aR 0,aC aR 0,aC aR 0,aC aR 0]).gH _;go_wp2_with (first
    |refine Dx rfl 152 _ rfl w rfl _ _ _ _ Q ((Qz.eR 152).trans underlying152) rfl c9 ?_
    |refine Gz rfl 152 _ _ rfl wr _ rfl rfl _ _ (bT.new wr 152 #[aC aR 0,aC aR 0,aC aR 0,aC aR 0,aC aR 0,aC aR 0,aC aR 0,aC aR 0]) (by kernel_rfl) rfl (by kernel_rfl) ?_)
   generalize(zAK wr (aJ #[aC aR 0,aC aR 0,aC aR 0,aC aR 0,aC aR 0,aC aR 0,aC aR 0,aC aR 0] 152)).setRow wr s.bX=W1 at*;have K:=hid G;clear E U Q T C G;generalize wr.heap.size=u at*;have hgv:w.heap.size+3<=u:=by{rw[K.out];exact bm};clear K;go_loopg [10] 64 (λk i B=>∃t:Nat,t+k=64/\i=aC aD t/\zb w B/\bT B w 152 s.bX/\(∃z:zA,z.size=8/\bT B (w.heap.size+1) 152 z)/\bT B (w.heap.size+2) 171 (row aR (sched l 48))/\bT B u 152 (R8.steps o (sched l 48) t s).bX);case atStart=>exact⟨0,rfl,rfl,c1,c3,c4,c5,c6⟩
   case round=>
    obtain⟨t,ht,rfl,d1,d3,d4,d5,d6⟩:=hrel
    clear c1 c3 c4 c5 c6
    have D1:=hid d1
    have D3:=hid d3
    have D4:=hid d4
    have D5:=hid d5
    generalize H:R8.steps o (sched l 48) t s=st at d6
    have M:=hid H
    have D6:=hid d6
    clear d1 d3 d4 d5 d6 H
    by_cases hlt:t<64
    .have e0:wr.cell? (gt,t)=aA (aC aR (V (o t))):=by{rw[D1.out.cell (p:=(gt,t)) hgt];exact HK t hlt};have S:wr.cell? (w.heap.size+2,t)=aA (aC aR (V (sched l 48 t))):=by{rw[D5.out.cell,gI _ _ _ hlt]};have f0:wr.cell? u=aA (aC aR (V st.a)):=D6.cell 0;have f1:wr.cell? (u,1)=aA (aC aR (V st.b)):=D6.cell 1;have f2:wr.cell? (u,2)=aA (aC aR (V st.c)):=D6.cell 2;have f3:wr.cell? (u,3)=aA (aC aR (V st.d)):=D6.cell 3;have f4:wr.cell? (u,4)=aA (aC aR (V st.e)):=D6.cell 4;have f5:wr.cell? (u,5)=aA (aC aR (V st.f)):=D6.cell 5;have f6:wr.cell? (u,6)=aA (aC aR (V st.g)):=D6.cell 6;have f7:wr.cell? (u,7)=aA (aC aR (V st.h)):=D6.cell 7;go_wp2;have qh0:=eV st.h;have qh1:=wO st.h;have qe0:=eV st.e;have qe1:=wO st.e;have qs0:=eV (S1 st.e);have Z:=wO (S1 st.e);have qc0:=eV (st.e&&&st.f^^^ ~~~st.e&&&st.g);have qc1:=wO (st.e&&&st.f^^^ ~~~st.e&&&st.g);have qk0:=eV (o t);have qk1:=wO (o t);have Y:=eV (sched l 48 t);have X:=wO (sched l 48 t);go_quiet ((exact Mb (aMy _ _)));revert nq;intro n1;go_wp2;have qa0:=eV (S0 st.a);have qa1:=wO (S0 st.a);have qm0:=eV (st.a&&&st.b^^^st.a&&&st.c^^^st.b&&&st.c);have qm1:=wO (st.a&&&st.b^^^st.a&&&st.c^^^st.b&&&st.c);go_quiet ((exact Tail.aMN (zGj _ _)));rw[World.drewN_drewN];revert nq;intro n2;generalize n1+n2=m;have N:Hid (V st.h+V (S1 st.e)+V (st.e&&&st.f^^^ ~~~st.e&&&st.g)+V (o t)+V (sched l 48 t)<21474836480/\0<=V st.h+V (S1 st.e)+V (st.e&&&st.f^^^ ~~~st.e&&&st.g)+V (o t)+V (sched l 48 t)):=by{constructor<;>omega};have L:Hid (V (S0 st.a)+V (st.a&&&st.b^^^st.a&&&st.c^^^st.b&&&st.c)<8589934592/\0<=V (S0 st.a)+V (st.a&&&st.b^^^st.a&&&st.c^^^st.b&&&st.c)):=by{constructor<;>omega};have Hx:Hid ((V st.h+V (S1 st.e)+V (st.e&&&st.f^^^ ~~~st.e&&&st.g)+V (o t)+V (sched l 48 t)+(V (S0 st.a)+V (st.a&&&st.b^^^st.a&&&st.c^^^st.b&&&st.c)))%4294967296=V (st.step (o t) (sched l 48 t)).a):=aBP _ _ _ _ _ _ _;have Hy:Hid ((V st.d+(V st.h+V (S1 st.e)+V (st.e&&&st.f^^^ ~~~st.e&&&st.g)+V (o t)+V (sched l 48 t)))%4294967296=V (st.step (o t) (sched l 48 t)).e):=vw _ _ _ _ _ _;clear qh0 qh1 qe0 qe1 qs0 Z qc0 qc1 qk0 qk1 Y X qa0 qa1 qm0 qm1;generalize V st.h+V (S1 st.e)+V (st.e&&&st.f^^^ ~~~st.e&&&st.g)+V (o t)+V (sched l 48 t)=y1 at*;generalize V (S0 st.a)+V (st.a&&&st.b^^^st.a&&&st.c^^^st.b&&&st.c)=y2 at*;let⟨r1,r2⟩:=N;let⟨r3,r4⟩:=L;have r5:=eV st.d;have r6:=wO st.d;go_wp2_with (refine Gz rfl 152 _ _ rfl u _ rfl rfl _ _ (D6.drewN _) c9 rfl c9 ?_);go_roundg (63-t);case measure=>omega
     case rel=>
      go_light
      rw[Hx.out,Hy.out]
      refine⟨t+1,bm,j9,eH (below_drewN D1 m) bm _,(D3.drewN m).kX _ bm,?_,(D5.drewN m).kX _ bm,?_⟩
      .obtain⟨z,y,r⟩:=D4;exact⟨z,y,(r.drewN m).kX _ bm⟩
      .have hs:R8.steps o (sched l 48) (t+1) s=st.step (o t) (sched l 48 t):=by{rw[<-M.out];rfl};rw[hs];exact(D6.drewN m).gH _
    .obtain rfl:t=64:=bm;clear HK D5;go_wp2;go_loopg [13] 8 (λk i B=>∃t:Nat,t+k=8/\i=aC aD t/\zb w B/\bT B w 152 (s.part st t).bX/\(∃z:zA,z.size=8/\bT B (w.heap.size+1) 152 z)/\bT B u 152 st.bX);case atStart=>exact⟨0,rfl,rfl,D1,D3,D4,D6⟩
     case round=>
      obtain⟨t,ht,rfl,d1,d3,d4,d6⟩:=hrel
      clear D1 D3 D4 D6
      have D1:=hid d1
      have D3:=hid d3
      have D4:=hid d4
      have D6:=hid d6
      clear d1 d3 d4 d6
      by_cases hlt:t<8
      .have S:wr.cell? (w,t)=aA (aC aR (V (s.get t))):=by{rw[D3.out.cell,YC _ _ _ hlt]};have e2:wr.cell? (u,t)=aA (aC aR (V (st.get t))):=by{rw[D6.out.cell,yV _ _ hlt]};have e3:wr.frozen? (w,t)=aG:=D3.frozen _;go_wp2;have q1:=eV (s.get t);have q2:=wO (s.get t);have q3:=eV (st.get t);have q4:=wO (st.get t);refine Tail.vK 10 c9 c9 ?_;simp only[Ia,Fy,Hz,Gq];(repeat (any_goals(first|go_big_quiet_step ((fail))|quiet_step ((fail)))));refine Dn ?_;intro _ A;obtain⟨nq,rfl⟩:=A;go_wp2;go_roundg (7-t);case measure=>omega
       case rel=>
        go_light
        refine⟨t+1,bm,j9,(below_drewN D1 nq).setCell (je _) _,?_,?_,(D6.drewN nq).cB _ _ j3⟩
        .have:=(D3.drewN nq).bR t (aC aR (V (s.get t+st.get t)));rw[YB _ _ _ hlt]at this;exact this
        .obtain⟨z,y,r⟩:=D4;exact P8
      .obtain rfl:t=8:=bm;let⟨z,y,r⟩:=D4;have c2:bT wr w 152 (s.mix o (sched l 48)).bX:=by rw[R8.mix,M.out];exact D3
       have Q2:=hid c2;have Qb:=hid r;clear c2 r;go_wp2_with (first
        |refine Dx rfl 152 _ rfl w rfl _ _ _ _ Q2 ((Qz.eR 152).trans underlying152) rfl c9 ?_
        |refine Gz rfl 152 _ _ rfl (w.heap.size+1) _ rfl rfl _ _ Qb (by kernel_rfl) (by rw[y];rfl) (by kernel_rfl) ?_)
       refine Fx (v:= .agg (s.mix o (sched l 48)).bX) ?_ rfl ⟨rfl,?_⟩;{exact results_cell_row results91 _ _ (w.heap.size+1) _ _ _ _ rfl (Qb.gH _) ((Qz.eR 152).trans underlying152) rfl c9};{exact eH D1 bm _}
def zCt (w:zW): Calls zq 90 #[] w λe a=>e=aM (aK w 64 64)/\a=zAK w (aJ (row aR K) 122):=by go_enter (Qz.fn func90),ntmps90;go_wp2;go_ret;exact⟨rfl,congrArg (λc=>zAK w (aJ c 122)) c9⟩
def oJ (s:R8):s.bX.size=8:=rfl
def zAm (s:R8):s.bX.all (·.oneCell')=aF:=by simp[R8.bX,Value.oneCell']
def cZ (s:R8):s.cells.size=8:=rfl
def cells_one (s:R8):s.cells.all (·.oneCell')=aF:=by simp[R8.cells,Value.oneCell']
def bv (l:zB):zV:=l.map λb=>aC aQ (b.toNat:Int)
def UK (a b:zB):bv (a++b)=bv a++bv b:=by simp[bv]
def Yh (l:zB)(i:Nat)(h:i<zAH l):(bv l)[i]? =aA (aC aQ ((l.getD i 0).toNat:Int)):=by simp[bv,h]
def iq (l:zB)(j i:Nat)(h:i<64):(blk l j).getD i 0=l.getD (64*j+i) 0:=by simp[blk,List.getD,Hm,h]
theorem Table.below {g:Nat}{k:Nat->BitVec 32}{w w':zW}{B:Nat}(h:Table g k w)(a:Below B w w')(c:w.heap.size<=B):Table g k w':= ⟨Ao h.1 a.size,λt b=>by rw[a.cell (p:=(g,t)) (Ao h.1 c)];exact h.2 t b⟩
def xB (s:R8)(text)(w)(G:Table 2 K w)(_hl:text.size<=9223372036854775807):
  Calls zq 76 #[.agg s.cells,aL text] w λe A=>e=aM (.agg (cL s (zAM text.data) (text.size/64)).cells)/\zb w A:=by
 have M:=hid G;generalize I:zAM text.data=L at*;have S:=hid I;generalize E:text.size=n at*;have R:=hid E;go_enter (Qz.fn func76),ntmps76;go_wp2;go_loopg [1] (n/64) (λq v wr=>∃(j:Nat)(a:ByteArray),j+q=n/64/\v=aL a/\zAM a.data=L.drop (64*j)/\a.size=n-64*j/\zb w wr/\bT wr w 136 (cL s L j).cells/\∃z:zA,z.size=8/\bT wr (w.heap.size+1) 136 z);case atStart=>
  refine⟨0,text,bm,rfl,j5,j5,((Av _ _).alloc (je _) _).alloc j0 _,(bT.new _ _ _).alloc _,#[aC aP 0,aC aP 0,aC aP 0,aC aP 0,aC aP 0,aC aP 0,aC aP 0,aC aP 0],rfl,?_⟩
  have:=bT.new (zAK w (aJ s.cells 136)) 136 #[aC aP 0,aC aP 0,aC aP 0,aC aP 0,aC aP 0,aC aP 0,aC aP 0,aC aP 0]
  exact j1
 case round=>
  obtain⟨j,a,P,rfl,d1,u,y,x,b3⟩:=hrel
  have D1:=hid d1
  have D2:=hid u
  have m:=hid y
  have B:=hid x
  have N:=hid b3
  clear d1 u y x b3
  by_cases hlt:j<n/64
  .have i:64<=a.size:=by rw[D2.out];omega
   have c:zAM (a.extract 0 64).data=blk L j:=by rw[lX,Gq,D1.out];rfl
   have H:=hid c;clear c;have k:Hid (∀(d:Nat)(os:zJ),Calls zq 96 #[aL (a.extract 0 64)] (Go.Sort.grow (redrawn wr d) os) λe b=>e=aM (.agg (row aP (sched (blk L j) 48)))/\∃p:Regrown,b=Go.Sort.grow (redrawn wr p.d) p.os):=λd os=>by have h:=zBb (a.extract 0 64) j3 (Go.Sort.grow (redrawn wr d) os);rw[H.out]at h;exact Ma h
   have l:Hid (∀(d:Nat)(os:zJ),Calls zq 95 #[.agg (cL s L j).cells,.agg (row aP (sched (blk L j) 48))] (Go.Sort.grow (redrawn wr d) os) λe b=>e=aM (.agg (cL s L (j+1)).cells)/\∃p:Regrown,b=Go.Sort.grow (redrawn wr p.d) p.os):=λd os=>
    Ma (ez (cL s L j) (row aP (sched (blk L j) 48)) (sched (blk L j) 48) K _ (λt C=>gI _ _ _ C) ((M.below m (je _)).below (Dc wr d os) (je _)))
   go_wp2;refine Tail.sJ 5 c9 c9 ?_;simp only[Ia,Fy,Hz,Gq];refine gW rfl 136 _ rfl w rfl 136 (cL s L j).cells _ (λW F=> ?_) ((Qz.eR 136).trans underlying136) rfl s9 ?_;{obtain⟨p,rfl⟩:=F;exact B.below (Dc wr p.d p.os) B.lt};simp only[Act.put,Ey,Fs,Gx];(repeat (any_goals(first|go_big_quiet_step ((first|(go_at_call 96;exact k _ _)|(go_at_call 95;exact l _ _)))|quiet_step ((first|(go_at_call 96;exact k _ _)|(go_at_call 95;exact l _ _))))));refine Dn ?_;intro J g;let⟨p,D⟩:=g;have r:Hid (zb wr J):=by{grind[below_regrown]};clear D k l;have o:=hid (B.below r B.lt);go_wp2_with (refine Gz rfl 136 _ _ rfl w _ rfl rfl _ _ o s9 (by rw[cZ,cZ]) (cells_one _) ?_);go_roundg (n/64-(j+1));case measure=>omega
   case rel=>
    go_light
    refine⟨j+1,_,bm,rfl,?_,?_,eH (m.out.trans (r.mono m.size)) (je _) _,o.gH _,?_⟩
    .rw[lX,KC j0,D1.out,List.drop_drop,show 64*j+64=64*(j+1)from bm]
    .have:=D2.out;exact j3
    grind[Hid,bT.kX,bT.below,bT.lt]
  .obtain rfl:j=n/64:=bm;have i:a.size<64:=by rw[D2.out];omega
   let⟨z,O,f⟩:=N;have Q:=hid f;clear f;go_wp2_with (first
    |refine Dx rfl 136 _ rfl w rfl _ _ _ _ B ((Qz.eR 136).trans underlying136) rfl s9 ?_
    |refine Gz rfl 136 _ _ rfl (w.heap.size+1) _ rfl rfl _ _ Q (by rw[cZ];kernel_rfl) (by assumption) (cells_one _) ?_)
   refine Fx ?_ rfl ⟨rfl,?_⟩;{exact results_cell_row results76 _ _ (w.heap.size+1) _ _ _ _ rfl (Q.gH _) ((Qz.eR 136).trans underlying136) rfl s9};grind[Hid,eH]
end Go.Proofs.Zq
namespace Go.Proofs
open Go.Shelf
def Qz.ZE:Go.Shelf.Ren:=⟨λ|105=>97|212=>111|99=>112|165=>113|166=>114|170=>115|169=>116|263=>122|264=>123|206=>124|240=>125|241=>126|276=>131|277=>132|n=>n,λ|9=>9|3=>3|4=>4|20=>20|0=>0|46=>139|109=>174|5=>5|72=>178|76=>181|51=>135|146=>187|53=>122|148=>189|70=>176|37=>50|75=>180|127=>184|164=>191|80=>161|n=>n,λ|n=>n⟩
def Qz.fp:Go.Proofs.Lays.n105 zq Qz.ZE:={
 mixed:=by kernel_rfl
 f99:=(Qz.fn func112).trans (congrArg aA c9)
 f105:=(Qz.fn func97).trans (congrArg aA c9)
 f165:=(Qz.fn func113).trans (congrArg aA c9)
 f166:=(Qz.fn func114).trans (congrArg aA c9)
 f169:=(Qz.fn func116).trans (congrArg aA c9)
 f170:=(Qz.fn func115).trans (congrArg aA c9)
 f206:=(Qz.fn func124).trans (congrArg aA c9)
 f212:=(Qz.fn func111).trans (congrArg aA c9)
 f240:=(Qz.fn func125).trans (congrArg aA c9)
 f241:=(Qz.fn func126).trans (congrArg aA c9)
 f263:=(Qz.fn func122).trans (congrArg aA c9)
 f264:=(Qz.fn func123).trans (congrArg aA c9)
 f276:=(Qz.fn func131).trans (congrArg aA c9)
 f277:=(Qz.fn func132).trans (congrArg aA c9)
 t0:=((Qz.eR 0).trans Tryz.underlying0)
 a0:=(λw=>(Qz.isAgg w 0).trans (Tryz.isAgg0 w))
 z0:=(λw=>(Qz.sizeOf w 0).trans (Tryz.sizeOf0 w))
 v0:=(λw=>(Qz.zeroValue w 0).trans j1)
 t3:=((Qz.eR 3).trans Tryz.underlying3)
 a3:=(λw=>(Qz.isAgg w 3).trans (Tryz.isAgg3 w))
 z3:=(λw=>(Qz.sizeOf w 3).trans (Tryz.sizeOf3 w))
 v3:=(λw=>(Qz.zeroValue w 3).trans j1)
 t4:=((Qz.eR 4).trans Tryz.underlying4)
 a4:=(λw=>(Qz.isAgg w 4).trans (Tryz.isAgg4 w))
 z4:=(λw=>(Qz.sizeOf w 4).trans (Tryz.sizeOf4 w))
 v4:=(λw=>(Qz.zeroValue w 4).trans j1)
 t5:=((Qz.eR 5).trans Tryz.underlying5)
 a5:=(λw=>(Qz.isAgg w 5).trans (Tryz.isAgg5 w))
 z5:=(λw=>(Qz.sizeOf w 5).trans (Tryz.sizeOf5 w))
 v5:=(λw=>(Qz.zeroValue w 5).trans j1)
 t9:=((Qz.eR 9).trans Tryz.underlying9)
 a9:=(λw=>(Qz.isAgg w 9).trans (Tryz.isAgg9 w))
 z9:=(λw=>(Qz.sizeOf w 9).trans (Tryz.sizeOf9 w))
 v9:=(λw=>(Qz.zeroValue w 9).trans j1)
 t20:=((Qz.eR 20).trans j1)
 a20:=(λw=>(Qz.isAgg w 20).trans (Tryz.isAgg20 w))
 z20:=(λw=>(Qz.sizeOf w 20).trans j1)
 v20:=(λw=>(Qz.zeroValue w 20).trans j1)
 t37:=((Qz.eR 50).trans Tryz.underlying50)
 a37:=(λw=>(Qz.isAgg w 50).trans (Tryz.isAgg50 w))
 z37:=(λw=>(Qz.sizeOf w 50).trans j1)
 v37:=(λw=>(Qz.zeroValue w 50).trans j1)
 t46:=((Qz.eR 139).trans j1)
 a46:=(λw=>(Qz.isAgg w 139).trans j1)
 z46:=(λw=>(Qz.sizeOf w 139).trans j1)
 v46:=(λw=>(Qz.zeroValue w 139).trans j1)
 t51:=((Qz.eR 135).trans j1)
 a51:=(λw=>(Qz.isAgg w 135).trans j1)
 z51:=(λw=>(Qz.sizeOf w 135).trans j1)
 v51:=(λw=>(Qz.zeroValue w 135).trans j1)
 t53:=((Qz.eR 122).trans j1)
 a53:=(λw=>(Qz.isAgg w 122).trans j1)
 z53:=(λw=>(Qz.sizeOf w 122).trans j1)
 v53:=(λw=>(Qz.zeroValue w 122).trans j1)
 t70:=((Qz.eR 176).trans Tryz.underlying176)
 a70:=(λw=>(Qz.isAgg w 176).trans j1)
 z70:=(λw=>(Qz.sizeOf w 176).trans j1)
 v70:=(λw=>(Qz.zeroValue w 176).trans j1)
 t72:=((Qz.eR 178).trans Tryz.underlying178)
 a72:=(λw=>(Qz.isAgg w 178).trans j1)
 z72:=(λw=>(Qz.sizeOf w 178).trans j1)
 v72:=(λw=>(Qz.zeroValue w 178).trans j1)
 t75:=((Qz.eR 180).trans Tryz.underlying180)
 a75:=(λw=>(Qz.isAgg w 180).trans j1)
 z75:=(λw=>(Qz.sizeOf w 180).trans j1)
 v75:=(λw=>(Qz.zeroValue w 180).trans j1)
 t76:=((Qz.eR 181).trans Tryz.underlying181)
 a76:=(λw=>(Qz.isAgg w 181).trans j1)
 z76:=(λw=>(Qz.sizeOf w 181).trans j1)
 v76:=(λw=>(Qz.zeroValue w 181).trans j1)
 t109:=((Qz.eR 174).trans Tryz.underlying174)
 a109:=(λw=>(Qz.isAgg w 174).trans j1)
 z109:=(λw=>(Qz.sizeOf w 174).trans j1)
 v109:=(λw=>(Qz.zeroValue w 174).trans j1)
 t127:=((Qz.eR 184).trans Tryz.underlying184)
 a127:=(λw=>(Qz.isAgg w 184).trans j1)
 z127:=(λw=>(Qz.sizeOf w 184).trans j1)
 v127:=(λw=>(Qz.zeroValue w 184).trans j1)
 t146:=((Qz.eR 187).trans Tryz.underlying187)
 a146:=(λw=>(Qz.isAgg w 187).trans j1)
 z146:=(λw=>(Qz.sizeOf w 187).trans j1)
 v146:=(λw=>(Qz.zeroValue w 187).trans j1)
 t148:=((Qz.eR 189).trans Tryz.underlying189)
 a148:=(λw=>(Qz.isAgg w 189).trans j1)
 z148:=(λw=>(Qz.sizeOf w 189).trans j1)
 v148:=(λw=>(Qz.zeroValue w 189).trans j1)
 t164:=((Qz.eR 191).trans j1)
 a164:=(λw=>(Qz.isAgg w 191).trans j1)
 z164:=(λw=>(Qz.sizeOf w 191).trans j1)
 v164:=(λw=>(Qz.zeroValue w 191).trans (by simp_all))}
open Go.RowKit Go.Lib in
def Qz.strings_Repeat (s:ByteArray)(c:Nat)(w:zW)(h:c<=9223372036854775807)(hlen:s.size*c<=140737488355328):
  Calls zq 97 #[aL s,c] w λe a=>e=aM (aM9 (zAM s.data) c)/\zb w a:=Any.strings_Repeat Qz.fp ({
      sizeBuilder:=by kernel_rfl
      liesBuilder:=by kernel_rfl
      t5:=((Qz.eR 5).trans Tryz.underlying5)
      a5:=(λw=>(Qz.isAgg w 5).trans (Tryz.isAgg5 w))
      z5:=(λw=>(Qz.sizeOf w 5).trans (Tryz.sizeOf5 w))
      v5:=(λw=>(Qz.zeroValue w 5).trans j1)
      infoByte:=by kernel_rfl
      cellsByte:=by kernel_rfl
      sizeByte:=by kernel_rfl
      neB5:=by decide}) s c w h hlen
end Go.Proofs
namespace Go.Proofs.Zq
open Go.RowKit Sha
def mP (m i:Nat):UInt8:=Dw (m/2^(8*(7-i)))
def eight (m:Nat):zB:=(List.range 8).map (mP m)
def Px (n):dY n=eight (8*n):=rfl
def zDr (m i):(m)/2^(8*(7-i))%256=((mP m i).toNat:Int):=by rw[mP,Hh,show(2:Nat)^8=256 from rfl,My,aNa,jH];rfl
def pJ (n t:Nat):zA:=zAL ((List.range 8).map λi=>Value.int aQ (if i<t then((mP n i).toNat:Int)else 0))
def rE (n t):(pJ n t).size=8:=by simp[pJ]
def oH (n t i)(h:i<8):(pJ n t)[i]? =aA (aC aQ (if i<t then((mP n i).toNat:Int)else 0)):=by simp[pJ,h]
def aMo (n t):zAI (pJ n t) t (aC aQ ((mP n t).toNat:Int))=pJ n (t+1):=by apply GI;intro i;rw[Hq,rE];by_cases h:i<8;{rw[oH n (t+1) i h];by_cases e:t=i;{exact ji};.rw[AF e,oH n t i h];exact ji};.rw[JZ (by rw[rE];exact bm),JZ (by rw[rE];exact bm)];exact ji
def uV (n:Nat)(w):
  Calls zq 64 #[aC aR n] w λe d=>e=aM (eight n)/\zb w d:=by
 go_enter (Qz.fn func64),ntmps64;go_wp2;go_loopg [5] 8 (λq i wr=>∃t:Nat,t+q=8/\i=aC aD t/\zb w wr/\bT wr w 149 (pJ n t));case atStart=>exact⟨0,rfl,rfl,(Av _ _).alloc (je _) _,bT.new _ _ _⟩
 case round=>
  obtain⟨t,m,rfl,l,k⟩:=hrel
  have c:=hid l
  have B:=hid k
  by_cases hlt:t<8
  .have g:wr.cell? (w,t)=aA (aC aQ (if t<t then((mP n t).toNat:Int)else 0)):=by{rw[B.out.cell,oH _ _ _ hlt]};rw[AF bm]at g;have p:wr.frozen? (w,t)=aG:=B.frozen _;go_wp2;go_roundg (7-t);case measure=>omega
   case rel=>
    go_light
    have f:(n:Int)/2^(56-8*t)%256=((mP n t).toNat:Int):=by rw[<-zDr,show 56-8*t=8*(7-t) from bm]
    rw[f]
    refine⟨t+1,bm,j9,c.setCell (je _) _,?_⟩
    have:=B.bR t (aC aQ ((mP n t).toNat:Int))
    rw[aMo]at this
    exact this
  .obtain rfl:t=8:=by omega
   have a:Hid ((convert 50 9 (aK w 8 8)).run zq wr= .ok (eight n) wr):=
    gO _ 50 9 5 w 0 8 (eight n) ((Qz.eR 50).trans underlying50) ((Qz.eR 5).trans underlying5) ((Qz.eR 9).trans underlying9) (λj o=>by
     have h:j<8:=by assumption
     rw[Ce,B.out.cell,oH _ _ _ h,AE h];simp[eight,h])
   have b:=a.out;exact X6
def YD (n:Nat)(w)(o:n<=140737488351232):
  Calls zq 77 #[aC aD n] w λe a=>e=aM (aL ⟨(behind n).toArray⟩)/\zb w a:=by
 have m:(64-((n:Int)+1+8)%64)%64=((zs n:Nat):Int):=by unfold zs;omega
 have H:Hid (∀w:zW,Calls zq 97 #[aL ⟨#[0]⟩,aC aD (zs n:Nat)] w λe a=>e=aM (aL ⟨(List.replicate (zs n) 0).toArray⟩)/\zb w a):=λw=>by
  have f:zs n<=63:=by unfold zs;omega
  have h:=Qz.strings_Repeat ⟨#[0]⟩ (zs n) w (by omega) (by show 1*zs n<=_;omega);have e:aM9 ([0]:zB) (zs n)=List.replicate (zs n) 0:=by have:=Lib.repeatL_replicate 0 1 (zs n);rwa [Hs]at this
  have j:=e;rw[j]at h;exact h
 have k:Hid (∀w:zW,Calls zq 64 #[aC aR ((n:Int)*8)] w λe a=>e=aM (aL ⟨(dY n).toArray⟩)/\zb w a):=λw=>by have h:=uV (8*n) w;rw[<-Px,show((8*n:Nat):Int)=(n:Int)*8 by omega]at h;exact h
 have g:(List.replicate (zs n) (0:UInt8)).length<=63:=by rw[Dm];unfold zs;omega
 have i:(dY n).length=8:=by simp[dY]
 have d:Hid (behind n=128::(List.replicate (zs n) 0++dY n)):=rfl;generalize List.replicate (zs n) (0:UInt8)=Z at*;generalize dY n=L at*;go_enter (Qz.fn func77),ntmps77;go_wp2_with fail;refine(H.out _).mono ?_;rintro e w1 ⟨rfl,c⟩;have B:=hid c;go_wp2_with fail;refine(k.out _).mono ?_;rintro e w2 ⟨rfl,b⟩;have l:=hid b;go_wp2_with fail;go_ret;refine⟨congrArg Nq (congrArg Value.string ?_),B.out.trans (l.out.mono B.out.size)⟩;rw[d.out];apply Ll;simp[aMV]
structure iO (w:zW):Prop where
 nY:Table 2 K w
 lt:0<w.heap.size
 jK:w.rangeAt 0 0 H0.cells.toList
theorem iO.below {w w':zW}{B:Nat}(h:iO w)(a:Below B w w')(b:w.heap.size<=B):iO w':= ⟨h.nY.below a b,Ao h.lt a.size,λj v c=>by rw[a.cell (p:=⟨_,_,aB⟩) (Ao h.lt b)];exact h.jK j v c⟩
def yD (k:Nat)(m)(w)(T:1<=k)(R:k<=32)(Q:m.size<=140737488351232)(z:iO w):
  Calls zq 53 #[k,aL m] w λe M=>e=aM ((Ji (zAM m.data)).take k)/\zb w M:=by
 have C:=hid z;go_enter (Qz.fn func53),ntmps53;go_upto_region 2 with(first
  |refine wpList_load_mid rfl 136 _ rfl 0 0 rfl (zAM H0.cells) _ C.jK ((Qz.eR 136).trans underlying136) rfl c9 ?_
  |refine Gz rfl 136 _ _ rfl w H0.cells rfl rfl _ _ (bT.new w 136 #[aC aP 0,aC aP 0,aC aP 0,aC aP 0,aC aP 0,aC aP 0,aC aP 0,aC aP 0]) (by rw[cZ];kernel_rfl) (by rw[cZ];rfl) (cells_one _) ?_)
 have A:Hid (zb w ((zAK w (aJ #[aC aP 0,aC aP 0,aC aP 0,aC aP 0,aC aP 0,aC aP 0,aC aP 0,aC aP 0] 136)).setRow w H0.cells)):=eH ((Av _ _).alloc (je _) _) (je _) _;have r:Hid (bT ((zAK w (aJ #[aC aP 0,aC aP 0,aC aP 0,aC aP 0,aC aP 0,aC aP 0,aC aP 0,aC aP 0] 136)).setRow w H0.cells) w.heap.size 136 H0.cells):=(bT.new w 136 _).gH _;generalize(zAK w (aJ #[aC aP 0,aC aP 0,aC aP 0,aC aP 0,aC aP 0,aC aP 0,aC aP 0,aC aP 0] 136)).setRow w H0.cells=wr at*;have z:=C.below A (je _);have x:=hid z;have K:=hid C;clear z C;simp only[Act.put];have n:Hid (zAH (zAM m.data)=m.size):=by show _=_;simp
 have H:=bq (zAM m.data);rw[n.out]at H;have Z:=hid H;clear H;have O:m.size-m.size%64<=m.size:=by omega
 have N:(m.size:Int)-m.size%64=((m.size-m.size%64:Nat):Int):=by omega
 have Y:Hid ((m.size-m.size%64)/64=m.size/64):=by show _=_;omega
 have X:Hid (m.size-(m.size-m.size%64)=m.size%64):=by show _=_;omega
 generalize m.size-m.size%64=b at*;have j:Hid (∀(d:Nat)(os:zJ),Calls zq 76 #[.agg H0.cells,aL (m.extract 0 b)] (Go.Sort.grow (redrawn wr d) os) λe c=>e=aM (.agg (cL H0 (m.data.toList.take b) (m.size/64)).cells)/\∃p:Regrown,c=Go.Sort.grow (redrawn wr p.d) p.os):=λd os=>by have h:=xB H0 (m.extract 0 b) (Go.Sort.grow (redrawn wr d) os) (x.below (Dc wr d os) (je _)).nY j3;have G:zAM (m.extract 0 b).data=m.data.toList.take b:=by{rw[lX,Gq]};have F:(m.extract 0 b).size/64=m.size/64:=by{rw[<-Y.out];exact j3};rw[G,F]at h;exact Ma h
 go_wp2;refine Tail.sJ 5 c9 c9 ?_;simp only[Ia,Fy,Hz,Gq];refine gW rfl 136 _ rfl w rfl 136 H0.cells _ (λW E=> ?_) ((Qz.eR 136).trans underlying136) rfl s9 ?_
 .obtain⟨p,rfl⟩:=E;exact r.below (Dc wr p.d p.os) r.lt
 simp only[Act.put,Ey,Fs,Gx];repeat (any_goals(first|go_big_quiet_step ((exact j _ _))|quiet_step ((exact j _ _))))
 refine Dn ?_;intro t f;let⟨p,l⟩:=f;have g:Hid (zb wr t):=by rw[l];exact Dc wr p.d p.os
 clear l j;have q:=hid (r.below g r.lt);generalize cL H0 (m.data.toList.take b) (m.size/64)=S1 at*;go_upto_region 4 with(refine Gz rfl 136 _ _ rfl w _ rfl rfl _ _ q s9 (by rw[cZ,cZ]) (cells_one _) ?_)
 have c1:Hid (zb w (t.setRow w S1.cells)):=eH (A.out.trans (g.mono A.size)) (je _) _;have c2:Hid (bT (t.setRow w S1.cells) w.heap.size 136 S1.cells):=q.gH _;have v:Hid (iO (t.setRow w S1.cells)):=K.below c1 (je _);generalize t.setRow w S1.cells=a at*;clear A r g q x;simp only[Act.put];have U:zAH (behind m.size)<=72:=by rw[rG];unfold zs;omega
 have J:Hid (zAH (behind m.size)=9+zs m.size):=rG m.size;have I:Hid (∀(d:Nat)(os:zJ),Calls zq 77 #[aC aD (m.size:Nat)] (Go.Sort.grow (redrawn a d) os) λe c=>e=aM (behind m.size)/\∃p:Regrown,c=Go.Sort.grow (redrawn a p.d) p.os):=λd os=>Ma (YD m.size _ Q);generalize behind m.size=B at*;have o:(⟨zAL B⟩:ByteArray).size=zAH B:=by simp[aMW]
 have y:=hid o;clear o;have i:Hid (∀(d:Nat)(os:zJ),Calls zq 76 #[.agg S1.cells,aL (m.extract b m.size++⟨zAL B⟩)] (Go.Sort.grow (redrawn a d) os) λe c=>e=aM (.agg (cL S1 (m.data.toList.drop b++B) ((m.size%64+9+zs m.size)/64)).cells)/\∃p:Regrown,c=Go.Sort.grow (redrawn a p.d) p.os):=λd os=>by
  have h:=xB S1 (m.extract b m.size++⟨zAL B⟩) (Go.Sort.grow (redrawn a d) os) (v.below (Dc a d os) (je _)).nY (by rw[aMX,y.out];exact j3);have G:zAM (m.extract b m.size++⟨zAL B⟩).data=m.data.toList.drop b++B:=by rw[aMV,Array.toList_append,lX,KC (by rw[n.out];exact bm)]
  have F:(m.extract b m.size++⟨zAL B⟩).size=m.size%64+9+zs m.size:=by rw[<-X.out,Gp,<-J.out,aMX,y.out];simp
  rw[G,F]at h;exact Ma h
 refine Tail.sJ 9 c9 c9 ?_;simp only[Ia,Fy,Hz,Gq];refine gW rfl 136 _ rfl w rfl 136 S1.cells _ (λW E=> ?_) ((Qz.eR 136).trans underlying136) rfl s9 ?_
 .obtain⟨p,rfl⟩:=E;exact c2.below (Dc a p.d p.os) c2.lt
 simp only[Act.put,Ey,Fs,Gx];repeat (any_goals(first|go_big_quiet_step ((first|(go_at_call 77;exact I _ _)|(go_at_call 76;exact i _ _)))|quiet_step ((first|(go_at_call 77;exact I _ _)|(go_at_call 76;exact i _ _)))))
 refine Dn ?_;intro s f;let⟨p,l⟩:=f;have g:Hid (zb a s):=by rw[l];exact Dc a p.d p.os
 clear l I i;have q:Hid (bT s w 136 S1.cells):=c2.below g c2.lt;generalize cL S1 (m.data.toList.drop b++B) ((m.size%64+9+zs m.size)/64)=S at*;go_upto_region 5 with(refine Gz rfl 136 _ _ rfl w _ rfl rfl _ _ q s9 (by rw[cZ,cZ]) (cells_one _) ?_)
 have d1:Hid (zb w (s.setRow w S.cells)):=eH (c1.out.trans (g.mono c1.size)) (je _) _;have V:Hid (bT (s.setRow w S.cells) w.heap.size 136 S.cells):=q.gH _;generalize s.setRow w S.cells=L at*;clear c1 c2 g q v;simp only[Act.put];have P:zAH (dC S)=32:=kL S;have u:Hid (Value.string (aMY ⟨zAL (dC S)⟩ 0 k)=Value.string ⟨zAL ((Ji (zAM m.data)).take k)⟩):=by show _=_;rw[Z.out];congr 1;apply Ll;simp[aMU]
 go_wp2_with (first
  |refine Dx rfl 136 _ rfl w rfl _ _ _ _ V ((Qz.eR 136).trans underlying136) rfl s9 ?_
  |(go_at_call 78;refine(Qj S _).mono ?_;rintro e w5 ⟨rfl,D⟩))
 go_ret;exact⟨congrArg Nq u,d1.out.trans (D.mono d1.size)⟩
def pre (l:zB)(z:Nat):zB:=l++128::List.replicate z 0
def zAn (l:zB)(z:Nat):zAH (pre l z)=zAH l+1+z:=by simp[pre];exact bm
def Un (l:zB)(z:Nat):pre l (z+1)=pre l z++[0]:=by simp[pre,Mk]
def zBw (l:zB):kQ l=pre l (zs (zAH l))++dY (zAH l):=by simp[kQ,pre,behind]
def aAx (k:Nat)(m:ByteArray)(w:zW)(Pb:1<=k)(Rv:k<=32)(hm:m.size<=140737488351232):
  Calls zq 66 #[aC aD k,aL m] w λe s=>e=aM (aL ⟨((Ji m.data.toList).take k).toArray⟩)/\zb w s:=by
 have ab:=λW ss=>aM7 W 9 50 5 ss ((Qz.eR 9).trans underlying9) ((Qz.eR 50).trans underlying50) ((Qz.eR 5).trans underlying5);go_enter (Qz.fn func66),ntmps66;go_upto_region 3 with(go_at_call 90;refine(zCt _).mono ?_;rintro e s ⟨rfl,rfl⟩)
 have b1:Hid (zb w ((w.alloc (aJ (row aR K) 122)).alloc (aJ H0.bX 152))):=((Av _ _).alloc (je _) _).alloc (by simp) _;have b2:Hid (bT ((w.alloc (aJ (row aR K) 122)).alloc (aJ H0.bX 152)) w.heap.size 122 (row aR K)):=(bT.new _ _ _).alloc _;have b3:Hid (bT ((w.alloc (aJ (row aR K) 122)).alloc (aJ H0.bX 152)) (w.heap.size+1) 152 H0.bX):=by have:=bT.new (w.alloc (aJ (row aR K) 122)) 152 H0.bX;rw[size_alloc]at this;exact this
 have b4:w.heap.size+2<=((w.alloc (aJ (row aR K) 122)).alloc (aJ H0.bX 152)).heap.size:=by rw[size_alloc,size_alloc];omega
 rw[show(#[aC aR 1779033703,aC aR 3144134277,aC aR 1013904242,aC aR 2773480762,aC aR 1359893119,aC aR 2600822924,aC aR 528734635,aC aR 1541459225]:zA)=H0.bX from by kernel_rfl];generalize(w.alloc (aJ (row aR K) 122)).alloc (aJ H0.bX 152)=W at*;have u:Hid (Own (Gb W 5 m) (w.heap.size+2) 5 (aK (aA ⟨W.heap.size,0,aB⟩) m.size (grownCap W m.size 0 5)) m.size (bv m.data.toList)):=zBq W _ _ m b4;have d1:Hid (zb w (Gb W 5 m)):=b1.out.trans ((qG W _ m).mono b1.out.size);have d2:Hid (bT (Gb W 5 m) w.heap.size 122 (row aR K)):=b2.out.below (qG W _ m) b2.out.lt;have d3:Hid (bT (Gb W 5 m) (w.heap.size+1) 152 H0.bX):=b3.out.below (qG W _ m) b3.out.lt;have d4:Hid (w.heap.size+2<=(Gb W 5 m).heap.size):=by show _<=_;rw[Ob];omega
 clear b1 b2 b3;go_wp2_with (at_builtin;refine tB rfl _ _ rfl (w.heap.size+2) _ _ _ rfl u.out [aC aQ 128] 1 rfl (by decide) (by simp[Value.oneCell']) (by simp;omega) d4.out ?_;intro T s a h);have e1:=hid (lH d1.out u.out h (by omega) d1.out.size);have e2:=hid (d2.out.grown h (mO u.out _ (by omega)));have e3:=hid (d3.out.grown h (mO u.out _ (by omega)));have e4:=hid (Az d4.out h.size);have e5:Hid (∃g cap,T=aK (aA ⟨g,0,aB⟩) (m.size+1) cap/\Own s (w.heap.size+2) 5 (aK (aA ⟨g,0,aB⟩) (m.size+1) cap) (m.size+1) (bv (pre m.data.toList 0))):=by
  obtain⟨g,cap,rfl⟩:=a.form (by simp);exact⟨g,cap,rfl,by have:=a;rw[show bv m.data.toList++[Value.int aQ 128]=bv (pre m.data.toList 0)from by rw[pre,UK];rfl]at this;exact this⟩
 clear u d1 d2 d3 d4 a h;have E:Hid (m.data.toList.length=m.size):=by show _=_;simp
 go_loopg [7] 63 (λq v wr=>∃(z g cap:Nat),z+q=63/\z<=zs m.size/\v=aK (aA ⟨g,0,aB⟩) (m.size+1+z) cap/\Own wr (w.heap.size+2) 5 (aK (aA ⟨g,0,aB⟩) (m.size+1+z) cap) (m.size+1+z) (bv (pre m.data.toList z))/\zb w wr/\bT wr w.heap.size 122 (row aR K)/\bT wr (w.heap.size+1) 152 H0.bX/\w.heap.size+2<=wr.heap.size);case atStart=>
  obtain⟨g,cap,hv,ho⟩:=e5.out
  exact⟨0,g,cap,rfl,by omega,hv,ho,e1.out,e2.out,e3.out,e4.out⟩
 case round=>
  obtain⟨z,g,cap,hz,X,rfl,c1,c2,c3,c4,c5⟩:=hrel
  clear e1 e2 e3 e4 e5
  have C:=hid c1
  have b:=hid c2
  have f:=hid c3
  have C4:=hid c4
  have c:=hid c5
  clear c1 c2 c3 c4 c5
  have hzz:zs m.size<=63:=by unfold zs;omega
  have x:(m.size+1+zs m.size)%64=56:=by unfold zs;omega
  have y:z<zs m.size->(m.size+1+z)%64≠56:=by unfold zs;omega
  have A:=hid x
  have R:=hid y
  clear x y
  by_cases hlt:z<zs m.size
  .have o:(((m.size:Int)+1+(z:Int))%64 !=56)=aF:=by
    have:=R.out hlt;rw[bne_iff_ne];omega
   go_wp2_with (at_builtin;refine tB rfl _ _ rfl (w.heap.size+2) _ _ _ rfl C.out [aC aQ 0] 1 rfl (by decide) (by simp[Value.oneCell']) (by simp;omega) c.out ?_;intro T s a h);go_roundg (62-z);case measure=>omega
   case rel=>
    go_light
    obtain⟨g',r,rfl⟩:=a.form (by simp)
    refine⟨z+1,g',r,by omega,by omega,rfl,?_,lH b.out C.out h (by omega) b.out.size,f.out.grown h (mO C.out _ (by omega)),C4.out.grown h (mO C.out _ (by omega)),Az c.out h.size⟩
    have:=a
    rw[show bv (pre m.data.toList z)++[Value.int aQ 0]=bv (pre m.data.toList (z+1))from by rw[Un,UK];rfl]at this
    exact this
  .obtain rfl:z=zs m.size:=by omega
   have o:(((m.size:Int)+1+(zs m.size:Int))%64 !=56)=aG:=by have:=A.out;rw[bne_eq_false_iff_eq];omega
   clear A R X hlt;go_wp2;have yh:Hid ((pre m.data.toList (zs m.size)).length=m.size+1+zs m.size):=by{show _=_;rw[zAn,E.out]};generalize hN:m.size+1+zs m.size=N at*;have HN:=hid hN;have hNb:N<=140737488351296:=by omega
   clear hN o;go_loopg [7,8] 8 (λq v i wr=>∃(j g cap:Nat),j+q=8/\i=aC aD (7-(j:Int))/\v=aK (aA ⟨g,0,aB⟩) (N+j) cap/\Own wr (w.heap.size+2) 5 (aK (aA ⟨g,0,aB⟩) (N+j) cap) (N+j) (bv (pre m.data.toList (zs m.size)++(dY m.size).take j))/\zb w wr/\bT wr w.heap.size 122 (row aR K)/\bT wr (w.heap.size+1) 152 H0.bX/\w.heap.size+2<=wr.heap.size);case atStart=>
    exact⟨0,g,cap,rfl,rfl,rfl,by rw[Fy,Bj];exact C.out,b.out,f.out,C4.out,c.out⟩
   case round=>
    obtain⟨j,g,cap,hj,rfl,rfl,c1,c2,c3,c4,c5⟩:=hrel
    clear C b f C4 c
    have C:=hid c1
    have b:=hid c2
    have f:=hid c3
    have C4:=hid c4
    have c:=hid c5
    clear c1 c2 c3 c4 c5
    by_cases hlt:j<8
    .go_wp2_with (at_builtin;refine tB rfl _ _ rfl (w.heap.size+2) _ _ _ rfl C.out [_] 1 rfl (by simp) (by simp[Value.oneCell']) (by simp;omega) c.out ?_;intro T s a h);go_roundg (7-j);case measure=>omega
     case rel=>
      go_light
      obtain⟨g',r,rfl⟩:=a.form (by simp)
      refine⟨j+1,g',r,by omega,by go_num,rfl,?_,lH b.out C.out h (by omega) b.out.size,f.out.grown h (mO C.out _ (by omega)),C4.out.grown h (mO C.out _ (by omega)),Az c.out h.size⟩
      have l:8*(m.size:Int)/2^(8*(7-j))%256=(((dY m.size).getD j 0).toNat:Int):=by have e:(dY m.size).getD j 0=IF m.size j:=by{simp[dY,hlt]};rw[e,ZB]
      have Z:=OX (dY m.size) j (by simp[dY];exact hlt)
      have:=a
      rw[l,show bv (pre m.data.toList (zs m.size)++(dY m.size).take j)++[Value.int aQ (((dY m.size).getD j 0).toNat:Int)]=bv (pre m.data.toList (zs m.size)++(dY m.size).take (j+1))from by rw[Z,<-Df,UK (_++_)];rfl]at this
      exact this
    .obtain rfl:j=8:=by omega
     go_wp2;have G:Hid (pre m.data.toList (zs m.size)++(dY m.size).take 8=kQ m.data.toList):=by show _=_;rw[zBw,E.out,KC (by simp[dY])]
     have n:Hid ((kQ m.data.toList).length=N+8):=by{show _=_;rw[rA,E.out,<-HN.out];omega};rw[G.out]at C;have I:∃nb,N+8=64*nb:=⟨(N+8)/64,by have h1:=zBn m.data.toList;rw[n.out]at h1;omega⟩;obtain⟨nb,D⟩:=I;have Q:=hid D;rw[D]at C⊢;clear G yh D;generalize hL:kQ m.data.toList=L at*;have HL:=hid hL;have F:Hid (L.length=64*nb):=by{show _=_;rw[n.out,Q.out]};have aIj:64*nb<=140737488355328:=by{rw[<-Q.out];omega};clear hL n;go_loopg [9] nb (λq i wr=>∃j:Nat,j+q=nb/\i=aC aD (64*(j:Int))/\Own wr (w.heap.size+2) 5 (aK (aA ⟨g,0,aB⟩) (64*nb) cap) (64*nb) (bv L)/\zb w wr/\bT wr w.heap.size 122 (row aR K)/\bT wr (w.heap.size+1) 152 (cL H0 L j).bX/\w.heap.size+2<=wr.heap.size);case atStart=>exact⟨0,by omega,rfl,C.out,b.out,f.out,C4.out,c.out⟩
     case round=>
      obtain⟨j,hj,rfl,c1,c2,c3,c4,c5⟩:=hrel
      clear C b f C4 c
      have C:=hid c1
      have b:=hid c2
      have f:=hid c3
      have C4:=hid c4
      have c:=hid c5
      clear c1 c2 c3 c4 c5
      by_cases hlt:j<nb
      .obtain⟨yz,hg2,J⟩:=C.out.base;have H:Hid (∀(d:Nat)(os:zJ),Calls zq 91 #[.agg (cL H0 L j).bX,aK (aA ⟨w.heap.size,0,aB⟩) 64 64,aK (aA ⟨g,64*j,aB⟩) 64 (cap-64*j)] (Go.Sort.grow (redrawn wr d) os) λe U=>e=aM (.agg (cL H0 L (j+1)).bX)/\∃p:Regrown,U=Go.Sort.grow (redrawn wr p.d) p.os):=λd os=>by
        have l:=Dc wr d os;refine Ma (Qq (cL H0 L j) (blk L j) K w.heap.size g (64*j) 64 (cap-64*j) _ (zCr L j (by rw[F.out];omega)) (λt Z=> ?_) (λi hi=> ?_) (Ao f.out.lt l.size) (Ao hg2 l.size));{rw[(f.out.below l f.out.lt).cell,gI _ _ _ Z]};{rw[(C.out.below l (je _)).cell _ (by omega),Yh _ _ (by rw[F.out];omega),iq _ _ _ hi]}
       go_wp2;refine Tail.sJ 8 (by kernel_rfl) (by kernel_rfl) ?_;simp only[Ia,Fy,Hz,Gq];refine gW rfl 152 _ rfl (w.heap.size+1) rfl 152 (cL H0 L j).bX _ (λW hW=> ?_) ((Qz.eR 152).trans underlying152) rfl (by rw[oJ];kernel_rfl) ?_;{obtain⟨p,rfl⟩:=hW;exact C4.out.below (Dc wr p.d p.os) C4.out.lt};simp only[Act.put,Ey,Fs,Gx];(repeat (any_goals(first|go_big_quiet_step ((exact H.out _ _))|quiet_step ((exact H.out _ _)))));refine Dn ?_;intro W1 Y;obtain⟨p,G⟩:=Y;have l:Hid (zb wr W1):=by{rw[G];exact Dc wr p.d p.os};clear G H;have q4:=hid (C4.out.below l.out C4.out.lt);go_wp2_with (refine Gz rfl 152 _ _ rfl (w.heap.size+1) _ rfl rfl _ _ q4.out (by rw[oJ];kernel_rfl) (by rw[oJ,oJ]) (zAm _) ?_);go_roundg (nb-(j+1));case measure=>omega
       case rel=>
        go_light
        refine⟨j+1,by omega,by go_num,(C.out.below l.out (je _)).setRow _ _ (by omega),eH (b.out.trans (l.out.mono b.out.size)) (by omega) _,(f.out.below l.out f.out.lt).kX _ (by omega),q4.out.gH _,by rw[size_setRow];exact Az c.out l.out.size⟩
      .obtain rfl:j=nb:=by omega
       clear C;have O:Hid (Ji m.data.toList=dC (cL H0 L j)):=by show _=_;rw[Ji,HL.out,F.out,Nat.mul_div_cancel_left _ (by omega)]
       generalize cL H0 L j=S at*;go_wp2;go_loopg [10,11] 8 (λq v i wr=>∃j:Nat,j+q=8/\i=aC aD (j:Int)/\Own wr (w.heap.size+2) 5 v (4*j) (bv ((dC S).take (4*j)))/\zb w wr/\bT wr (w.heap.size+1) 152 S.bX/\w.heap.size+2<=wr.heap.size);case atStart=>exact⟨0,rfl,rfl,Own.nil _ _ _,b.out,C4.out,c.out⟩
       case round=>
        obtain⟨j,hj,rfl,c1,c2,c4,c5⟩:=hrel
        clear b f C4 c
        have C:=hid c1
        have b:=hid c2
        have C4:=hid c4
        have c:=hid c5
        clear c1 c2 c4 c5
        by_cases hlt:j<8
        .have f1:wr.cell? ⟨w.heap.size+1,j,aB⟩=aA (aC aR (V (S.get j))):=by rw[C4.out.cell,yV _ _ hlt]
         have q0:=eV (S.get j);go_wp2;have u:Hid (Own wr.drew (w.heap.size+2) 5 u10 (4*j) (bv ((dC S).take (4*j)))):=C.out.kept λ_ _=>rfl;have o:aA (w.heap.size+1)≠u10.ownBlock:=mO C.out _ (by omega);go_region_held3 (λs=>s.cell? ⟨w.heap.size+1,j,aB⟩=aA (aC aR (V (S.get j)))) (first|go_keep|exact h.cell (by assumption) o)
          ((refine yU (by rfl) _ _ (by rfl) (w.heap.size+2) _ _ _ (by rfl) u.out [_,_,_,_] 4 (by rfl) (by simp) (by simp[Value.oneCell']) (by simp;omega) c.out ?_;intro T s a h))
         go_wp2;go_roundg (7-j);case measure=>omega
         case rel=>
          go_light
          refine⟨j+1,by omega,by go_num,?_,lH (B:=w.heap.size) (w:=wr.drew) b.out.drew u.out h (by omega) b.out.size,bT.grown (w:=wr.drew) C4.out h o,Az c.out h.size⟩
          have:=a
          rw[Np,Np,Np,Np,aMa,aMl,aMn,aMt]at this
          rw[Ut S j hlt,UK]
          exact this
        .obtain rfl:j=8:=by omega
         obtain⟨g1,M,rfl⟩:=C.out.form (by omega);obtain⟨_,_,J⟩:=C.out.base;have GQ:=gO (P:=zq) wr 50 9 5 g1 0 M ((dC S).take k) ((Qz.eR 50).trans underlying50) ((Qz.eR 5).trans underlying5) ((Qz.eR 9).trans underlying9) (λi hi=>by
          have qi:i<k:=by have:=hi;simp at this;omega
          have tU:(dC S).length=32:=kL S;have:=C.out.cell i (by omega);rw[KC (by omega),Yh _ _ (by omega)]at this;rw[Ce,this];simp[List.getD,qi])
         rw[show((dC S).take k).length=k from by rw[Ds,kL];omega]at GQ;have Hst:Hid (Value.string ⟨((dC S).take k).toArray⟩=Value.string ⟨((Ji m.data.toList).take k).toArray⟩):=by{show _=_;rw[O.out]};go_wp2;go_ret;exact⟨congrArg Nq Hst.out,b.out⟩
def rV (l:zB):Nat->List (BitVec 32)
 |0=>((List.range 16).map (sF l)).reverse|n+1=>(s1 ((rV l n).getD 1 0)+(rV l n).getD 6 0+s0 ((rV l n).getD 14 0)+(rV l n).getD 15 0)::rV l n
def Pp (l):∀n i,i<16+n->(rV l n).getD i 0=sched l n (15+n-i):=by intro n;induction n with|zero=>intro i hi;have h:i=0\/i=1\/i=2\/i=3\/i=4\/i=5\/i=6\/i=7\/i=8\/i=9\/i=10\/i=11\/i=12\/i=13\/i=14\/i=15:=bm;obtain rfl|rfl|rfl|rfl|rfl|rfl|rfl|rfl|rfl|rfl|rfl|rfl|rfl|rfl|rfl|rfl:=h<;>rfl|succ n a=>intro i hi;cases i with|zero=>show _=put (sched l n) (16+n) _ (15+(n+1)-0);rw[show 15+(n+1)-0=16+n from bm,Uj,rV,List.getD_cons_zero,a 1 bm,a 6 bm,a 14 bm,a 15 bm,show 15+n-1=16+n-2 from bm,show 15+n-6=16+n-7 from bm,show 15+n-14=16+n-15 from bm,show 15+n-15=16+n-16 from bm]|succ i=>rw[rV,List.getD_cons_succ,a i bm];show _=put (sched l n) (16+n) _ (15+(n+1)-(i+1));rw[show 15+(n+1)-(i+1)=15+n-i from bm,put,AF bm]
def AK:List (BitVec 32×BitVec 32)->R8->R8
 |[],s=>s|(k,w)::r,s=>AK r (s.step k w)
def SY (p)(k w:BitVec 32):∀s,AK (p++[(k,w)]) s=(AK p s).step k w:=by induction p with|nil=>intro s;rfl|cons a p i=>intro s;let⟨c,b⟩:=a;exact i _
def zGd (k ws)(s:R8):∀n,R8.steps k ws n s=AK ((List.range n).map λt=>(k t,ws t)) s:=by intro n;induction n with|zero=>rfl|succ n i=>rw[R8.steps,i,List.range_succ,Gr];exact(SY _ _ _ _).symm
def TX (l:zB)(s:R8):R8:=s.plus (AK ((ZJ.map (GU 32)).zip (rV l 48).reverse) s)
def sU (l):∀n,zAH (rV l n)=16+n:=by intro n;induction n with|zero=>rfl|succ n i=>rw[rV,Bf,i];exact bm
def zBi (l):(ZJ.map (GU 32)).zip (rV l 48).reverse=(List.range 64).map λt=>(K t,sched l 48 t):=by apply List.ext_getElem;{simp[ZJ,sU]};.intro t d c;have b:t<64:=by{assumption};have a:(rV l 48).reverse[t]'(by rw[List.length_reverse,sU];exact bm)=sched l 48 t:=by{have h:=Pp l 48 (63-t) bm;rw[List.getElem_reverse];simp only[sU];grind};rw[List.getElem_zip,List.getElem_map,List.getElem_map,List.getElem_range,a];congr 1;rw[K,Mn,Be j5];rfl
def Ve (l)(s:R8):s.mix K (sched l 48)=TX l s:=by rw[R8.mix,TX,zBi,zGd]
def zEg (l)(h:zAH (kQ l)=64):Ji l=dC (TX (kQ l) H0):=by rw[Ji,h];show dC (R8.mix K (sched (blk (kQ l) 0) 48) H0)=_;rw[Ve,blk,Nat.mul_zero,Gq,KC bm]
def Jh:Ji [97,98,99]=[186,120,22,191,143,1,207,234,65,65,64,222,93,174,34,35,176,3,97,163,150,23,122,156,180,16,255,97,242,0,21,173]:=by rw[zEg _ zAF];exact zAF
def ig (k:Nat)(l:zB):ByteArray:=⟨zAL ((Ji l).take k)⟩
def iD (n:Int)(w:zW):Calls zq 42 #[n] w λe a=>e=aM n/\a=w:=by go_enter (Qz.fn func42),ntmps42;go_wp2;go_ret;simp_all
def ZL (n)(w)(b:1<=n)(h:n<=32):Calls zq 52 #[aC aD n] w λe a=>e=aM (.bool aF)/\a=w:=by go_enter (Qz.fn func52),ntmps52;go_wp2;go_ret;simp_all
def zBs (n)(w)(h:n<1\/32<n):Calls zq 52 #[aC aD n] w λe a=>e=aM (.bool aG)/\a=w:=by obtain h|h:=h;{exact zAG};.have b:1<=n:=bm;exact zAG
def MN (k:Nat)(m)(w)(b:1<=k)(h:k<=32)(c:m.size<=140737488351232)(d:iO w): Calls zq 33 #[k,aL m] w λe a=>e=aM (.tuple #[aL (ig k (zAM m.data)),aC aD 0])/\zb w a:=by have H:=hid d;go_enter (Qz.fn func33),ntmps33;go_wp2_with (first|(go_at_call 52;refine(ZL _ _ bm bm).mono ?_;rintro e a ⟨rfl,rfl⟩)|(go_at_call 53;refine(yD k m _ b h c H).mono ?_;rintro e a ⟨rfl,hb⟩));go_ret2;exact⟨rfl,hb⟩
def Qc (k:Int)(m:ByteArray)(w:zW)(h:k<1\/32<k): Calls zq 33 #[k,aL m] w λe a=>e=aM (.tuple #[aL ⟨#[]⟩,aC aD 1])/\a=w:=by go_enter (Qz.fn func33),ntmps33;go_wp2_with (go_at_call 52;refine(zBs _ _ h).mono ?_;rintro e a ⟨rfl,rfl⟩);go_ret2;exact j1
def Qd:ig 32 [97,98,99]=⟨#[186,120,22,191,143,1,207,234,65,65,64,222,93,174,34,35,176,3,97,163,150,23,122,156,180,16,255,97,242,0,21,173]⟩:=by rw[ig,Jh];rfl
def Xx:ig 2 [97,98,99]=⟨#[186,120]⟩:=by rw[ig,Jh];rfl
def zEr (w:zW)(c:iO w):Calls zq 27 #[] w λe b=>e=aM (.bool aF)/\zb w b:=by have H:Hid (iO w):=c;clear c;go_enter (Qz.fn func27),ntmps27;go_wp2_with fail;refine(MN 32 ⟨#[97,98,99]⟩ _ bm bm j2 H.out).mono ?_;rintro e w1 ⟨rfl,h⟩;rw[show ig 32 (zAM (⟨#[97,98,99]⟩:ByteArray).data)=ig 32 [97,98,99]from rfl,Qd];go_wp2_with fail;refine(MN 2 ⟨#[97,98,99]⟩ _ bm bm j2 (H.out.below h (je _))).mono ?_;rintro e w2 ⟨rfl,a⟩;rw[show ig 2 (zAM (⟨#[97,98,99]⟩:ByteArray).data)=ig 2 [97,98,99]from rfl,Xx];go_wp2_with fail;refine(Qc 33 ⟨#[97,98,99]⟩ _ bm).mono ?_;rintro e w3 ⟨rfl,rfl⟩;go_wp2_with (go_at_call 42;refine(iD _ _).mono ?_;rintro e b ⟨rfl,rfl⟩);go_ret;exact⟨rfl,h.trans (a.mono h.size)⟩
def cM (l:zB)(k:Nat):Nat:=(l.getD (k/8) 0).toNat/2^(7-k%8)%2
def byte_at (s:ByteArray)(i)(h:i<s.size):s[i]=s.data.toList.getD i 0:=by show s.data[i]=_;exact j1
def Si (b:UInt8):wrap64 (b.toNat:Int)=b.toNat:=by have:=b.toNat_lt;exact Z3
def Lc (s:ByteArray)(k:Nat)(w:zW)(hk:k/8<s.size)(hs:s.size<=9223372036854775807)(g:k<=4611686018427387904): Calls zq 72 #[aL s,k] w λe d=>e=aM (aC aD (cM (zAM s.data) k:Nat))/\d=w:=by go_enter (Qz.fn func72),ntmps72;go_wp2;simp only[Si];have n:Hid (s[k/8].toNat=(s.data.toList.getD (k/8) 0).toNat):=by{show _=_;rw[byte_at s (k/8) hk]};have o:s[k/8].toNat<256:=s[k/8].toNat_lt;generalize s[k/8].toNat=y at*;have q:k%8<8:=by{omega};have a:(k:Int)%8=((k%8:Nat):Int):=by{omega};rw[a];clear a;have c:Hid (cM (zAM s.data) k=y/2^(7-k%8)%2):=by{show _=_;rw[cM,<-n.out]};generalize k%8=r at*;go_loop [5,6] (λb i=>∃j:Nat,r+j<=7/\i=aC aD ((r+j:Nat):Int)/\b=aC aD ((y/2^j:Nat):Int)) (λ_ i=>7-(intOf i).toNat);(case atStart=>grind);case round=>obtain⟨j,p,rfl,rfl⟩:=hrel;have m:Hid (y/2^j/2=y/2^(j+1)):=by{show _=_;rw[Nat.div_div_eq_div_mul,Nat.pow_succ]};have f:y/2^j<=y:=Nat.div_le_self _ _;by_cases hlt:r+j<7;{generalize y/2^j=z at*;go_wp2;go_round;(case rel=>grind[Hid]);case measure=>simp[intOf];exact bm};.have l:Hid (7-r=j):=by{show _=_;exact bm};have h:Hid (cM (zAM s.data) k=y/2^j%2):=ji;clear m;generalize y/2^j=z at*;go_wp2;go_ret;exact⟨by rw[h.out];exact j1,rfl⟩
theorem qF (l)(k):cM l k=0\/cM l k=1:=by unfold cM;exact bm
def dg (k:Nat)(l:zB):zB:=(Ji l).take k
def iN (k)(l)(h:k<=32):zAH (dg k l)=k:=by rw[dg,Ds,aNb];exact bm
structure PW where
 kind:Nat
 tQ:zLL
 value:zB
 other:zB
 rf:zB
def jZ (x:UInt8)(r:Nat):UInt8:=Dw (x.toNat|||128/2^r)
def aM3 (x:UInt8)(r s)(h:r<8)(hs:s<8):(jZ x r).toNat/2^(7-s)%2=if r=s then 1 else x.toNat/2^(7-s)%2:=by have H:∀x:Fin 256,∀r s:Fin 8,((x.val|||128/2^r.val)%256)/2^(7-s.val)%2=if r.val=s.val then 1 else x.val/2^(7-s.val)%2:=by{decide+kernel};have:=H ⟨x.toNat,x.toNat_lt⟩ ⟨r,h⟩ ⟨s,hs⟩;exact j5
def Ws (l:zB)(i j)(b:UInt8)(hi:i<zAH l):(l.set i b).getD j 0=if i=j then b else l.getD j 0:=ji
def rl (l)(t i)(a:t/8<l.length):cM (l.set (t/8) (jZ (l.getD (t/8) 0) (t%8))) i=if t=i then 1 else cM l i:=by unfold cM;rw[Ws _ _ _ _ a];by_cases h:t/8=i/8;{rw[AE h,aM3 _ _ _ (LV _ bm) (LV _ bm),<-h];exact ji};exact ji
def Qx (n i):cM (List.replicate n 0) i=0:=by unfold cM;have:((List.replicate n (0:UInt8)).getD (i/8) 0)=0:=by{grind};exact j1
def cF (D:zB)(S:zLL):Nat->zB
 |0=>List.replicate ((zAH S+7)/8) 0|j+1=>if S.getD j []=D then cF D S j else(cF D S j).set (j/8) (jZ ((cF D S j).getD (j/8) 0) (j%8))
theorem iX (D)(S)(j):zAH (cF D S j)=(zAH S+7)/8:=by induction j with|zero=>simp[cF]|succ j i=>unfold cF;exact ji
def YU (D)(S)(j)(b:j<=S.length)(i):cM (cF D S j) i=if i<j/\S.getD i []≠D then 1 else 0:=by induction j with|zero=>rw[cF,Qx,AF bm]|succ j a=>have a:=a bm;unfold cF;by_cases h:S.getD j []=D;{grind};{rw[AF h,rl _ _ _ (by rw[iX];exact bm),a];grind}
def fZ (D:zB):zLL->zB
 |[]=>[]|s::r=>(if s=D then []else s)++fZ D r
def sI (D)(a b):fZ D (a++b)=fZ D a++fZ D b:=by induction a with|nil=>rfl|cons s r i=>rw[Fo,fZ,fZ,i,Df]
def SZ (p:PW):zB:=if p.kind=1 then p.value else if p.kind=2 then p.other++p.rf else []
def jP (k:Nat)(p:PW):zB:=[Dw p.kind,Dw (zAH p.tQ/256),Dw (zAH p.tQ%256)]++(cF (dg k [0]) p.tQ (zAH p.tQ)++(fZ (dg k [0]) p.tQ++SZ p))
abbrev qN:=zB×zB
def cG (l:List qN)(d b:Nat):List qN:=l.filter λe=>cM e.1 d==b
def LL (k:Nat)(e:qN):zB:=1::(e.1++dg k (4::e.2))
def yN (k:Nat):Nat->List qN->Nat->zB
 |0,[],_=>[0]|0,e::_,_=>LL k e|_+1,[],_=>[0]|_+1,[e],_=>LL k e|f+1,a::b::l,d=>2::(dg k (yN k f (cG (a::b::l) d 0) (d+1))++dg k (yN k f (cG (a::b::l) d 1) (d+1)))
def cR (k:Nat)(l:List qN)(d:Nat):zB:=dg k (yN k (256-d) l d)
def CC (k:Nat)(I:zB):List qN->PW
 |[]=>⟨0,[],[],[],[]⟩|e::_=>if e.1=I then⟨1,[],e.2,[],[]⟩else⟨2,[],[],e.1,dg k (4::e.2)⟩
def qP (k:Nat)(I:zB):Nat->List qN->Nat->PW
 |0,l,_=>CC k I l
 |_+1,[],_=>CC k I []
 |_+1,[e],_=>CC k I [e]
 |f+1,a::b::l,d=>
  {qP k I f (cG (a::b::l) d (cM I d)) (d+1)with
   tQ:=dg k (yN k f (cG (a::b::l) d (1-cM I d)) (d+1))::(qP k I f (cG (a::b::l) d (cM I d)) (d+1)).tQ}
def Lb {a b}(f:a.length=32)(c:b.length=32)(h:∀i,i<256->cM a i=cM b i):a=b:=by have H:∀x:Fin 256,x.val=x.val/2^7%2*128+x.val/2^6%2*64+x.val/2^5%2*32+x.val/2^4%2*16+x.val/2^3%2*8+x.val/2^2%2*4+x.val/2^1%2*2+x.val/2^0%2:=by{decide+kernel};apply List.ext_getElem bm;intro n t s;have c:∀r,r<8->a[n].toNat/2^(7-r)%2=b[n].toNat/2^(7-r)%2:=λr p=>by{have:=h (8*n+r) bm;unfold cM at this;rw[show(8*n+r)/8=n from bm,show(8*n+r)%8=r from bm]at this;grind};have e:a[n].toNat=b[n].toNat:=by{have f:=H ⟨a[n].toNat,a[n].toNat_lt⟩;have d:=H ⟨b[n].toNat,b[n].toNat_lt⟩;have q0:=c 0 bm;have o:=c 1 bm;have m:=c 2 bm;have l:=c 3 bm;have k:=c 4 bm;have j:=c 5 bm;have g:=c 6 bm;have q:=c 7 bm;simp only[Nat.sub_zero,Nat.reduceSub]at q0 o m l k j g q f d;rw[f,d,q0,o,m,l,k,j,g,q]};exact UInt8.toNat_inj.1 e
def fV (l:List qN)(I:zB):Option (zB):=(l.find? λe=>e.1==I).map (·.2)
theorem iM {l I}(h:∀e∈l,e.1≠I):fV l I=aB:=Q6
def Yg (y r:Nat)(h:y<256)(a:r<8):(bits .and aQ ((y)*2^r%256) 128 !=0)=decide (y/2^(7-r)%2=1):=by have H:∀y:Fin 256,∀r:Fin 8,(bits .and aQ ((y.val:Int)*2^r.val%256) 128 !=0)=decide (y.val/2^(7-r.val)%2=1):=by{decide+kernel};exact H ⟨y,h⟩ ⟨r,a⟩
def AV (s)(k:Nat)(w)(hk:k/8<s.size)(hs:s.size<=9223372036854775807)(h:k<=4611686018427387904): Calls zq 82 #[aL s,k] w λe a=>e=aM (.bool (decide (cM (zAM s.data) k=1)))/\a=w:=by go_enter (Qz.fn func82),ntmps82;go_wp2;have b:Hid (decide (cM (zAM s.data) k=1)=(bits .and aQ ((s[k/8].toNat:Int)*2^(k%8)%256) 128 !=0)):=by{show _=_;rw[Yg _ _ s[k/8].toNat_lt (LV _ bm),byte_at s (k/8) hk,cM]};rw[b.out];go_ret;exact j1
def zAo (d:Nat)(w)(h:d<=65536):Calls zq 80 #[d] w λe a=>e=aM (aC aD (((d+7)/8:Nat):Int))/\a=w:=by go_enter (Qz.fn func80),ntmps80;go_wp2;go_ret;simp_all
def aM8 (w):Calls zq 98 #[] w λe a=>e=aM (aL ⟨#[0]⟩)/\a=w:=by go_enter (Qz.fn func98),ntmps98;go_wp2;go_ret;simp_all
def aMA (a)(w)(h:a.size<=1000):Calls zq 133 #[aL a] w λe b=>e=aM (4::zAM a.data)/\b=w:=by have e:Hid ((⟨#[4]⟩:ByteArray)++a=⟨zAL (4::zAM a.data)⟩):=by{apply Ll;simp_all};go_enter (Qz.fn func133),ntmps133;exact Z4
def UU (a b)(w)(h:a.size<=1000)(d:b.size<=1000):Calls zq 127 #[aL a,aL b] w λe c=>e=aM (1::(zAM a.data++zAM b.data))/\c=w:=by have e:Hid ((⟨#[1]⟩:ByteArray)++a++b=⟨zAL (1::(zAM a.data++zAM b.data))⟩):=by{apply Ll;simp_all};go_enter (Qz.fn func127),ntmps127;exact Z4
def US (a b)(w)(h:a.size<=1000)(d:b.size<=1000):Calls zq 118 #[aL a,aL b] w λe c=>e=aM (2::(zAM a.data++zAM b.data))/\c=w:=by have e:Hid ((⟨#[2]⟩:ByteArray)++a++b=⟨zAL (2::(zAM a.data++zAM b.data))⟩):=by{apply Ll;simp_all};go_enter (Qz.fn func118),ntmps118;exact Z4
def Rm (k:Nat)(w)(b:1<=k)(a:k<=32)(d:iO w): Calls zq 79 #[k] w λe c=>e=aM (dg k [0])/\zb w c:=by have H:=hid d;go_enter (Qz.fn func79),ntmps79;go_wp2_with fail;refine(aM8 w).mono ?_;rintro e w2 ⟨rfl,h⟩;obtain rfl:w=w2:=h.symm;go_wp2_with fail;refine(yD k ⟨#[0]⟩ w b a j2 H).mono ?_;rintro e w3 ⟨rfl,hb⟩;have f:=hid hb;go_wp2;go_ret;exact⟨rfl,f⟩
def RN (k:Nat)(a)(w)(c:1<=k)(b:k<=32)(f:a.size<=1000)(i:iO w): Calls zq 128 #[k,aL a] w λe d=>e=aM (dg k (4::zAM a.data))/\zb w d:=by have j:=hid i;go_enter (Qz.fn func128),ntmps128;go_wp2_with fail;refine(aMA a w f).mono ?_;rintro e w2 ⟨rfl,h⟩;obtain rfl:w=w2:=h.symm;have hl:zAH (4::zAM a.data)<=1001:=by{simp_all};generalize g:4::zAM a.data=Y at*;have H:=hid g;go_wp2_with fail;refine(yD k ⟨zAL Y⟩ w c b (by show zAH Y<=_;exact bm) j).mono ?_;rintro e w3 ⟨rfl,hb⟩;have l:=hid hb;go_wp2;go_ret;exact⟨by rw[<-H.out];rfl,l⟩
def aY {B w w1 w2}(h:Below B w w1)(b:zb w1 w2)(a:B<=w1.heap.size):Hid (Below B w w2):=h.trans (b.mono a)
end Go.Proofs.Zq
