import Derived.Deep.MidRow
import Derived.Test.YtghpcgagijhlaaaGreatDoorP24
set_option linter.all false
set_option maxRecDepth 100000
set_option maxHeartbeats 16000000
open Option renaming some->aA,none->aB
open Bool renaming true->aE,false->aF
open Or renaming inl->aG,inr->aH
open Go.Ending renaming returned->aL
open Go.Obj renaming cells->aI
open Go.IntKind renaming i64->aD,u32->aO,u8->aP
open Go.Value renaming slice->aJ,string->aK,int->aC
open BitVec renaming toNat_add->aDk,ofNat->aC7
open Go.Calls renaming quiet_of_same->aDl
open Go.Lib renaming bytesWorld->aDm,bytesWorld_at_old->aDn
namespace Go.Proofs.Zq
open Go.RowKit Sha
structure R8 where
 a:BitVec 32
 b:BitVec 32
 c:BitVec 32
 d:BitVec 32
 e:BitVec 32
 f:BitVec 32
 g:BitVec 32
 h:BitVec 32
def R8.one (k w:BitVec 32)(s:R8):BitVec 32:=s.h+S1 s.e+(s.e&&&s.f^^^ ~~~s.e&&&s.g)+k+w
def R8.two (s:R8):BitVec 32:=S0 s.a+(s.a&&&s.b^^^s.a&&&s.c^^^s.b&&&s.c)
def R8.step (k w:BitVec 32)(s:R8):R8:=⟨s.one k w+s.two,s.a,s.b,s.c,s.d+s.one k w,s.e,s.f,s.g⟩
def R8.steps (k ws:Nat->BitVec 32):Nat->R8->R8
 |0,s=>s
 |n+1,s=>(R8.steps k ws n s).step (k n) (ws n)
def R8.plus (s t:R8):R8:=⟨s.a+t.a,s.b+t.b,s.c+t.c,s.d+t.d,s.e+t.e,s.f+t.f,s.g+t.g,s.h+t.h⟩
def R8.mix (k ws:Nat->BitVec 32)(s:R8):R8:=s.plus (R8.steps k ws 64 s)
def R8.cells (s:R8):zA:= #[aC aO (V s.a),aC aO (V s.b),aC aO (V s.c),aC aO (V s.d),aC aO (V s.e),aC aO (V s.f),aC aO (V s.g),aC aO (V s.h)]
def dw (a b c d e:BitVec 32):(V a+V b+V c+V d+V e)%4294967296=V (a+b+c+d+e):=by simp only[V,aDk];omega
def Xh (d p q k w:BitVec 32):(V d+(V p+V q+V k+V w))%4294967296=V (d+(p+q+k+w)):=by simp only[V,aDk];omega
def Table (g:Nat)(k:Nat->BitVec 32)(w:zW):Prop:=g<w.heap.size/\∀t:Nat,t<64->w.cell? ⟨g,t,aB⟩=aA (aC aO (V (k t)))
def EA (s:R8)(xs:zA)(w:zW):zW:=((w.alloc (aI s.cells 136)).alloc (aI xs 157)).alloc (aI #[aC aO 0,aC aO 0,aC aO 0,aC aO 0,aC aO 0,aC aO 0,aC aO 0,aC aO 0] 136)
def Jz (s:R8)(xs:zA)(w:zW)(n b t:Nat)(c:b<w.heap.size):((EA s xs w).drewN n).cell? ⟨b,t,aB⟩=w.cell? ⟨b,t,aB⟩:=by
 have h:zb w ((EA s xs w).drewN n):=by have a:zb w (EA s xs w):=(((zGp _ _).alloc (zAa _) _).alloc (by simp) _).alloc (by simp;omega) _;exact⟨a.os,a.tape,a.output,a.size,a.block⟩
 exact h.cell (p:=⟨b,t,aB⟩) c
def Jy (s:R8)(xs:zA)(w:zW)(n t:Nat):((EA s xs w).drewN n).cell? ⟨w.heap.size+1,t,aB⟩=xs[t]? :=by
 show World.cell? (EA s xs w) _=_
 have:(EA s xs w).heap[w.heap.size+1]? =aA (aI xs 157):=by
  show(((w.heap.push _).push _).push _)[w.heap.size+1]? =_
  rw[zBh,zAh (by simp),zBh,zAk (by simp)]
 unfold World.cell?
 rw[this]
 rfl
def R8.get (s:R8):Nat->BitVec 32
 |0=>s.a
 |1=>s.b
 |2=>s.c
 |3=>s.d
 |4=>s.e
 |5=>s.f
 |6=>s.g
 |_=>s.h
def R8.part (s u:R8)(t:Nat):R8:=⟨if 0<t then s.a+u.a else s.a,if 1<t then s.b+u.b else s.b,if 2<t then s.c+u.c else s.c,if 3<t then s.d+u.d else s.d,if 4<t then s.e+u.e else s.e,if 5<t then s.f+u.f else s.f,if 6<t then s.g+u.g else s.g,if 7<t then s.h+u.h else s.h⟩
def En (s u:R8)(t:Nat)(h:t<8):(s.part u t).cells[t]? =aA (aC aO (V (s.get t))):=by
 match t,h with
 |0,_|1,_|2,_|3,_|4,_|5,_|6,_|7,_=>rfl
def Em (s u:R8)(t:Nat)(h:t<8):(s.part u t).cells.setIfInBounds t (aC aO (V (s.get t+u.get t)))=(s.part u (t+1)).cells:=by
 match t,h with
 |0,_|1,_|2,_|3,_|4,_|5,_|6,_|7,_=>rfl
def TS (u:R8)(t:Nat)(h:t<8)(w:zW):(Instr.index 136 (.agg #[aC aO (V u.a),aC aO (V u.b),aC aO (V u.c),aC aO (V u.d),aC aO (V u.e),aC aO (V u.f),aC aO (V u.g),aC aO (V u.h)]) (aC aD (t:Int))).run zq w= .ok (aC aO (V (u.get t))) w:=by
 have i0:(Instr.index 136 (.agg #[aC aO (V u.a),aC aO (V u.b),aC aO (V u.c),aC aO (V u.d),aC aO (V u.e),aC aO (V u.f),aC aO (V u.g),aC aO (V u.h)]) (aC aD 0)).run zq w= .ok (aC aO (V u.a)) w:=by kernel_rfl
 have i1:(Instr.index 136 (.agg #[aC aO (V u.a),aC aO (V u.b),aC aO (V u.c),aC aO (V u.d),aC aO (V u.e),aC aO (V u.f),aC aO (V u.g),aC aO (V u.h)]) (aC aD 1)).run zq w= .ok (aC aO (V u.b)) w:=by kernel_rfl
 have i2:(Instr.index 136 (.agg #[aC aO (V u.a),aC aO (V u.b),aC aO (V u.c),aC aO (V u.d),aC aO (V u.e),aC aO (V u.f),aC aO (V u.g),aC aO (V u.h)]) (aC aD 2)).run zq w= .ok (aC aO (V u.c)) w:=by kernel_rfl
 have i3:(Instr.index 136 (.agg #[aC aO (V u.a),aC aO (V u.b),aC aO (V u.c),aC aO (V u.d),aC aO (V u.e),aC aO (V u.f),aC aO (V u.g),aC aO (V u.h)]) (aC aD 3)).run zq w= .ok (aC aO (V u.d)) w:=by kernel_rfl
 have i4:(Instr.index 136 (.agg #[aC aO (V u.a),aC aO (V u.b),aC aO (V u.c),aC aO (V u.d),aC aO (V u.e),aC aO (V u.f),aC aO (V u.g),aC aO (V u.h)]) (aC aD 4)).run zq w= .ok (aC aO (V u.e)) w:=by kernel_rfl
 have i5:(Instr.index 136 (.agg #[aC aO (V u.a),aC aO (V u.b),aC aO (V u.c),aC aO (V u.d),aC aO (V u.e),aC aO (V u.f),aC aO (V u.g),aC aO (V u.h)]) (aC aD 5)).run zq w= .ok (aC aO (V u.f)) w:=by kernel_rfl
 have i6:(Instr.index 136 (.agg #[aC aO (V u.a),aC aO (V u.b),aC aO (V u.c),aC aO (V u.d),aC aO (V u.e),aC aO (V u.f),aC aO (V u.g),aC aO (V u.h)]) (aC aD 6)).run zq w= .ok (aC aO (V u.g)) w:=by kernel_rfl
 have i7:(Instr.index 136 (.agg #[aC aO (V u.a),aC aO (V u.b),aC aO (V u.c),aC aO (V u.d),aC aO (V u.e),aC aO (V u.f),aC aO (V u.g),aC aO (V u.h)]) (aC aD 7)).run zq w= .ok (aC aO (V u.h)) w:=by kernel_rfl
 have:t=0\/t=1\/t=2\/t=3\/t=4\/t=5\/t=6\/t=7:=by omega
 obtain rfl|rfl|rfl|rfl|rfl|rfl|rfl|rfl:=this
 .exact i0
 .exact i1
 .exact i2
 .exact i3
 .exact i4
 .exact i5
 .exact i6
 .exact i7
attribute [local go_sem] V_xor V_and V_or V_not V_add V_shr
def Qe (s:R8)(xs:zA)(ws j:Nat->BitVec 32)(w:zW)(l:∀t:Nat,t<64->xs[t]? =aA (aC aO (V (ws t))))(R:Table 2 j w):
  Calls zq 95 #[.agg s.cells,.agg xs] w λe J=>e=aL (.agg (s.mix j ws).cells)/\zb w J:=by
 obtain⟨P,I⟩:=R
 unfold R8.cells
 go_enter Qz.func95,Tryz.ntmps95
 go_wp2
 go_quiet (fail)
 go_wp2
 go_quiet (fail)
 go_wp2
 go_loopg [5,6,7,8,9,10,11,12,34] 64 (λk A B C D E F G H i wr=>∃t:Nat,t+k=64/\i=aC aD t/\A=aC aO (V (R8.steps j ws t s).a)/\B=aC aO (V (R8.steps j ws t s).b)/\C=aC aO (V (R8.steps j ws t s).c)/\D=aC aO (V (R8.steps j ws t s).d)
   /\E=aC aO (V (R8.steps j ws t s).e)/\F=aC aO (V (R8.steps j ws t s).f)/\G=aC aO (V (R8.steps j ws t s).g)/\H=aC aO (V (R8.steps j ws t s).h)/\∃n,wr=(EA s xs w).drewN n)
 case atStart=>exact⟨0,rfl,rfl,rfl,rfl,rfl,rfl,rfl,rfl,rfl,rfl,_,World.drewN_drewN _ _ _⟩
 case round=>
  obtain⟨t,y,rfl,rfl,rfl,rfl,rfl,rfl,rfl,rfl,rfl,m⟩:=hrel
  have q:Hid (∃n,wr=(EA s xs w).drewN n):=m
  clear m
  generalize o:R8.steps j ws t s=st
  have p:Hid (R8.steps j ws t s=st):=o
  clear o
  by_cases bU:t<64
  .have T:wr.cell? ⟨2,t,aB⟩=aA (aC aO (V (j t))):=by
    obtain⟨n,rfl⟩:=q.out;rw[Jz _ _ _ _ _ _ P];exact I t bU
   have S:wr.cell? ⟨w.heap.size+1,t,aB⟩=aA (aC aO (V (ws t))):=by obtain⟨n,rfl⟩:=q.out;rw[Jy];exact l t bU
   clear I l
   go_wp2
   go_quiet ((exact aDl (Vo _ _)))
   go_wp2_with (go_at_call 108;refine(Vp _ _).mono ?_;rintro e J ⟨rfl,rfl⟩)
   go_roundg (63-t)
   case measure=>omega
   case rel=>
    go_light
    have N:R8.steps j ws (t+1) s=st.step (j t) (ws t):=by rw[<-p.out];rfl
    refine⟨t+1,by omega,by go_num,?_⟩
    rw[N]
    refine⟨congrArg _ (dw _ _ _ _ _),rfl,rfl,rfl,congrArg _ (Xh _ _ _ _ _),rfl,rfl,rfl,?_⟩
    obtain⟨n,O⟩:=q.out
    exact⟨_,by rw[O,World.drewN_drewN]⟩
  .have y:t=64:=by omega
   subst y;obtain⟨n,rfl⟩:=q.out;clear I l bU;have b1:Hid (zb w ((EA s xs w).drewN n)):=below_drewN ((((zGp _ _).alloc (zAa _) _).alloc (by simp) _).alloc (by simp;omega) _) n;have K:Hid (bB ((EA s xs w).drewN n) w.heap.size 136 s.cells):=bB.drewN (((bB.new _ _ _).alloc _).alloc _) n;have b3:Hid (∃z:zA,z.size=8/\bB ((EA s xs w).drewN n) (w.heap.size+1+1) 136 z):=⟨#[aC aO 0,aC aO 0,aC aO 0,aC aO 0,aC aO 0,aC aO 0,aC aO 0,aC aO 0],rfl,by have:=bB.new ((w.alloc (aI s.cells 136)).alloc (aI xs 157)) 136 #[aC aO 0,aC aO 0,aC aO 0,aC aO 0,aC aO 0,aC aO 0,aC aO 0,aC aO 0];rw[size_alloc,size_alloc]at this;exact this.drewN n⟩
   generalize(EA s xs w).drewN n=W at*
   go_wp2
   go_loopg [94] 8 (λk i wr=>∃t:Nat,t+k=8/\i=aC aD t/\zb w wr/\bB wr w.heap.size 136 (s.part st t).cells/\∃z:zA,z.size=8/\bB wr (w.heap.size+1+1) 136 z)
   case atStart=>exact⟨0,rfl,rfl,b1.out,K.out,b3.out⟩
   case round=>
    obtain⟨t,y,rfl,c1,c2,c3⟩:=hrel
    have M:Hid (zb w wr):=c1
    have u:Hid (bB wr w.heap.size 136 (s.part st t).cells):=c2
    have L:Hid (∃z:zA,z.size=8/\bB wr (w.heap.size+1+1) 136 z):=c3
    clear c1 c2 c3 b1 K b3
    by_cases bU:t<8
    .have X:=TS st t bU;have T:wr.cell? ⟨w.heap.size,t,aB⟩=aA (aC aO (V (s.get t))):=by rw[u.out.cell,En _ _ _ bU]
     have S:wr.frozen? ⟨w.heap.size,t,aB⟩=aF:=u.out.frozen t;go_wp2;go_roundg (7-t);case measure=>omega
     case rel=>
      go_light
      refine⟨t+1,by omega,by go_num,M.out.setCell (zAa _) _,?_,?_⟩
      .have:=u.out.cG t (aC aO (V (s.get t+st.get t)));rw[Em _ _ _ bU]at this;exact this
      .obtain⟨z,x,r⟩:=L.out;exact⟨z,x,r.bP _ _ (by simp;omega)⟩
    .obtain rfl:t=8:=by omega
     obtain⟨z,x,r⟩:=L.out;have c2:bB wr w.heap.size 136 (s.mix j ws).cells:=by rw[R8.mix,p.out];exact u.out
     have U:Hid (bB wr w.heap.size 136 (s.mix j ws).cells):=c2
     have Q:Hid (bB wr (w.heap.size+1+1) 136 z):=r
     clear c2 r
     go_wp2_with (first
      |refine zGq rfl 136 _ rfl w.heap.size rfl _ _ _ _ U.out ((Qz.cO 136).trans Tryz.underlying136) rfl (by kernel_rfl) ?_
      |refine zGs rfl 136 _ _ rfl (w.heap.size+1+1) _ rfl rfl _ _ Q.out (by kernel_rfl) (by rw[x];rfl) (by kernel_rfl) ?_)
     refine zHb (v:= .agg (s.mix j ws).cells) ?_ rfl ⟨rfl,?_⟩
     .exact zHj Tryz.results95 _ _ (w.heap.size+1+1) _ _ _ _ rfl (Q.out.cH _) ((Qz.cO 136).trans Tryz.underlying136) rfl (by kernel_rfl)
     .exact bN M.out (by omega) _
def acc (l:zB):BitVec 32:=l.foldl (λx b=>x<<<8|||aC7 32 b.toNat) 0
def EY (l:zB)(t:Nat):BitVec 32:=acc ((l.drop (4*t)).take 4)
def put (f:Nat->BitVec 32)(t:Nat)(x:BitVec 32):Nat->BitVec 32:=λi=>if i=t then x else f i
def gJ (l:zB)(t:Nat):Nat->BitVec 32:=λi=>if i<t then EY l i else 0
def sched (l:zB):Nat->Nat->BitVec 32
 |0=>gJ l 16
 |n+1=>put (sched l n) (16+n) (s1 (sched l n (16+n-2))+sched l n (16+n-7)+s0 (sched l n (16+n-15))+sched l n (16+n-16))
def row (k:IntKind)(f:Nat->BitVec 32):zA:=((List.range 64).map λi=>Value.int k (V (f i))).toArray
def xW (k:IntKind)(f:Nat->BitVec 32):(row k f).size=64:=by simp[row]
def mB (k:IntKind)(f:Nat->BitVec 32)(i:Nat)(h:i<64):(row k f)[i]? =aA (.int k (V (f i))):=by simp[row,h]
def Av (k:IntKind)(f:Nat->BitVec 32)(t:Nat)(x:BitVec 32):(row k f).setIfInBounds t (.int k (V x))=row k (put f t x):=by
 apply zCd;intro i;rw[zBt,xW];by_cases h:i<64
 .rw[mB k (put f t x) i h];by_cases e:t=i
  .subst e;simp[h,put]
  .rw[zAh e,mB k _ i h];simp[put,zFg e]
 .rw[zBk (by rw[xW];omega),zBk (by rw[xW];omega)];by_cases e:t=i
  .subst e;simp[h]
  .rw[zAh e]
def row_one (k:IntKind)(f:Nat->BitVec 32):(row k f).all (·.oneCell')=aE:=by rw[zFx];intro v h;simp[row]at h;obtain⟨i,_,rfl⟩:=h;rfl
def Pu (f:Nat->BitVec 32)(t:Nat)(x y:BitVec 32):put (put f t x) t y=put f t y:=by funext i;unfold put;split<;>rfl
def Jj (f:Nat->BitVec 32)(t:Nat)(x:BitVec 32):put f t x t=x:=by simp[put]
def YL (l:zB)(t:Nat):put (gJ l t) t (EY l t)=gJ l (t+1):=by
 funext i;unfold put gJ;by_cases h:i=t
 .subst h;simp
 .rw[zAh h];by_cases a:i<t
  .rw[zAk a,zAk (by omega)]
  .rw[zAh a,zAh (by omega)]
def IG (l:zB)(t:Nat):put (gJ l t) t 0=gJ l t:=by
 funext i;unfold put gJ;by_cases h:i=t
 .subst h;simp
 .rw[zAh h]
def Na (l:zB)(b:UInt8):acc (l++[b])=acc l<<<8|||aC7 32 b.toNat:=by simp[acc]
def Rm:acc []=0:=rfl
def Uw (x:BitVec 32)(b:UInt8):bits .or aO (V x*256%4294967296) (b.toNat:Int)=V (x<<<8|||aC7 32 b.toNat):=by
 have a:V x*(256:Int)%(4294967296:Int)=V (x<<<8):=ab x 8;have c:=b.toNat_lt;have h:(b.toNat:Int)=V (aC7 32 b.toNat):=by unfold V;rw[BitVec.toNat_ofNat,Nat.mod_eq_of_lt (by omega)]
 rw[a,h,V_or]
def Dc (s:zB)(j:Nat)(h:j<s.length):s.take (j+1)=s.take j++[s.getD j 0]:=by rw[zBv h];simp[h]
def lD (s:ByteArray)(a b:Nat):(s.extract a b).data.toList=(s.data.toList.take b).drop a:=by simp[ByteArray.data_extract,List.drop_take]
attribute [local go_sem] V_xor V_and V_or V_not V_add V_shr
def WJ (s:ByteArray)(hs:s.size=64)(w:zW):
  Calls zq 96 #[aK s] w λe K=>e=aL (.agg (row aO (sched s.data.toList 48)))/\zb w K:=by
 have A:=λW o=>Lib.run_convert_string_bytes (P:=zq) W 9 50 5 o ((Qz.cO 9).trans Tryz.underlying9) ((Qz.cO 50).trans Tryz.underlying50) ((Qz.cO 5).trans Tryz.underlying5)
 have c:=λW o j=>Lib.bytesWorld_cell W 5 o j
 have H:Hid (∀W o j,j<o.size->(aDm W 5 o).cell? ⟨W.heap.size,j,aB⟩=aA (aC aP (o.data.toList.getD j 0).toNat)):=c
 clear c
 go_enter Qz.func96,Tryz.ntmps96
 go_wp2
 go_loopg [8] 16 (λk i wr=>∃t:Nat,t+k=16/\i=aC aD t/\zb w wr/\w.heap.size+2<=wr.heap.size/\bB wr (w.heap.size+1) 157 (row aO (gJ s.data.toList t))/\∃z:zA,z.size=64/\bB wr w.heap.size 157 z)
 case atStart=>
  refine⟨0,rfl,rfl,((zGp _ _).alloc (zAa _) _).alloc (by simp) _,by simp,?_,_,rfl,(bB.new _ _ _).alloc _⟩
  have:=bB.new (w.alloc (aI (row aO (gJ s.data.toList 0)) 157)) 157 (row aO (gJ s.data.toList 0))
  rw[size_alloc]at this
  exact this
 case round=>
  obtain⟨t,U,rfl,b1,b2,b3,J⟩:=hrel
  have B:Hid (zb w wr):=b1
  have r:Hid (bB wr (w.heap.size+1) 157 (row aO (gJ s.data.toList t))):=b3
  have q:Hid (∃z:zA,z.size=64/\bB wr w.heap.size 157 z):=J
  clear b1 b3 J
  by_cases bU:t<16
  .have L:min (4*t+4) 64-4*t=4:=by omega
   have u:Hid (EY s.data.toList t=acc (s.extract (4*t) (4*t+4)).data.toList):=by
    show _=_
    rw[lD,EY,List.take_drop]
   go_wp2
   have c1:Hid (zb w (aDm wr 5 (s.extract (4*t) (4*t+4)))):=B.out.trans ((VG _ _ _).mono B.out.size)
   have a:(s.extract (4*t) (4*t+4)).size=4:=by simp[hs,L]
   have c3:Hid (bB (aDm wr 5 (s.extract (4*t) (4*t+4))) (w.heap.size+1) 157 (row aO (gJ s.data.toList t))):=by
    show _=_
    rw[aDn _ _ _ _ (by omega)];exact r.out
   have c4:Hid (∃z:zA,z.size=64/\bB (aDm wr 5 (s.extract (4*t) (4*t+4))) w.heap.size 157 z):=by
    obtain⟨z,p,m⟩:=q.out;refine⟨z,p,?_⟩;show _=_
    rw[aDn _ _ _ _ (by omega)];exact m
   have c5:Hid (∀j,j<4->(aDm wr 5 (s.extract (4*t) (4*t+4))).cell? ⟨wr.heap.size,j,aB⟩=aA (aC aP ((s.extract (4*t) (4*t+4)).data.toList.getD j 0).toNat)):=λj G=>H.out _ _ j (by rw[a];exact G)
   have c2:wr.heap.size+1<=(aDm wr 5 (s.extract (4*t) (4*t+4))).heap.size:=by rw[Lib.bytesWorld_size];omega
   have F:Hid ((s.extract (4*t) (4*t+4)).data.toList.length=4):=by
    show _=_
    have:=a
    rw[<-ByteArray.size_data]at this
    rw[zBn];exact this
   clear B r q a
   generalize aDm wr 5 (s.extract (4*t) (4*t+4))=W1 at*
   generalize(s.extract (4*t) (4*t+4)).data.toList=b at*
   generalize wr.heap.size=g at*
   go_loopg [20] 4 (λk i d=>∃j:Nat,j+k=4/\i=aC aD j/\zb w d/\g+1<=d.heap.size/\bB d (w.heap.size+1) 157 (row aO (put (gJ s.data.toList t) t (acc (b.take j))))/\(∃z:zA,z.size=64/\bB d w.heap.size 157 z)/\(∀j,j<4->d.cell? ⟨g,j,aB⟩=aA (aC aP (b.getD j 0).toNat)))
   case atStart=>exact⟨0,rfl,rfl,c1.out,c2,by rw[zEy,Rm,IG];exact c3.out,c4.out,c5.out⟩
   case round=>
    obtain⟨j,G,rfl,d1,S,d3,d4,d5⟩:=hrel
    clear c1 c2 c3 c4 c5
    have D1:Hid (zb w wr):=d1
    have D3:Hid (bB wr (w.heap.size+1) 157 (row aO (put (gJ s.data.toList t) t (acc (b.take j))))):=d3
    have D4:Hid (∃z:zA,z.size=64/\bB wr w.heap.size 157 z):=d4
    have D5:Hid (∀j,j<4->wr.cell? ⟨g,j,aB⟩=aA (aC aP (b.getD j 0).toNat)):=d5
    clear d1 d3 d4 d5
    by_cases l:j<4
    .have I:=D5.out j l;have R:wr.cell? ⟨w.heap.size+1,t,aB⟩=aA (aC aO (V (acc (b.take j)))):=by rw[D3.out.cell,mB _ _ _ (by omega),Jj]
     have O:wr.frozen? ⟨w.heap.size+1,t,aB⟩=aF:=D3.out.frozen t;have C:((b.getD j 0).toNat:Int)<256:=by have:=(b.getD j 0).toNat_lt;omega
     have D:0<=((b.getD j 0).toNat:Int):=zEe _
     generalize E:((b.getD j 0).toNat:Int)=y at I C D
     have T:Hid (((b.getD j 0).toNat:Int)=y):=E
     clear E
     go_wp2
     go_roundg (3-j)
     case measure=>omega
     case rel=>
      go_light
      have N:bits .or aO (V (acc (b.take j))*256%4294967296) y=V (acc (b.take (j+1))):=by rw[<-T.out,Uw,Dc b j (by rw[F.out];exact l),Na]
      rw[N]
      refine⟨j+1,by omega,by go_num,D1.out.setCell (by simp) _,by rw[size_setCell];exact S,?_,?_,λk M=> ?_⟩
      .have:=D3.out.cG t (aC aO (V (acc (b.take (j+1)))));rw[Av,Pu]at this;exact this
      .obtain⟨z,p,m⟩:=D4.out;exact⟨z,p,m.bP _ _ (by simp)⟩
      .rw[World.cell?_setCell_other _ _ _ _ (by intro h;injection h;omega)];exact D5.out k M
    .obtain rfl:j=4:=by omega
     go_wp2;go_roundg (15-t);case measure=>omega
     case rel=>
      go_light
      refine⟨t+1,by omega,by go_num,D1.out,by omega,?_,D4.out⟩
      have:=D3.out
      rw[zBg (by rw[F.out];omega),<-u.out,YL]at this
      exact this
  .obtain rfl:t=16:=by omega
   clear H A hs;go_wp2;go_loopg [7] 48 (λk i d=>∃n:Nat,n+k=48/\i=aC aD (16+(n:Int))/\zb w d/\bB d (w.heap.size+1) 157 (row aO (sched s.data.toList n))/\∃z:zA,z.size=64/\bB d w.heap.size 157 z);case atStart=>exact⟨0,rfl,rfl,B.out,r.out,q.out⟩
   case round=>
    obtain⟨n,X,rfl,d1,d3,d4⟩:=hrel
    clear B r q
    have D1:Hid (zb w wr):=d1
    have D3:Hid (bB wr (w.heap.size+1) 157 (row aO (sched s.data.toList n))):=d3
    have D4:Hid (∃z:zA,z.size=64/\bB wr w.heap.size 157 z):=d4
    clear d1 d3 d4
    by_cases bU:n<48
    .have I:wr.cell? ⟨w.heap.size+1,16+n-2,aB⟩=aA (aC aO (V (sched s.data.toList n (16+n-2)))):=by rw[D3.out.cell,mB _ _ _ (by omega)]
     have R:wr.cell? ⟨w.heap.size+1,16+n-7,aB⟩=aA (aC aO (V (sched s.data.toList n (16+n-7)))):=by rw[D3.out.cell,mB _ _ _ (by omega)]
     have O:wr.cell? ⟨w.heap.size+1,16+n-15,aB⟩=aA (aC aO (V (sched s.data.toList n (16+n-15)))):=by rw[D3.out.cell,mB _ _ _ (by omega)]
     have e4:wr.cell? ⟨w.heap.size+1,n,aB⟩=aA (aC aO (V (sched s.data.toList n n))):=by rw[D3.out.cell,mB _ _ _ (by omega)]
     have Z:wr.cell? ⟨w.heap.size+1,16+n,aB⟩=aA (aC aO (V (sched s.data.toList n (16+n)))):=by rw[D3.out.cell,mB _ _ _ (by omega)]
     have Y:wr.frozen? ⟨w.heap.size+1,16+n,aB⟩=aF:=D3.out.frozen _
     go_wp2
     refine Tail.De 23 (by kernel_rfl) (by kernel_rfl) ?_
     simp only[zEm,zEy,zFt,zFf]
     repeat (any_goals(first|go_big_quiet_step ((first|exact aDl (Iy _ _)|exact aDl (Iz _ _)))|quiet_step ((first|exact aDl (Iy _ _)|exact aDl (Iz _ _)))))
     refine zHc ?_
     intro _ x
     obtain⟨nq,rfl⟩:=x
     go_wp2
     go_roundg (47-n)
     case measure=>omega
     case rel=>
      go_light
      refine⟨n+1,by omega,by go_num,(below_drewN D1.out nq).setCell (by simp) _,?_,?_⟩
      .have:=(D3.out.drewN nq).cG (16+n) (aC aO (V (s1 (sched s.data.toList n (16+n-2))+sched s.data.toList n (16+n-7)+s0 (sched s.data.toList n (16+n-15))+sched s.data.toList n n)));rw[Av]at this;have e:sched s.data.toList (n+1)=put (sched s.data.toList n) (16+n) (s1 (sched s.data.toList n (16+n-2))+sched s.data.toList n (16+n-7)+s0 (sched s.data.toList n (16+n-15))+sched s.data.toList n n):=by
        rw[sched,show 16+n-16=n from by omega]
       rw[e];exact this
      .obtain⟨z,p,m⟩:=D4.out;exact⟨z,p,(m.drewN nq).bP _ _ (by simp)⟩
    .obtain rfl:n=48:=by omega
     obtain⟨z,p,m⟩:=D4.out;have Q:Hid (bB wr w.heap.size 157 z):=m;clear m;have a:=xW aO (sched s.data.toList 48);have f:Hid ((row aO (sched s.data.toList 48)).size=64):=a;clear a;go_wp2_with (first
      |refine zGq rfl 157 _ rfl (w.heap.size+1) rfl _ _ _ _ D3.out ((Qz.cO 157).trans Tryz.underlying157) rfl (by rw[f.out];kernel_rfl) ?_
      |refine zGs rfl 157 _ _ rfl w.heap.size _ rfl rfl _ _ Q.out (by rw[f.out];kernel_rfl) (by rw[p,f.out]) (row_one _ _) ?_)
     refine zHb (v:= .agg (row aO (sched s.data.toList 48))) ?_ rfl ⟨rfl,?_⟩
     .exact zHj Tryz.results96 _ _ w.heap.size _ _ _ _ rfl (Q.out.cH _) ((Qz.cO 157).trans Tryz.underlying157) rfl (by rw[f.out];kernel_rfl)
     .exact bN D1.out (zAa _) _
def pD (s:R8)(i:Nat):UInt8:=UInt8.ofNat (s.get (i/4)>>>(24-8*(i%4))).toNat
def fN (s:R8):zB:=(List.range 32).map (pD s)
def pR (s:R8)(t:Nat):zA:=((List.range 32).map λi=>Value.int aP (if i<t then((pD s i).toNat:Int)else 0)).toArray
def tD (s:R8)(t:Nat):(pR s t).size=32:=by simp[pR]
def rC (s:R8)(t i:Nat)(h:i<32):(pR s t)[i]? =aA (aC aP (if i<t then((pD s i).toNat:Int)else 0)):=by simp[pR,h]
def SS (s:R8)(t:Nat):(pR s t).setIfInBounds t (aC aP ((pD s t).toNat:Int))=pR s (t+1):=by
 apply zCd;intro i;rw[zBt,tD];by_cases h:i<32
 .rw[rC s (t+1) i h];by_cases e:t=i
  .subst e;simp[h]
  .rw[zAh e,rC s t i h];by_cases a:i<t
   .rw[zAk a,zAk (by omega)]
   .rw[zAh a,zAh (by omega)]
 .rw[zBk (by rw[tD];omega),zBk (by rw[tD];omega)];by_cases e:t=i
  .subst e;simp[h]
  .rw[zAh e]
def WG (s:R8)(i:Nat)(h:i<8):s.cells[i]? =aA (aC aO (V (s.get i))):=by
 have:i=0\/i=1\/i=2\/i=3\/i=4\/i=5\/i=6\/i=7:=by omega
 obtain rfl|rfl|rfl|rfl|rfl|rfl|rfl|rfl:=this<;>rfl
attribute [local go_sem] V_shr
def Gk (s:R8)(w:zW):
  Calls zq 78 #[.agg s.cells] w λe f=>e=aL (aK ⟨(fN s).toArray⟩)/\zb w f:=by
 have g:Hid ((#[aC aP 0,aC aP 0,aC aP 0,aC aP 0,aC aP 0,aC aP 0,aC aP 0,aC aP 0,aC aP 0,aC aP 0,aC aP 0,aC aP 0,aC aP 0,aC aP 0,aC aP 0,aC aP 0,aC aP 0,aC aP 0,aC aP 0,aC aP 0,aC aP 0,aC aP 0,aC aP 0,aC aP 0,aC aP 0,aC aP 0,aC aP 0,aC aP 0,aC aP 0,aC aP 0,aC aP 0,aC aP 0]:zA)=pR s 0):=rfl
 go_enter Qz.func78,Tryz.ntmps78
 go_wp2
 go_loopg [5] 32 (λk i wr=>∃t:Nat,t+k=32/\i=aC aD t/\zb w wr/\bB wr w.heap.size 136 s.cells/\bB wr (w.heap.size+1) 160 (pR s t))
 case atStart=>
  refine⟨0,rfl,rfl,((zGp _ _).alloc (zAa _) _).alloc (by simp) _,(bB.new _ _ _).alloc _,?_⟩
  have:=bB.new (w.alloc (aI s.cells 136)) 160 (pR s 0)
  rw[size_alloc]at this
  exact this
 case round=>
  obtain⟨t,o,rfl,b1,b,b3⟩:=hrel
  have d:Hid (zb w wr):=b1
  have c:Hid (bB wr w.heap.size 136 s.cells):=b
  have B:Hid (bB wr (w.heap.size+1) 160 (pR s t)):=b3
  clear b1 b b3 g
  by_cases bU:t<32
  .have q:wr.cell? ⟨w.heap.size,t/4,aB⟩=aA (aC aO (V (s.get (t/4)))):=by rw[c.out.cell,WG _ _ (by omega)]
   have n:wr.cell? ⟨w.heap.size+1,t,aB⟩=aA (aC aP (if t<t then((pD s t).toNat:Int)else 0)):=by rw[B.out.cell,rC _ _ _ bU]
   rw[zAh (by omega)]at n
   have p:wr.frozen? ⟨w.heap.size+1,t,aB⟩=aF:=B.out.frozen _
   go_wp2
   go_roundg (31-t)
   case measure=>omega
   case rel=>
    go_light
    have m:V (s.get (t/4)>>>(24-8*(t%4)))%256=((pD s t).toNat:Int):=by unfold V pD;rw[zCz];omega
    rw[m]
    refine⟨t+1,by omega,by go_num,d.out.setCell (by simp) _,c.out.bP _ _ (by simp),?_⟩
    have:=B.out.cG t (aC aP ((pD s t).toNat:Int))
    rw[SS]at this
    exact this
  .obtain rfl:t=32:=by omega
   have a:=mA (P:=zq) wr 50 9 5 (w.heap.size+1) 0 32 (fN s) ((Qz.cO 50).trans Tryz.underlying50) ((Qz.cO 5).trans Tryz.underlying5) ((Qz.cO 9).trans Tryz.underlying9) (λj l=>by
    have h:j<32:=by simpa [fN]using l
    rw[zAv,B.out.cell,rC _ _ _ h,zAk h]
    simp[fN,h])
   rw[show(fN s).length=32 from by simp[fN]]at a
   go_wp2
   go_ret
   exact⟨rfl,d.out⟩
def TO:List Nat:=[1116352408,1899447441,3049323471,3921009573,961987163,1508970993,2453635748,2870763221,3624381080,310598401,607225278,1426881987,1925078388,2162078206,2614888103,3248222580,3835390401,4022224774,264347078,604807628,770255983,1249150122,1555081692,1996064986,2554220882,2821834349,2952996808,3210313671,3336571891,3584528711,113926993,338241895,666307205,773529912,1294757372,1396182291,1695183700,1986661051,2177026350,2456956037,2730485921,2820302411,3259730800,3345764771,3516065817,3600352804,4094571909,275423344,430227734,506948616,659060556,883997877,958139571,1322822218,1537002063,1747873779,1955562222,2024104815,2227730452,2361852424,2428436474,2756734187,3204031479,3329325298]
def K (i:Nat):BitVec 32:=aC7 32 (TO.getD i 0)
def H0:R8:=⟨BitVec.ofNat 32 1779033703,aC7 32 3144134277,aC7 32 1013904242,aC7 32 2773480762,aC7 32 1359893119,aC7 32 2600822924,aC7 32 528734635,aC7 32 1541459225⟩
def blk (l:zB)(j:Nat):zB:=(l.drop (64*j)).take 64
def cS (s:R8)(l:zB):Nat->R8
 |0=>s
 |j+1=>(cS s l j).mix K (sched (blk l j) 48)
def Qh (n i:Nat):UInt8:=UInt8.ofNat (8*n/2^(8*(7-i)))
def mO (n:Nat):zB:=(List.range 8).map (Qh n)
def zs (n:Nat):Nat:=(119-n%64)%64
def behind (n:Nat):zB:=128::(List.replicate (zs n) 0++mO n)
def rB (l:zB):zB:=l++behind l.length
def Hh (l:zB):zB:=fN (cS H0 (rB l) ((rB l).length/64))
def pV (n:Nat):(behind n).length=9+zs n:=by simp[behind,mO];omega
def KH (l:zB):(rB l).length=l.length+9+zs l.length:=by simp[rB,pV];omega
def VD (s:R8)(a b:zB):∀j,64*j<=a.length->cS s (a++b) j=cS s a j:=by
 intro j;induction j with
 |zero=>intro _;rfl
 |succ j i=>
  intro h;have e:blk (a++b) j=blk a j:=by unfold blk;rw[zDq (by omega),zCn (by simp;omega)]
  simp only[cS,i (by omega),e]
def ZN (s:R8)(a b:zB)(k:Nat)(h:a.length=64*k):∀j,cS s (a++b) (k+j)=cS (cS s a k) b j:=by
 intro j;induction j with
 |zero=>exact VD s a b k (by omega)
 |succ j i=>
  have e:blk (a++b) (k+j)=blk b j:=by unfold blk;rw[Nat.mul_add,<-h,<-zGj,List.drop_left]
  rw[<-zCv]
  simp only[cS,i,e]
def Pf (l:zB):Hh l=fN (cS (cS H0 (l.take (l.length-l.length%64)) (l.length/64)) (l.drop (l.length-l.length%64)++behind l.length) ((l.length%64+9+zs l.length)/64)):=by
 have a:l.length-l.length%64=64*(l.length/64):=by omega
 have e:rB l=l.take (l.length-l.length%64)++(l.drop (l.length-l.length%64)++behind l.length):=by rw[<-zBu,zDr];rfl
 have h:(rB l).length/64=l.length/64+(l.length%64+9+zs l.length)/64:=by rw[KH];unfold zs;omega
 unfold Hh
 rw[h,e,ZN _ _ _ (l.length/64) (by simp;omega)]
def sE (s:R8):(fN s).length=32:=by simp[fN]
def WV (l:zB):(Hh l).length=32:=sE _
open Go Go.RowKit
def Own (w:zW)(base:Nat)(e:zD)(v:zY)(n:Nat)(xs:zV):Prop:=
 xs.length=n/\((v=aJ aB 0 0/\n=0)\/
  ∃(g cap:Nat)(c:zA)(f:Nat×Nat),v=aJ (aA ⟨g,0,aB⟩) n cap/\base<=g/\w.heap[g]? =aA (aI c e f)/\(∀j,j<c.size->¬(f.1<=j/\j<f.2))/\n<=cap/\c.size=cap/\c.toList.take n=xs)
def Own.nil (w:zW)(base:Nat)(e:zD):Own w base e (aJ aB 0 0) 0 []:=⟨rfl,aG ⟨rfl,rfl⟩⟩
def Own.cell {w:zW}{base:Nat}{e:zD}{g n cap:Nat}{xs:zV}(h:Own w base e (aJ (aA ⟨g,0,aB⟩) n cap) n xs)(j:Nat)(i:j<n):w.cell? ⟨g,j,aB⟩=xs[j]? :=by
 obtain⟨_,b⟩:=h;obtain⟨b,_⟩|⟨m,c,cur,l,d,_,k,_,_,_,f⟩:=b
 .cases b
 .injection d with a p o;iterate 2 (injection a with a)
  subst a;rw[zGy w g j cur e l k,<-f,zBy,zAk i];simp
def Own.base {w:zW}{base:Nat}{e:zD}{g n cap:Nat}{xs:zV}(h:Own w base e (aJ (aA ⟨g,0,aB⟩) n cap) n xs):base<=g/\g<w.heap.size/\n<=cap:=by
 obtain⟨_,b⟩:=h;obtain⟨b,_⟩|⟨k,c,cur,l,d,hb,f,_,i,_,_⟩:=b
 .cases b
 .injection d with a m j;iterate 2 (injection a with a)
  subst a j;exact⟨hb,(zAb.1 f).1,i⟩
def Own.kept {w w':zW}{base:Nat}{e:zD}{v:zY}{n:Nat}{xs:zV}(h:Own w base e v n xs)(b:∀g,v.ownBlock=aA g->w'.heap[g]? =w.heap[g]?):Own w' base e v n xs:=by
 obtain⟨d,a⟩:=h;refine⟨d,?_⟩;obtain a|⟨g,cap,cur,f,rfl,hb,c,r⟩:=a
 .exact aG a
 .exact aH ⟨g,cap,cur,f,rfl,hb,by rw[b g rfl];exact c,r⟩
def Own.lt {w:zW}{base:Nat}{e:zD}{v:zY}{n:Nat}{xs:zV}(h:Own w base e v n xs):∀g,v.ownBlock=aA g->base<=g/\g<w.heap.size:=by
 intro g a;obtain⟨rfl,_⟩|⟨c,cap,cur,f,rfl,hb,b,_⟩:=h.2
 .cases a
 .injection a with a;subst a;exact⟨hb,(zAb.1 b).1⟩
def Own.alloc {w:zW}{base:Nat}{e:zD}{v:zY}{n:Nat}{xs:zV}(h:Own w base e v n xs)(o:Obj):Own (w.alloc o) base e v n xs:=
 h.kept λg a=>Below.heap_alloc w o g (h.lt g a).2
def Own.below {w w':zW}{B base:Nat}{e:zD}{v:zY}{n:Nat}{xs:zV}(h:Own w base e v n xs)(b:Below B w w')(c:w.heap.size<=B):Own w' base e v n xs:=
 h.kept λg a=>b.block g (zAc (h.lt g a).2 c)
def Own.setRow {w:zW}{base:Nat}{e:zD}{v:zY}{n:Nat}{xs:zV}(h:Own w base e v n xs)(k:Nat)(cs:zA)(b:k<base):Own (w.setRow k cs) base e v n xs:=
 h.kept λg a=>dS w k g cs (by have:=(h.lt g a).1;omega)
def KM (b:Nat):∀(d:zV)(o:Nat)(w:zW)(c:zA)(e:zD)(f:Nat×Nat),w.heap[b]? =aA (aI c e f)->o+d.length<=c.size->
  ∃a,(w.setCells b o d).heap[b]? =aA (aI a e f)/\a.size=c.size/\a.toList.take (o+d.length)=c.toList.take o++d:=by
 intro d
 induction d with
 |nil=>intro o w c e f h _;exact⟨c,h,rfl,by simp⟩
 |cons v r i=>
  intro o w c e f h g;simp only[zAe]at g;have m:(w.setCell ⟨b,o,aB⟩ v).heap[b]? =aA (aI (c.setIfInBounds o v) e f):=by simp only[World.setCell,zDu,zDf,h];rfl
  obtain⟨a,l,k,j⟩:=i (o+1) _ _ e f m (by simp;omega)
  refine⟨a,l,by rw[k];simp,?_⟩
  rw[zAe,show o+(r.length+1)=o+1+r.length from by omega,j]
  have:(c.setIfInBounds o v).toList.take (o+1)=c.toList.take o++[v]:=by rw[zDy,zBv (by simp;omega)];simp only[List.getElem_set_self];rw[List.take_set,List.set_eq_of_length_le (by simp;omega)]
  rw[this,zBu]
  rfl
def vC (b k:Nat)(h:k≠b):∀(a:zV)(o:Nat)(w:zW),(w.setCells b o a).heap[k]? =w.heap[k]? :=by
 intro a;induction a with
 |nil=>intro o w;rfl
 |cons v r i=>intro o w;rw[World.setCells,i,zHa _ _ _ _ h]
def KE (b:Nat):∀(e:zV)(o:Nat)(w:zW),(w.setCells b o e).os=w.os/\(w.setCells b o e).tape=w.tape/\(w.setCells b o e).output=w.output/\(w.setCells b o e).heap.size=w.heap.size:=by
 intro e;induction e with
 |nil=>intro o w;exact⟨rfl,rfl,rfl,rfl⟩
 |cons v r i=>intro o w;obtain⟨a,b,c,d⟩:=i (o+1) (w.setCell ⟨b,o,aB⟩ v);exact⟨a,b,c,by rw[World.setCells,d,size_setCell]⟩
def sD {P:zZ}(w:zW)(base:Nat)(t ty e:zD)(i:TypeInfo)(z:zY)(J:P.underlying t=aA (.slice e))(M:P.info? e=aA i)(V:i.zero=aA z)
  (f:i.size=1) (I:z.cells.size=1) (v:zY) (n:Nat) (xs:zV) (d:Own w base e v n xs)
  (a:Addr) (m c:Nat) (b:zV) (hm:0<m) (A:b.length=m) (o:∀j u,b[j]? =aA u->w.cell? (a.add j)=aA u) (h1:∀u∈b,u.oneCell'=aE)
  (R:n+m<=maxLen) (p:(n+m)*i.bytes<=140737488355328) (y:base<=w.heap.size):
  ∃T H,(Builtin.append_ #[t,t] ty #[v,aJ (aA a) m c]).run P w= .ok T H/\Own H base e T (n+m) (xs++b)/\w.grownBy H v.ownBlock:=by
 have r:(xs++b).length=n+m:=by rw[zAj,d.1,A]
 have F:n+m<=9223372036854775807:=by simp only[maxLen]at R;omega
 have grown:∀(old:Nat)(row:Option Nat),
   Own (w.drew.alloc (aI (xs.toArray++b.toArray++Builtin.zeroCells z.cells (grownCap w (n+m) old e-(n+m))) e)) base e (aJ (aA ⟨w.heap.size,0,aB⟩) (n+m) (grownCap w (n+m) old e)) (n+m) (xs++b)/\
   w.grownBy (w.drew.alloc (aI (xs.toArray++b.toArray++Builtin.zeroCells z.cells (grownCap w (n+m) old e-(n+m))) e)) row:=by
  intro old row
  have N:=grownCap_ge w (n+m) old e
  refine⟨⟨r,aH ⟨w.heap.size,_,_,(0,0),rfl,y,zHh w.drew _,λj _ h=>by simp at h,N,?_,?_⟩⟩,⟨rfl,rfl,rfl,by simp,λk G _=>(by first|exact heap_alloc_old w.drew _ G|exact heap_alloc_old w.drew _ k G)⟩⟩
  .simp only[zEb,zAl,zHl,I,d.1,A];omega
  .simp only[zEa];rw[<-r];exact zGi
 obtain⟨rfl,rfl⟩|⟨g,cap,cur,S,rfl,Q,O,C,vy,D,x⟩:=d.2
 .have Z:xs=[]:=zBr d.1;subst Z;have K:=run_append_nil (P:=P) w t ty e i z J M V a m c b (by rw[A,f];omega) o hm (by omega) (by rw[zAv]at p;omega);have q:=grown 0 (Value.ownBlock (aJ aB 0 0));simp only[zAv,zCl,zCm]at q⊢;exact⟨_,_,K,q.1,q.2⟩
 .by_cases l:n+m<=cap
  .obtain⟨E,q1,U,Y⟩:=KM g b n w cur e S O (by rw[A,D];exact l);obtain⟨s1,s2,X,s4⟩:=KE g b n w;have hf:=run_firstCells_some (P:=P) w 1 m a m c b (by omega) o;have B:=run_storeCells_cells (P:=P) g n b 0 w (λj L=>by rw[zEv,zGy w g _ cur e S O];simp;omega) (λj L=>by
    have:=C (n+j) (by omega);simp only[World.frozen?,zEv,O];rw[Bool.and_eq_false_iff];simp only[zEg];omega) h1
   rw[zEv]at B;have s:(⟨g,0,aB⟩:Addr).add n=⟨g,n,aB⟩:=by unfold Addr.add;split<;>simp_all
   refine⟨aJ (aA ⟨g,0,aB⟩) (n+m) cap,w.setCells g n b,?_,⟨r,aH ⟨g,cap,E,S,rfl,Q,q1,by rw[U];exact C,l,by rw[U,D],?_⟩⟩,⟨s1,s2,X,by omega,λk _ G=>vC g k (λh=>G (by rw[h];rfl)) b n w⟩⟩
   .simp[Builtin.append_,run_underlying J,sizeOf,typeInfo,M,f,Builtin.lenOf,l,hf,s,B]
   .rw[<-A,Y,x]
  .have holds:∀j u,xs[j]? =aA u->w.cell? ((⟨g,0,aB⟩:Addr).add j)=aA u:=λj u W=>by
    have s:(⟨g,0,aB⟩:Addr).add j=⟨g,j,aB⟩:=by unfold Addr.add;split<;>simp_all
    have L:j<n:=by have:=(zAi.1 W).1;rw[d.1]at this;exact this
    rw[s,d.cell j L,W]
   have K:=run_append_grow (P:=P) w t ty e i z J M V ⟨g,0,aB⟩ n cap xs (by rw[d.1,f];omega) holds a m c b (by rw[A,f];omega) o (by omega) (by omega) (growslice_fits (by omega) p);have q:=grown cap (Value.ownBlock (aJ (aA ⟨g,0,aB⟩) n cap));exact⟨_,_,K,q.1,q.2⟩
def wC {P:zZ}{w:zW}{ops:zQ}{rest:List Oper}{o:Oper}{a:Act}{Q:zX}(q:o.guard=aB)(s x:Operand)(t:zD)
  (D:o.op= .call {callee:= .builtin .append,args:= #[s,x],argTypes:= #[t,t]})
  (base:Nat) (e:zD) (i:TypeInfo) (z:zY) (B:P.underlying t=aA (.slice e)) (G:P.info? e=aA i) (y:i.zero=aA z)
  (f:i.size=1) (p:z.cells.size=1) (v:zY) (n:Nat) (xs:zV) (hs:a.eval s=v) (l:Own w base e v n xs)
  (ad:Addr) (m c:Nat) (b:zV) (E:0<m) (A:a.eval x=aJ (aA ad) m c) (F:b.length=m) (g:∀j u,b[j]? =aA u->w.cell? (ad.add j)=aA u) (K:∀u∈b,u.oneCell'=aE)
  (r:n+m<=maxLen) (d:(n+m)*i.bytes<=140737488355328) (k:base<=w.heap.size)
  (h:∀v' w',Own w' base e v' (n+m) (xs++b)->w.grownBy w' v.ownBlock->wpList P ops Q rest (a.put o.dst v') w'):wpList P ops Q (o::rest) a w:=by
 obtain⟨v',w',C,J,I⟩:=sD (P:=P) w base t o.type e i z B G y f p v n xs l ad m c b E F g K r d k
 refine wpList_plain q λ_ H=> ?_
 unfold Oper.wp execOp
 simp only[D,resolve,invoke,builtin,Sem.run_bind,Sem.run_pure,zHi,zFe,zEh,zGg,hs,A,C]
 exact H _ _ (h v' w' J I)
def EW {P:zZ}{w:zW}{o:Oper}{a:Act}{K:Act->zW->Prop}{Q:zX}(s x:Operand)(t:zD)
  (C:o.op= .call {callee:= .builtin .append,args:= #[s,x],argTypes:= #[t,t]})
  (base:Nat) (e:zD) (i:TypeInfo) (z:zY) (A:P.underlying t=aA (.slice e)) (F:P.info? e=aA i) (r:i.zero=aA z)
  (f:i.size=1) (p:z.cells.size=1) (v:zY) (n:Nat) (xs:zV) (hs:a.eval s=v) (l:Own w base e v n xs)
  (ad:Addr) (m c:Nat) (b:zV) (D:0<m) (y:a.eval x=aJ (aA ad) m c) (E:b.length=m) (g:∀j u,b[j]? =aA u->w.cell? (ad.add j)=aA u) (I:∀u∈b,u.oneCell'=aE)
  (q:n+m<=maxLen) (d:(n+m)*i.bytes<=140737488355328) (k:base<=w.heap.size)
  (h:∀v' w',Own w' base e v' (n+m) (xs++b)->w.grownBy w' v.ownBlock->K (a.put o.dst v') w'):o.wp P a w K Q:=by
 obtain⟨v',w',B,H,G⟩:=sD (P:=P) w base t o.type e i z A F r f p v n xs l ad m c b D E g I q d k
 unfold Oper.wp execOp
 simp only[C,resolve,invoke,builtin,Sem.run_bind,Sem.run_pure,zHi,zFe,zEh,zGg,hs,y,B]
 exact h v' w' H G
def Own.form {w:zW}{base:Nat}{e:zD}{v:zY}{n:Nat}{xs:zV}(h:Own w base e v n xs)(b:0<n):∃g cap,v=aJ (aA ⟨g,0,aB⟩) n cap:=by
 obtain⟨_,c⟩|⟨g,cap,_,_,a,_⟩:=h.2
 .omega
 .exact⟨g,cap,a⟩
def lC {w w':zW}{o:Obj}{row:Option Nat}(h:(w.alloc o).grownBy w' row):w.grownBy w' row:=
 ⟨h.os,h.tape,h.output,by have:=h.size;rw[size_alloc]at this;omega,λk b a=>by rw[h.block k (by rw[size_alloc];omega) a];exact Below.heap_alloc w o k b⟩
def bB.grown {w w':zW}{row:Option Nat}{g:Nat}{t:zD}{cs:zA}(h:bB w g t cs)(b:w.grownBy w' row)(a:aA g≠row):bB w' g t cs:=by unfold bB;rw[b.block g h.lt a];exact h
def uN {w:zW}{base:Nat}{e:zD}{v:zY}{n:Nat}{xs:zV}(h:Own w base e v n xs)(g:Nat)(b:g<base):aA g≠v.ownBlock:=by intro a;have:=(h.lt g a.symm).1;omega
def pI {w0 w w':zW}{B base:Nat}{e:zD}{v:zY}{n:Nat}{xs:zV}(d:Below B w0 w)(h:Own w base e v n xs)(c:w.grownBy w' v.ownBlock)(f:B<=base)(a:B<=w.heap.size):Below B w0 w':=
 d.grown c a λk b=>zBl f (h.lt k b).1
def BY:∃i,zq.info? 5=aA i/\i.zero=aA (aC aP 0)/\i.size=1/\i.bytes=1:=by
 have h:(zq.info? 5).map (λi=>(i.zero,i.size,i.bytes))=aA (aA (aC aP 0),1,1):=by kernel_rfl
 cases a:zq.info? 5 with
 |none=>rw[a]at h;cases h
 |some i=>rw[a]at h;simp only[zAx,Option.some.injEq,Prod.mk.injEq]at h;exact⟨i,rfl,h.1,h.2.1,h.2.2⟩
def FJ:∃i,zq.info? 9=aA i/\i.zero=aA (aK ⟨#[]⟩)/\i.size=1/\i.bytes=16:=by
 have h:(zq.info? 9).map (λi=>(i.zero,i.size,i.bytes))=aA (aA (aK ⟨#[]⟩),1,16):=by kernel_rfl
 cases a:zq.info? 9 with
 |none=>rw[a]at h;cases h
 |some i=>rw[a]at h;simp only[zAx,Option.some.injEq,Prod.mk.injEq]at h;exact⟨i,rfl,h.1,h.2.1,h.2.2⟩
def uA {W:zW}{ops:zQ}{rest:List Oper}{o:Oper}{a:Act}{Q:zX}(f:o.guard=aB)(s x:Operand)
  (r:o.op= .call {callee:= .builtin .append,args:= #[s,x],argTypes:= #[82,82]})
  (base:Nat) (v:zY) (n:Nat) (xs:zV) (hs:a.eval s=v) (b:Own W base 9 v n xs) (ys:zV) (c:Nat) (p:a.eval x=aJ (aA ⟨W.heap.size,0,aB⟩) ys.length c) (m:0<ys.length) (z:∀u∈ys,u.oneCell'=aE)
  (A:n+ys.length<=1000000) (k:base<=W.heap.size)
  (h:∀v' w',Own w' base 9 v' (n+ys.length) (xs++ys)->W.grownBy w' v.ownBlock->wpList zq ops Q rest (a.put o.dst v') w'):wpList zq ops Q (o::rest) a (W.alloc (aI ys.toArray 9)):=by
 obtain⟨i,t,l,e,g⟩:=FJ
 refine wC f s x 82 r base 9 i (aK ⟨#[]⟩) ((Qz.cO 82).trans Tryz.underlying82) t l e rfl v n xs hs (b.alloc _) _ ys.length c ys m p rfl (λj u q=> ?_) z (by simp only[maxLen];omega) (by rw[g];omega) (by rw[size_alloc];omega) (λv' w' y w=>h v' w' y (lC w))
 have d:(⟨W.heap.size,0,aB⟩:Addr).add j=⟨W.heap.size,j,aB⟩:=by unfold Addr.add;split<;>simp_all
 rw[d,(bB.new W 9 ys.toArray).cell j]
 simpa using q
def AU {W:zW}{ops:zQ}{o:Oper}{a:Act}{K:Act->zW->Prop}{Q:zX}{E:Prop}(f:o.guard=aB)(s x:Operand)
  (t:o.op= .call {callee:= .builtin .append,args:= #[s,x],argTypes:= #[82,82]})
  (base:Nat) (v:zY) (n:Nat) (xs:zV) (hs:a.eval s=v) (b:Own W base 9 v n xs) (ys:zV) (c:Nat) (p:a.eval x=aJ (aA ⟨W.heap.size,0,aB⟩) ys.length c) (m:0<ys.length) (A:∀u∈ys,u.oneCell'=aE)
  (B:n+ys.length<=1000000) (k:base<=W.heap.size)
  (h:∀v' w',Own w' base 9 v' (n+ys.length) (xs++ys)->W.grownBy w' v.ownBlock->K (a.put o.dst v') w'):
  if Region.wanted o (yielded ops a.tmps)=aE then Oper.wp zq o a (W.alloc (aI ys.toArray 9)) K Q else E:=by
 have q:Region.wanted o (yielded ops a.tmps)=aE:=by simp[Region.wanted,f]
 rw[zAk q]
 obtain⟨i,w,l,e,g⟩:=FJ
 refine EW s x 82 t base 9 i (aK ⟨#[]⟩) ((Qz.cO 82).trans Tryz.underlying82) w l e rfl v n xs hs (b.alloc _) _ ys.length c ys m p rfl (λj u r=> ?_) A (by simp only[maxLen];omega) (by rw[g];omega) (by rw[size_alloc];omega) (λv' w' z y=>h v' w' z (lC y))
 have d:(⟨W.heap.size,0,aB⟩:Addr).add j=⟨W.heap.size,j,aB⟩:=by unfold Addr.add;split<;>simp_all
 rw[d,(bB.new W 9 ys.toArray).cell j]
 simpa using r
end Go.Proofs.Zq
