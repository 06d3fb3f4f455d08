import Derived.Laws.BitsAllLaws
import Derived.StillTail
import Derived.Deep.Quiet
import Derived.Deep.QuietTactic
import Derived.BigQuiet
import Derived.Lib.QuietBelow
import Derived.Test.YtghpcgagijhlaaaGreatDoorRows
import Derived.Deep.RegionWith
import Derived.WalkSpells
import Derived.WalkLawsBesides
import Derived.Lib.ConvBytes
import Derived.Test.YtghpcgagijhlaaaGreatDoorP23
set_option linter.all false
set_option maxRecDepth 100000
set_option maxHeartbeats 16000000
open Option renaming some->aA,none->aB
open Bool renaming true->aE,false->aF
open Or renaming inl->aG,inr->aH
open Go.Ending renaming returned->aL
open Go.Obj renaming cells->aI
open Go.IntKind renaming i64->aD,u32->aO,u64->aQ,u8->aP
open Go.Value renaming slice->aJ,string->aK,pointer->aN,int->aC
open BitVec renaming ofInt->aC6,ofNat->aC7,ofInt_natCast->aC8,toNat_ofNat->aC9,toNat_and->aDa,toNat_xor->aDb
open Go.IntKind renaming wrap_u32'->aDc,wrap->aDd,bits->aDe,signed->aDf
open Int renaming natCast_mul->aDg,fdiv_eq_ediv_of_nonneg->aDh
open Nat renaming mod_eq_of_lt->aDi,lt_of_not_le->aDj
namespace Go
abbrev zGr:=@Go.below_regrown
abbrev zGv:=@Go.wp_region_quiet_below
abbrev zHc:=@Go.wpQuiet_nil
abbrev zHd:=@Go.Calls.regrown_of
end Go
namespace Go.Ga
open Go.RowKit Go.Proofs Go.Ren Go.Conc
structure Co (N:Nat)(pa:zO)(bp o bt:Nat)(D:zP)(dd:Nat->Int)(sa:Nat->zO)(sl sc:Nat->Nat)(strs:Nat->ByteArray)(W:zW):Prop where
 lt:N<2147483647
 Xw:0<N->pa=aA ⟨bp,o,aB⟩
 Ws:0<N->bp<W.heap.size
 q0:∀i,i<N->W.cell? ⟨bp,o+i*2,aB⟩=aA (.int aD (dd i))
 q1:∀i,i<N->W.cell? ⟨bp,o+i*2+1,aB⟩=aA (.slice (sa i) (sl i) (sc i))
 plain:Plain zq Qw.Al D W
 top:D bt
 part:∀i,i<N->∀a,sa i=aA a->D a.block
 work:∀i,i<N->∀W',rS D W W'->Calls zq 171 #[.pointer (aA ⟨bt,0,aB⟩),.agg #[.int aD (dd i),.slice (sa i) (sl i) (sc i)]] W' λe W''=>e=aL (.string (strs i))/\zb W' W''
section
variable {N:Nat}{pa:zO}{bp o cp bt:Nat}{D:zP}{dd:Nat->Int}{sa:Nat->zO}{sl sc:Nat->Nat}{strs:Nat->ByteArray}{W:zW}
def uV (W:zW)(t:Bool){b:Nat}(h:b<W.heap.size):(boxed W t).heap[b]? =W.heap[b]? :=by
 show(W.heap.push _)[b]? =_
 rw[zBh,zAh (by omega)]
def JH (W:zW)(t:Bool):(boxed W t).heap.size=W.heap.size+1:=by
 show(W.heap.push _).size=_
 rw[zBb]
def yB {P:zZ}{A:zF}(h:Plain P A D W){b:Nat}(d:D b):b<W.heap.size:=by
 obtain⟨c,t,f,a,_⟩|⟨_,o,a,_⟩:=h.blk b d
 .exact(zAb.1 a).1
 .exact(zAb.1 a).1
def Co.box (h:Co N pa bp o bt D dd sa sl sc strs W):Fork N pa bp o bt D dd sa sl sc strs (boxed W aE):=by
 have f:∀k,0<N->(boxed W aE).cell? ⟨bp,k,aB⟩=W.cell? ⟨bp,k,aB⟩:=λk e=>by simp only[World.cell?];rw[uV W aE (h.Ws e)]
 have m:=JH W aE
 refine⟨h.lt,h.Xw,λe=>by have:=h.Ws e;omega,λi c=>(f _ (by omega)).trans (h.q0 i c),λi c=>(f _ (by omega)).trans (h.q1 i c),⟨h.plain.ok,by have:=h.plain.low;omega,λb a=> ?_⟩,h.top,h.part,λb a=>by have:=yB h.plain a;omega,λi c l j=>h.work i c l λb a g d=>j b a g ?_⟩
 .rw[uV W aE (yB h.plain a)];exact h.plain.blk b a
 .rw[uV W aE (yB h.plain a)];exact d
def Rk (h:Co N pa bp o bt D dd sa sl sc strs W):Calls zq 170 #[lW pa N cp,lM bt] W λe a=>
  (∃g eV,e=aL (.slice (aA ⟨g,0,aB⟩) N N)/\zb W a/\W.heap.size<=g/\a.heap[g]? =aA (aI eV 9 (0,0))/\eV.size=N/\∀i,i<N->eV[i]? =aA (.string (strs i)))\/∃c,e= .panicked c/\mY c a:=by
 intro cs
 have p:(full #[lW pa N cp,lM bt]).size=43:=lS (by simp)
 have hF:=h.box
 have l:Frame.enter zq 170 #[lW pa N cp,lM bt] .normal=gR (full #[lW pa N cp,lM bt]) [.code Qz.AE]:=by rw[IQ];rfl
 rw[l]
 by_cases q:Ee W.tape W.drawn=0
 .obtain⟨f,own,L,⟨n,J,r,I,H⟩,d⟩:=Lone.steps (KZ (cs:=cs) (v:=W) (S:=λf own u=>own=[]/\u=(boxed W aE).re W.tape (W.drawn+1)/\f.fn=170/\f.mode= .panicking (told (full #[lW pa N cp,lM bt]))/\f.defers=[]) W.tape W.drawn q p λf F E C _=>⟨rfl,rfl,F,E,C⟩);subst n;subst J;exact⟨.panicked (told (full #[lW pa N cp,lM bt])),_,f,aH ⟨_,rfl,N,pa,bp,o,cp,bt,D,dd,sa,sl,sc,strs,rfl,hF.re _ _⟩,d,r,I,H,Qz.f170,by rw[r];exact Qz.func170⟩
 .have K:(full #[lW pa N cp,lM bt]).getD 0 undef=lW pa N cp:=by rw[zBi,Bh];rfl
  have n:(full #[lW pa N cp,lM bt]).getD 1 undef=lM bt:=by rw[zBi,Bg];rfl
  have m:=Bq N pa bp o cp bt D dd sa sl sc strs _ hF ((boxed W aE).re W.tape (W.drawn+1)) (zAa _) (λb _=>rfl)
  have G:Calls zq 28 #[(full #[lW pa N cp,lM bt]).getD 0 undef,(full #[lW pa N cp,lM bt]).getD 1 undef] ((boxed W aE).re W.tape (W.drawn+1)) λe a=>∃x,e=aL x/\(Row N strs (boxed W aE) x a/\a.tape=W.tape/\a.output=W.output):=by rw[K,n];exact m.mono λe a A=>A.imp λx j=>⟨j.1,Je j.2.1,j.2.2⟩
  obtain⟨x,w,f,⟨⟨g,eV,rfl,r1,r2,r3,r4,r5,r6⟩,t,s⟩,d,k,z⟩:=UY (v:=W) p W.tape W.drawn q (R:=λx a=>Row N strs (boxed W aE) x a/\a.tape=W.tape/\a.output=W.output) G cs
  have y:=JH W aE
  have M:=(zAb.1 r3).1
  exact⟨aL (.slice (aA ⟨g,0,aB⟩) N N),w,f,aG ⟨g,eV,rfl,⟨r6,t,s,by omega,λb B=>(r2 b (by omega)).trans (uV W aE B)⟩,by omega,r3,r4,r5⟩,d,k,z⟩
end
end Go.Ga
namespace Go.Proofs
open Go.Ga
def Qz.func9:=Qz.fn Tryz.func9
def Qz.func12:=Qz.fn Tryz.func12
def Qz.func13:=Qz.fn Tryz.func13
def Qz.func14:=Qz.fn Tryz.func14
def Qz.func15:=Qz.fn Tryz.func15
def Qz.func18:=Qz.fn Tryz.func18
def Qz.func19:=Qz.fn Tryz.func19
def Qz.func20:=Qz.fn Tryz.func20
def Qz.func21:=Qz.fn Tryz.func21
def Qz.func22:=Qz.fn Tryz.func22
def Qz.func23:=Qz.fn Tryz.func23
def Qz.func24:=Qz.fn Tryz.func24
def Qz.func31:=Qz.fn Tryz.func31
def Qz.func32:=Qz.fn Tryz.func32
def Qz.func33:=Qz.fn Tryz.func33
def Qz.func34:=Qz.fn Tryz.func34
def Qz.func35:=Qz.fn Tryz.func35
def Qz.func36:=Qz.fn Tryz.func36
def Qz.func37:=Qz.fn Tryz.func37
def Qz.func38:=Qz.fn Tryz.func38
def Qz.func39:=Qz.fn Tryz.func39
def Qz.func40:=Qz.fn Tryz.func40
def Qz.func41:=Qz.fn Tryz.func41
def Qz.func49:=Qz.fn Tryz.func49
def Qz.func52:=Qz.fn Tryz.func52
def Qz.func53:=Qz.fn Tryz.func53
def Qz.func54:=Qz.fn Tryz.func54
def Qz.func55:=Qz.fn Tryz.func55
def Qz.func56:=Qz.fn Tryz.func56
def Qz.func57:=Qz.fn Tryz.func57
def Qz.func58:=Qz.fn Tryz.func58
def Qz.func59:=Qz.fn Tryz.func59
def Qz.func60:=Qz.fn Tryz.func60
def Qz.func61:=Qz.fn Tryz.func61
def Qz.func62:=Qz.fn Tryz.func62
def Qz.func63:=Qz.fn Tryz.func63
def Qz.func64:=Qz.fn Tryz.func64
def Qz.func65:=Qz.fn Tryz.func65
def Qz.func76:=Qz.fn Tryz.func76
def Qz.func77:=Qz.fn Tryz.func77
def Qz.func78:=Qz.fn Tryz.func78
def Qz.func79:=Qz.fn Tryz.func79
def Qz.func80:=Qz.fn Tryz.func80
def Qz.func81:=Qz.fn Tryz.func81
def Qz.func82:=Qz.fn Tryz.func82
def Qz.func83:=Qz.fn Tryz.func83
def Qz.func84:=Qz.fn Tryz.func84
def Qz.func85:=Qz.fn Tryz.func85
def Qz.func86:=Qz.fn Tryz.func86
def Qz.func88:=Qz.fn Tryz.func88
def Qz.func89:=Qz.fn Tryz.func89
def Qz.func95:=Qz.fn Tryz.func95
def Qz.func96:=Qz.fn Tryz.func96
def Qz.func97:=Qz.fn Tryz.func97
def Qz.func98:=Qz.fn Tryz.func98
def Qz.func99:=Qz.fn Tryz.func99
def Qz.func100:=Qz.fn Tryz.func100
def Qz.func101:=Qz.fn Tryz.func101
def Qz.func103:=Qz.fn Tryz.func103
def Qz.func107:=Qz.fn Tryz.func107
def Qz.func108:=Qz.fn Tryz.func108
def Qz.func109:=Qz.fn Tryz.func109
def Qz.func110:=Qz.fn Tryz.func110
def Qz.func111:=Qz.fn Tryz.func111
def Qz.func112:=Qz.fn Tryz.func112
def Qz.func113:=Qz.fn Tryz.func113
def Qz.func114:=Qz.fn Tryz.func114
def Qz.func115:=Qz.fn Tryz.func115
def Qz.func116:=Qz.fn Tryz.func116
def Qz.func117:=Qz.fn Tryz.func117
def Qz.func118:=Qz.fn Tryz.func118
def Qz.func121:=Qz.fn Tryz.func121
def Qz.func122:=Qz.fn Tryz.func122
def Qz.func123:=Qz.fn Tryz.func123
def Qz.func124:=Qz.fn Tryz.func124
def Qz.func125:=Qz.fn Tryz.func125
def Qz.func126:=Qz.fn Tryz.func126
def Qz.func127:=Qz.fn Tryz.func127
def Qz.func128:=Qz.fn Tryz.func128
def Qz.func130:=Qz.fn Tryz.func130
def Qz.func131:=Qz.fn Tryz.func131
def Qz.func132:=Qz.fn Tryz.func132
def Qz.func133:=Qz.fn Tryz.func133
def Qz.func149:=Qz.fn Tryz.func149
def Qz.func150:=Qz.fn Tryz.func150
def Qz.func151:=Qz.fn Tryz.func151
def Qz.func152:=Qz.fn Tryz.func152
def Qz.func153:=Qz.fn Tryz.func153
def Qz.func154:=Qz.fn Tryz.func154
def Qz.func155:=Qz.fn Tryz.func155
def Qz.func156:=Qz.fn Tryz.func156
def Qz.func157:=Qz.fn Tryz.func157
def Qz.func158:=Qz.fn Tryz.func158
def Qz.func159:=Qz.fn Tryz.func159
def Qz.func160:=Qz.fn Tryz.func160
def Qz.func161:=Qz.fn Tryz.func161
def Qz.func162:=Qz.fn Tryz.func162
def Qz.func163:=Qz.fn Tryz.func163
def Qz.func164:=Qz.fn Tryz.func164
def Qz.func165:=Qz.fn Tryz.func165
def Qz.func166:=Qz.fn Tryz.func166
def Qz.func167:=Qz.fn Tryz.func167
def Qz.func168:=Qz.fn Tryz.func168
def Qz.func169:=Qz.fn Tryz.func169
def Qz.func171:=Qz.fn Tryz.func171
def Qz.func172:=Qz.fn Tryz.func172
def Qz.func173:=Qz.fn Tryz.func173
def Qz.func174:=Qz.fn Tryz.func174
def Qz.func175:=Qz.fn Tryz.func175
def Qz.func176:=Qz.fn Tryz.func176
def Qz.func177:=Qz.fn Tryz.func177
def Qz.func179:=Qz.fn Tryz.func179
def Qz.func180:=Qz.fn Tryz.func180
def Qz.func186:=Qz.fn Tryz.func186
@[simp]def Qz.call12:=Qz.call Qz.func12
@[simp]def Qz.call13:=Qz.call Qz.func13
@[simp]def Qz.call14:=Qz.call Qz.func14
@[simp]def Qz.call15:=Qz.call Qz.func15
@[simp]def Qz.call18:=Qz.call Qz.func18
@[simp]def Qz.call19:=Qz.call Qz.func19
@[simp]def Qz.call20:=Qz.call Qz.func20
@[simp]def Qz.call21:=Qz.call Qz.func21
@[simp]def Qz.call22:=Qz.call Qz.func22
@[simp]def Qz.call23:=Qz.call Qz.func23
@[simp]def Qz.call24:=Qz.call Qz.func24
@[simp]def Qz.call31:=Qz.call Qz.func31
@[simp]def Qz.call32:=Qz.call Qz.func32
@[simp]def Qz.call33:=Qz.call Qz.func33
@[simp]def Qz.call34:=Qz.call Qz.func34
@[simp]def Qz.call35:=Qz.call Qz.func35
@[simp]def Qz.call36:=Qz.call Qz.func36
@[simp]def Qz.call37:=Qz.call Qz.func37
@[simp]def Qz.call38:=Qz.call Qz.func38
@[simp]def Qz.call39:=Qz.call Qz.func39
@[simp]def Qz.call40:=Qz.call Qz.func40
@[simp]def Qz.call41:=Qz.call Qz.func41
@[simp]def Qz.call49:=Qz.call Qz.func49
@[simp]def Qz.call52:=Qz.call Qz.func52
@[simp]def Qz.call53:=Qz.call Qz.func53
@[simp]def Qz.call54:=Qz.call Qz.func54
@[simp]def Qz.call55:=Qz.call Qz.func55
@[simp]def Qz.call56:=Qz.call Qz.func56
@[simp]def Qz.call57:=Qz.call Qz.func57
@[simp]def Qz.call58:=Qz.call Qz.func58
@[simp]def Qz.call59:=Qz.call Qz.func59
@[simp]def Qz.call60:=Qz.call Qz.func60
@[simp]def Qz.call61:=Qz.call Qz.func61
@[simp]def Qz.call63:=Qz.call Qz.func63
@[simp]def Qz.call64:=Qz.call Qz.func64
@[simp]def Qz.call65:=Qz.call Qz.func65
@[simp]def Qz.call76:=Qz.call Qz.func76
@[simp]def Qz.call77:=Qz.call Qz.func77
@[simp]def Qz.call78:=Qz.call Qz.func78
@[simp]def Qz.call79:=Qz.call Qz.func79
@[simp]def Qz.call80:=Qz.call Qz.func80
@[simp]def Qz.call81:=Qz.call Qz.func81
@[simp]def Qz.call82:=Qz.call Qz.func82
@[simp]def Qz.call83:=Qz.call Qz.func83
@[simp]def Qz.call84:=Qz.call Qz.func84
@[simp]def Qz.call85:=Qz.call Qz.func85
@[simp]def Qz.call86:=Qz.call Qz.func86
@[simp]def Qz.call88:=Qz.call Qz.func88
@[simp]def Qz.call95:=Qz.call Qz.func95
@[simp]def Qz.call96:=Qz.call Qz.func96
@[simp]def Qz.call97:=Qz.call Qz.func97
@[simp]def Qz.call98:=Qz.call Qz.func98
@[simp]def Qz.call99:=Qz.call Qz.func99
@[simp]def Qz.call100:=Qz.call Qz.func100
@[simp]def Qz.call101:=Qz.call Qz.func101
@[simp]def Qz.call107:=Qz.call Qz.func107
@[simp]def Qz.call108:=Qz.call Qz.func108
@[simp]def Qz.call109:=Qz.call Qz.func109
@[simp]def Qz.call110:=Qz.call Qz.func110
@[simp]def Qz.call117:=Qz.call Qz.func117
@[simp]def Qz.call118:=Qz.call Qz.func118
@[simp]def Qz.call121:=Qz.call Qz.func121
@[simp]def Qz.call127:=Qz.call Qz.func127
@[simp]def Qz.call128:=Qz.call Qz.func128
@[simp]def Qz.call130:=Qz.call Qz.func130
@[simp]def Qz.call133:=Qz.call Qz.func133
@[simp]def Qz.call149:=Qz.call Qz.func149
@[simp]def Qz.call150:=Qz.call Qz.func150
@[simp]def Qz.call151:=Qz.call Qz.func151
@[simp]def Qz.call152:=Qz.call Qz.func152
@[simp]def Qz.call153:=Qz.call Qz.func153
@[simp]def Qz.call154:=Qz.call Qz.func154
@[simp]def Qz.call155:=Qz.call Qz.func155
@[simp]def Qz.call156:=Qz.call Qz.func156
@[simp]def Qz.call157:=Qz.call Qz.func157
@[simp]def Qz.call158:=Qz.call Qz.func158
@[simp]def Qz.call159:=Qz.call Qz.func159
@[simp]def Qz.call160:=Qz.call Qz.func160
@[simp]def Qz.call161:=Qz.call Qz.func161
@[simp]def Qz.call162:=Qz.call Qz.func162
@[simp]def Qz.call163:=Qz.call Qz.func163
@[simp]def Qz.call164:=Qz.call Qz.func164
@[simp]def Qz.call165:=Qz.call Qz.func165
@[simp]def Qz.call166:=Qz.call Qz.func166
@[simp]def Qz.call167:=Qz.call Qz.func167
@[simp]def Qz.call168:=Qz.call Qz.func168
@[simp]def Qz.call169:=Qz.call Qz.func169
@[simp]def Qz.call172:=Qz.call Qz.func172
@[simp]def Qz.call173:=Qz.call Qz.func173
@[simp]def Qz.call174:=Qz.call Qz.func174
@[simp]def Qz.call175:=Qz.call Qz.func175
@[simp]def Qz.call176:=Qz.call Qz.func176
@[simp]def Qz.call179:=Qz.call Qz.func179
@[simp]def Qz.call180:=Qz.call Qz.func180
@[simp]def Qz.call186:=Qz.call Qz.func186
end Go.Proofs
namespace Go.Proofs.Zq.Sha
open Go
def ofInt32 (a:BitVec 32):aC6 32 (a.toNat:Int)=a:=by apply BitVec.eq_of_toNat_eq;simp
def Ms (a b:BitVec 32):bits .and aO (a.toNat:Int) (b.toNat:Int)=((a&&&b).toNat:Int):=by
 show IntKind.u32.wrap ((aC6 32 (a.toNat:Int)&&&aC6 32 (b.toNat:Int)).toNat:Int)=_
 rw[ofInt32,ofInt32,aDc];have:=(a&&&b).isLt;omega
def Bz (a b:BitVec 32):bits .or aO (a.toNat:Int) (b.toNat:Int)=((a|||b).toNat:Int):=by
 show IntKind.u32.wrap ((aC6 32 (a.toNat:Int)|||aC6 32 (b.toNat:Int)).toNat:Int)=_
 rw[ofInt32,ofInt32,aDc];have:=(a|||b).isLt;omega
def VF (a b:BitVec 32):bits .xor aO (a.toNat:Int) (b.toNat:Int)=((a^^^b).toNat:Int):=by
 show IntKind.u32.wrap ((aC6 32 (a.toNat:Int)^^^aC6 32 (b.toNat:Int)).toNat:Int)=_
 rw[ofInt32,ofInt32,aDc];have:=(a^^^b).isLt;omega
def Mr (a:BitVec 32):bits .xor aO 4294967295 (a.toNat:Int)=((~~~a).toNat:Int):=by
 have h:=VF (aC7 32 4294967295) a;have e:((aC7 32 4294967295).toNat:Int)=4294967295:=by decide
 rw[e]at h;rw[h]
 congr 2
def nE (n:Nat):((2^n:Nat):Int)=(2:Int)^n:=by
 induction n with
 |zero=>rfl
 |succ n i=>rw[Nat.pow_succ,aDg,i,Int.pow_succ];rfl
def Ea (a:BitVec 32)(n:Nat):IntKind.u32.wrap ((a.toNat:Int)*2^n)=((a<<<n).toNat:Int):=by rw[aDc,BitVec.toNat_shiftLeft,Nat.shiftLeft_eq,<-nE,Int.natCast_emod,aDg];rfl
def Dz (a:BitVec 32)(n:Nat):(a.toNat:Int).fdiv (2^n)=((a>>>n).toNat:Int):=by rw[BitVec.toNat_ushiftRight,Nat.shiftRight_eq_div_pow,<-nE,aDh _ (zEe _),Int.natCast_ediv]
def vA (x:BitVec 32)(n:Nat):BitVec 32:=x>>>n|||x<<<(32-n)
def S0 (x:BitVec 32):BitVec 32:=vA x 2^^^vA x 13^^^vA x 22
def S1 (x:BitVec 32):BitVec 32:=vA x 6^^^vA x 11^^^vA x 25
def s0 (x:BitVec 32):BitVec 32:=vA x 7^^^vA x 18^^^x>>>3
def s1 (x:BitVec 32):BitVec 32:=vA x 17^^^vA x 19^^^x>>>10
def add_mod (a b:BitVec 32):((a.toNat:Int)+(b.toNat:Int))%4294967296=((a+b).toNat:Int):=by rw[BitVec.toNat_add];omega
def Ar (a:BitVec 32)(n:Nat):((a.toNat:Int)*2^n)%4294967296=((a<<<n).toNat:Int):=by rw[<-Ea,aDc]
def Aq (a:BitVec 32)(n:Nat):(a.toNat:Int)/2^n=((a>>>n).toNat:Int):=by rw[<-Dz,<-nE,aDh _ (zEe _)]
def Pq (x:BitVec 32)(n:Nat):bits .or aO ((x.toNat:Int)*2^(32-n)%4294967296) ((x.toNat:Int)/2^n)=((vA x n).toNat:Int):=by rw[Ar,Aq,Bz,vA,BitVec.or_comm]
def ZP (a b:BitVec 32):bits .and aQ (a.toNat:Int) (b.toNat:Int)=((a&&&b).toNat:Int):=by
 have f:=a.isLt;have h:=b.isLt;have d:a.toNat&&&b.toNat<2^32:=Nat.and_lt_two_pow _ h;show IntKind.u64.wrap ((aC6 64 (a.toNat:Int)&&&aC6 64 (b.toNat:Int)).toNat:Int)=_
 have e:∀c:BitVec 32,(aC6 64 (c.toNat:Int)).toNat=c.toNat:=λc=>by have:=c.isLt;rw[aC8,aC9];exact aDi (by omega)
 rw[aDa,e,e,aDa]
 simp only[aDd,aDe,aDf]
 simp
 omega
def ZO (a b:BitVec 32):bits .xor aQ (a.toNat:Int) (b.toNat:Int)=((a^^^b).toNat:Int):=by
 have d:=a.isLt;have h:=b.isLt;have f:a.toNat^^^b.toNat<2^32:=Nat.xor_lt_two_pow d h;show IntKind.u64.wrap ((aC6 64 (a.toNat:Int)^^^aC6 64 (b.toNat:Int)).toNat:Int)=_
 have e:∀c:BitVec 32,(aC6 64 (c.toNat:Int)).toNat=c.toNat:=λc=>by have:=c.isLt;rw[aC8,aC9];exact aDi (by omega)
 rw[aDb,e,e,aDb]
 simp only[aDd,aDe,aDf]
 simp
 omega
def Xz (a:BitVec 32):(4294967295:Int)-(a.toNat:Int)=((~~~a).toNat:Int):=by have:=a.isLt;rw[BitVec.toNat_not];omega
def V (x:BitVec 32):Int:=(x.toNat:Int)
def Nc (x:BitVec 32):0<=V x:=zEe _
def kv (x:BitVec 32):V x<4294967296:=by have:=x.isLt;unfold V;omega
def V_add (a b:BitVec 32):(V a+V b)%4294967296=V (a+b):=add_mod a b
def V_and (a b:BitVec 32):bits .and aO (V a) (V b)=V (a&&&b):=Ms a b
def V_or (a b:BitVec 32):bits .or aO (V a) (V b)=V (a|||b):=Bz a b
def V_xor (a b:BitVec 32):bits .xor aO (V a) (V b)=V (a^^^b):=VF a b
def V_not (a:BitVec 32):bits .xor aO IntKind.u32.max (V a)=V (~~~a):=Mr a
def V_shr (a:BitVec 32)(n:Nat):V a/2^n=V (a>>>n):=Aq a n
def ab (a:BitVec 32)(n:Nat):(V a*2^n)%4294967296=V (a<<<n):=Ar a n
def ae (x:BitVec 32)(n:Nat):bits .or aO (V x*2^(32-n)%4294967296) (V x/2^n)=V (vA x n):=Pq x n
def V64_and (a b:BitVec 32):bits .and aQ (V a) (V b)=V (a&&&b):=ZP a b
def V64_xor (a b:BitVec 32):bits .xor aQ (V a) (V b)=V (a^^^b):=ZO a b
def V64_not (a:BitVec 32):4294967295-V a=V (~~~a):=Xz a
def V64_wrap (a:BitVec 32):IntKind.u64.wrap (V a)=V a:=by have b:=Nc a;have h:=kv a;simp only[aDd,aDe,aDf];simp;omega
def Vl (a:BitVec 32):V a/(8:Int)=V (a>>>3):=V_shr a 3
def Rp (a:BitVec 32):V a/(1024:Int)=V (a>>>10):=V_shr a 10
end Go.Proofs.Zq.Sha
namespace Go.Proofs.Zq.Tail
open Go Go.RowKit Go.Sort
section
variable {P:zZ}{ops:zQ}{md:Region.Mode}{C:zW->Prop}
def gJ (P:zZ)(md:Region.Mode)(ops:zQ)(C:zW->Prop)(n:Nat)(L:Array Bool->Act->Prop):Nat->Array Bool->Act->Prop
 |0,listed,a=>L listed a
 |f+1,listed,a=>Region.ready md ops listed≠[]/\∀i∈Region.ready md ops listed,i<n/\qOp P ops C i (gJ P md ops C n L f (listed.setIfInBounds i aE)) a
def PN {n g:Nat}{L:Array Bool->Act->Prop}{Q:zX}(k:∀listed a w,C w->L listed a->wpAny P md ops Q g listed a w)(f:Nat):
  ∀(listed:Array Bool)(a:Act)(w:zW),C w->gJ P md ops C n L f listed a->wpAny P md ops Q (f+g) listed a w:=by
 induction f with
 |zero=>intro listed a w c h;rw[zAv];exact k _ _ _ c h
 |succ f e=>intro listed a w c h;rw[show f+1+g=(f+g)+1 from by omega];exact⟨λl=>absurd l h.1,λi j=>wpOp_of_qOp c (λo d b m=>e _ o d b m) (h.2 i j).2⟩
def YK {n i:Nat}{t:Oper}{v:zY}{L:Array Bool->Act->Prop}(F:ops[i]? =aA t)(u:Region.noSelect ops=aE)
  (hs:Region.sinkB md ops n=aE) (J:Region.chainB md ops n=aE) (I:n<ops.size) (z:i<n)
  (r:∀listed a,L listed a->∀j∈Region.ready md ops listed,n<=j) (f:Nat):
  ∀(listed:Array Bool)(a:Act),HeadInv md ops n listed->
   (∀j o,ops[j]? =aA o->j≠i->listed.getD j aE=aF->(∀e∈o.after,Region.binds md e=aE->e.on≠i)->t.apart ops o=aE)->
   i∈Region.ready md ops listed->YieldsIn P ops C t v a->
   gJ P md ops C n L f (listed.setIfInBounds i aE) (a.put t.dst v)->gJ P md ops C n L (f+1) listed a:=by
 have Xk:=Region.noSelect_spec u
 induction f with
 |zero=>
  intro listed a inv _ s B H;have l:=(mem_ready.1 s).1;refine⟨List.ne_nil_of_mem s,λj q=> ?_⟩;have d:j<n:=aDj λh=>tail_waits hs J I inv _ i rfl z l j h q;by_cases c:j=i
  .subst c;exact⟨d,B.qOp F H⟩
  .have:=r _ _ H j (ready_mono q c);omega
 |succ f N=>
  intro listed a inv g s B H;have l:=(mem_ready.1 s).1;refine⟨List.ne_nil_of_mem s,λj q=> ?_⟩;have d:j<n:=aDj λh=>tail_waits hs J I inv _ i rfl z l j h q;by_cases c:j=i
  .subst c;exact⟨d,B.qOp F H⟩
  refine⟨d,?_⟩;obtain⟨m,o,p,A⟩:=mem_ready.1 q;have w:∀e∈o.after,Region.binds md e=aE->e.on≠i:=λe Q R G=>by have M:=A e Q R;rw[G,getD_both l]at M;cases M
  have S:=qOp_put p (g j o p c m w) (λcs b=>Xk i t cs b F) (λcs b=>Xk j o cs b p) B (H.2 j (ready_mono q c)).2
  refine qOp_mono (λT K=>N (listed.setIfInBounds j aE) T (inv.set q d) (λk ok O E x D=>g k ok O E ?_ D) (ready_mono s (zFg c)) K.1 ?_) S
  .by_cases y:j=k
   .subst y;exact m
   .rw[getD_set_ne aE y]at x;exact x
  .rw[zFb _ _ c];exact K.2
def Fj {n g:Nat}{L:Act->Prop}(c:Region.noSelect ops=aE)(hs:Region.sinkB md ops n=aE)(y:Region.chainB md ops n=aE)(w:n<ops.size)(l:List Oper):
  ∀(k:Nat)(listed:Array Bool)(a:Act),(∀j,j<l.length->l[j]? =ops[k+j]?)->k+l.length=n->HeadInv md ops n listed->
  Region.lexHead md ops g l.length k listed=aE->wpQuiet P ops C L l a->
  gJ P md ops C n (λb q=>Region.seqB md ops g n b=aE/\L q) l.length listed a:=by
 induction l with
 |nil=>
  intro k listed a _ i _ e h;obtain rfl:k=n:=by simpa using i
  exact⟨e,h⟩
 |cons o l r=>
  intro k listed a p i inv e h;have f:ops[k]? =aA o:=by simpa using(p 0 (by simp)).symm
  simp only[zAe,Region.lexHead,zBd]at e
  simp only[zAe]at i
  obtain⟨⟨t,x⟩,m⟩:=e
  have d:k∈Region.ready md ops listed:=by simpa using t
  have u:qOp P ops C k (wpQuiet P ops C L l) a:=by unfold qOp;simp only[f];exact h
  obtain⟨v,s,A⟩:=yieldsIn_of_qOp f u
  refine YK f c hs y w (by omega) (λb q z=>seqB_ready z.1) l.length listed a inv (Region.free_spec f x) d s ?_
  refine r (k+1) _ _ (λj B=> ?_) (by omega) (inv.set d (by omega)) m A
  have:=p (j+1) (by simp;omega)
  simpa [zCv,zGf 1 j]using this
def mH {id:Nat}{Q:zX}{a:Act}{w:zW}{l:List Oper}(n:Nat)(x:P.follows .mixedOrders=aE)(r:Region.lexTailB .any l.toArray n=aE)
  (z:C {w with drawn:=w.drawn+1})
  (h:wpQuiet P l.toArray C (λa'=>∀w',C w'->wpList P l.toArray Q (l.drop n) a' w') (l.take n) a):(Code.region id l.toArray aE).wp P Q a w:=by
 simp only[Region.lexTailB,zBd,zBs]at r
 obtain⟨⟨⟨⟨c,m⟩,u⟩,y⟩,d⟩:=r
 have v:n<l.length:=by simpa using m
 have b:(l.take n).length=n:=by simp;omega
 have e:(l.drop n).length=l.toArray.size-n:=by simp
 have i:HeadInv .any l.toArray n (Array.replicate l.toArray.size aF):=
  ⟨by simp,λj A _ o=>(by rw[getD_replicate_false]at o;cases o),λt _ s=>getD_in (by simpa using s) (getD_replicate_false _ _)⟩
 have H:=Fj (md:= .any) (g:=l.toArray.size-n) c u y m (l.take n) 0 _ a (λj p=>by
  have k:j<n:=by rw[b]at p;exact p
  simp[k]) (by simpa using b) i (by rw[b];exact d) h
 refine wp_region_any x ?_
 have:=PN (Q:=Q) (g:=l.toArray.size-n) (λlisted a' w' f q=>by have:=wpAny_of_seq (md:= .any) (Q':=Q) (l.drop n) n listed a' w' (λj=>by simp[zDv]) (by rw[e];exact q.1) (q.2 w' f);rwa [e]at this) _ _ _ _ z H
 rw[b,show n+(l.toArray.size-n)=l.toArray.size by omega]at this
 exact this
def De {id:Nat}{Q:zX}{a:Act}{w:zW}{l:List Oper}(n:Nat)(b:P.follows .mixedOrders=aE)(c:Region.lexTailB .any l.toArray n=aE)
  (h:wpQuiet P l.toArray (λw'=>∃n,w'=w.drewN n) (λa'=>∀w',(∃n,w'=w.drewN n)->wpList P l.toArray Q (l.drop n) a' w') (l.take n) a):(Code.region id l.toArray aE).wp P Q a w:=
 mH (C:=λw'=>∃n,w'=w.drewN n) n b c ⟨1,rfl⟩ h
def wE {id:Nat}{Q:zX}{a:Act}{w:zW}{l:List Oper}(n:Nat)(b:P.follows .mixedOrders=aE)(c:Region.lexTailB .any l.toArray n=aE)
  (h:wpQuiet P l.toArray (λw'=>∃p:Regrown,w'=grow (redrawn w p.d) p.os) (λa'=>∀w',(∃p:Regrown,w'=grow (redrawn w p.d) p.os)->wpList P l.toArray Q (l.drop n) a' w') (l.take n) a):(Code.region id l.toArray aE).wp P Q a w:=
 mH (C:=λw'=>∃p:Regrown,w'=grow (redrawn w p.d) p.os) n b c ⟨⟨w.drawn+1,#[]⟩,by rw[grow_empty];rfl⟩ h
end
end Go.Proofs.Zq.Tail
namespace Go.Proofs.Zq
open Go.RowKit Sha
def OK {k:IntKind}{a b:Int}(h:a=b):Ending.returned (.int k a)=aL (.int k b):=by rw[h]
def Qd (n:Nat)(h:1<=n)(a:n<=31):bits .and aQ (IntKind.u64.wrap (-(n:Int))) 31=((32-n:Nat):Int):=by
 have:∀n:Fin 32,1<=n.val->bits .and aQ (IntKind.u64.wrap (-(n.val:Int))) 31=((32-n.val:Nat):Int):=by decide
 exact this ⟨n,by omega⟩ h
def Pr (x:BitVec 32)(n:Nat)(w:zW)(b:1<=n)(h:n<=31):
  Calls zq 130 #[aC aO (V x),aC aD (-(n:Int))] w λe a=>e=aL (aC aO (V (vA x n)))/\a=w:=by
 have c:=Qd n b h
 go_enter Qz.func130,Tryz.ntmps130
 go_wp2
 go_ret
 exact⟨OK (by rw[show 32-(32-n)=n from by omega];exact ae x n),rfl⟩
def Ie (x:BitVec 32)(n:Nat)(w:zW)(b:1<=n)(h:n<=31):
  Calls zq 121 #[aC aO (V x),aC aD n] w λe a=>e=aL (aC aO (V (vA x n)))/\a=w:=by
 go_enter Qz.func121,Tryz.ntmps121
 go_wp2_with (go_at_call 130;refine(Pr x n _ b h).mono ?_;rintro e a ⟨rfl,rfl⟩)
 go_ret
 exact⟨rfl,rfl⟩
def lY (x:BitVec 32)(n:Nat)(m:Int)(w:zW)(h:m=n)(c:1<=n)(b:n<=31):
  Calls zq 121 #[aC aO (V x),aC aD m] w λe a=>e=aL (aC aO (V (vA x n)))/\a=w:=by
 subst h;exact Ie x n w c b
attribute [local go_sem] V_xor V_shr V64_xor
def Vp (x:BitVec 32)(w:zW):
  Calls zq 108 #[aC aO (V x)] w λe a=>e=aL (aC aO (V (S0 x)))/\a=w:=by
 go_enter Qz.func108,Tryz.ntmps108
 go_wp2_with fail
 refine(lY x 2 _ _ rfl (by omega) (by omega)).mono ?_;rintro e a ⟨rfl,rfl⟩
 go_wp2_with fail
 refine(lY x 13 _ _ rfl (by omega) (by omega)).mono ?_;rintro e a ⟨rfl,rfl⟩
 go_wp2_with fail
 refine(lY x 22 _ _ rfl (by omega) (by omega)).mono ?_;rintro e a ⟨rfl,rfl⟩
 go_wp2
 go_ret
 exact⟨rfl,rfl⟩
def Vo (x:BitVec 32)(w:zW):
  Calls zq 107 #[aC aO (V x)] w λe a=>e=aL (aC aO (V (S1 x)))/\a=w:=by
 go_enter Qz.func107,Tryz.ntmps107
 go_wp2_with fail
 refine(lY x 6 _ _ rfl (by omega) (by omega)).mono ?_;rintro e a ⟨rfl,rfl⟩
 go_wp2_with fail
 refine(lY x 11 _ _ rfl (by omega) (by omega)).mono ?_;rintro e a ⟨rfl,rfl⟩
 go_wp2_with fail
 refine(lY x 25 _ _ rfl (by omega) (by omega)).mono ?_;rintro e a ⟨rfl,rfl⟩
 go_wp2
 go_ret
 exact⟨rfl,rfl⟩
def Iz (x:BitVec 32)(w:zW):
  Calls zq 110 #[aC aO (V x)] w λe a=>e=aL (aC aO (V (s0 x)))/\a=w:=by
 go_enter Qz.func110,Tryz.ntmps110
 go_wp2_with fail
 refine(lY x 7 _ _ rfl (by omega) (by omega)).mono ?_;rintro e a ⟨rfl,rfl⟩
 go_wp2_with fail
 refine(lY x 18 _ _ rfl (by omega) (by omega)).mono ?_;rintro e a ⟨rfl,rfl⟩
 go_wp2
 go_ret
 exact⟨OK (by rw[Vl,V_xor];rfl),rfl⟩
def Iy (x:BitVec 32)(w:zW):
  Calls zq 109 #[aC aO (V x)] w λe a=>e=aL (aC aO (V (s1 x)))/\a=w:=by
 go_enter Qz.func109,Tryz.ntmps109
 go_wp2_with fail
 refine(lY x 17 _ _ rfl (by omega) (by omega)).mono ?_;rintro e a ⟨rfl,rfl⟩
 go_wp2_with fail
 refine(lY x 19 _ _ rfl (by omega) (by omega)).mono ?_;rintro e a ⟨rfl,rfl⟩
 go_wp2
 go_ret
 exact⟨OK (by rw[Rp,V_xor];rfl),rfl⟩
open Go Go.RowKit
def bB (w:zW)(g:Nat)(t:zD)(cs:zA):Prop:=w.heap[g]? =aA (aI cs t (0,0))
def bB.cell {w:zW}{g:Nat}{t:zD}{cs:zA}(h:bB w g t cs)(i:Nat):w.cell? ⟨g,i,aB⟩=cs[i]? :=zGy w g i cs t (0,0) h
def bB.frozen {w:zW}{g:Nat}{t:zD}{cs:zA}(h:bB w g t cs)(i:Nat):w.frozen? ⟨g,i,aB⟩=aF:=by unfold bB at h;simp[World.frozen?,h]
def bB.lt {w:zW}{g:Nat}{t:zD}{cs:zA}(h:bB w g t cs):g<w.heap.size:=(zAb.1 h).1
def bB.drewN {w:zW}{g:Nat}{t:zD}{cs:zA}(h:bB w g t cs)(n:Nat):bB (w.drewN n) g t cs:=h
def bB.new (w:zW)(t:zD)(cs:zA):bB (w.alloc (aI cs t)) w.heap.size t cs:=zHh w _
def bB.alloc {w:zW}{g:Nat}{t:zD}{cs:zA}(h:bB w g t cs)(o:Obj):bB (w.alloc o) g t cs:=by unfold bB;rw[Below.heap_alloc w o g h.lt];exact h
def bB.below {w w':zW}{B g:Nat}{t:zD}{cs:zA}(h:bB w g t cs)(b:Below B w w')(a:g<B):bB w' g t cs:=by unfold bB;rw[b.block g a];exact h
def bB.cG {w:zW}{g:Nat}{t:zD}{cs:zA}(h:bB w g t cs)(i:Nat)(v:zY):bB (w.setCell ⟨g,i,aB⟩ v) g t (cs.setIfInBounds i v):=by unfold bB at*;simp only[World.setCell,zDu,zDf,h];rfl
def bB.bP {w:zW}{g:Nat}{t:zD}{cs:zA}(h:bB w g t cs)(a:Addr)(v:zY)(b:g≠a.block):bB (w.setCell a v) g t cs:=by unfold bB;rw[zHa w a v g b];exact h
def dS (w:zW)(g k:Nat)(cs:zA)(h:k≠g):(w.setRow g cs).heap[k]? =w.heap[k]? :=by simp only[World.setRow,zDu];rw[zAh (by omega)]
def bB.cH {w:zW}{g:Nat}{t:zD}{cs:zA}(h:bB w g t cs)(cs':zA):bB (w.setRow g cs') g t cs':=zHf w g cs cs' t _ h
def bB.fW {w:zW}{g b:Nat}{t:zD}{cs:zA}(h:bB w g t cs)(cs':zA)(a:g≠b):bB (w.setRow b cs') g t cs:=by unfold bB;rw[dS w b g cs' a];exact h
def size_setRow (w:zW)(g:Nat)(cs:zA):(w.setRow g cs).heap.size=w.heap.size:=by simp[World.setRow]
def size_setCell (w:zW)(a:Addr)(v:zY):(w.setCell a v).heap.size=w.heap.size:=by simp[World.setCell]
def size_alloc (w:zW)(o:Obj):(w.alloc o).heap.size=w.heap.size+1:=by simp
def bN {B:Nat}{a w:zW}(h:Below B a w){g:Nat}(c:B<=g)(cs:zA):Below B a (w.setRow g cs):=
 h.trans ⟨rfl,rfl,rfl,by simp[World.setRow],λk b=>dS _ _ _ _ (by omega)⟩
def below_drewN {B:Nat}{a w:zW}(h:Below B a w)(n:Nat):Below B a (w.drewN n):=⟨h.os,h.tape,h.output,h.size,h.block⟩
def VG (w:zW)(e:zD)(s:ByteArray):zb w (Lib.bytesWorld w e s):=by
 refine⟨?_,?_,?_,by rw[Lib.bytesWorld_size];omega,λk h=>Lib.bytesWorld_at_old w e s k h⟩;all_goals
  unfold Lib.bytesWorld World.freeze
  rw[zAh (by decide)]
  rfl
def Jm (l:zB):∀s:ByteArray,((l.map λb=>(b.toNat:Int)).foldl (λr n=>r.push (UInt8.ofNat n.toNat)) s)=⟨s.data++l.toArray⟩:=by
 induction l with
 |nil=>intro s;simp
 |cons b l i=>intro s;rw[zEh,zFi,i];simp[ByteArray.push]
def mA {P:zZ}(w:zW)(src dst e:zD)(g o c:Nat)(l:zB)(hs:P.underlying src=aA (.slice e))(k:P.underlying e=aA (.int aP))(m:P.underlying dst=aA .string)
  (h:∀j,j<l.length->w.cell? ⟨g,o+j,aB⟩=aA (aC aP ((l.getD j 0).toNat:Int))):
  (convert src dst (aJ (aA ⟨g,o,aB⟩) l.length c)).run P w= .ok (aK ⟨l.toArray⟩) w:=by
 rw[run_convert_bytes_string w src dst e _ _ _ hs k m]
 have f:(loadCells ⟨g,o,aB⟩ (l.map λb=>Value.int aP (b.toNat:Int)).length).run P w= .ok (l.map λb=>Value.int aP (b.toNat:Int)).toArray w:=
  run_loadCells_list (P:=P) w ⟨g,o,aB⟩ (l.map λb=>Value.int aP (b.toNat:Int)) (λj v d=>by
   have i:j<l.length:=by have:=(zAi.1 d).1;simpa using this
   have a:(⟨g,o,aB⟩:Addr).add j=⟨g,o+j,aB⟩:=by unfold Addr.add;split<;>simp_all
   rw[a,h j i]
   rw[zEk]at d
   simp[i]at d
   rw[<-d]
   simp[i])
 rw[zDd]at f
 have e:(l.map λb=>Value.int aP (b.toNat:Int))=(l.map λb=>(b.toNat:Int)).map (Value.int aP):=by simp
 rw[e]at f
 rw[run_bytesToString w ⟨g,o,aB⟩ l.length c _ f,Jm,show ByteArray.empty.data= #[]from rfl,zCm]
def eI {P:zZ}{ops:zQ}{C:zW->Prop}{Q:Act->Prop}{a:Act}{o:Oper}{rest:List Oper}(b:o.guard=aB)(ty:zD)(x:Operand)(i:o.op= .load ty x)
  (g:Nat) (c:a.eval x=aN (aA ⟨g,0,aB⟩)) (t:zD) (cs:zA) (d:TypeDesc) (k:∀w,C w->bB w g t cs)
  (f:P.underlying ty=aA d) (l:(match d with| .struct _| .array _ _=>aE|_=>aF)=aE) (j:(P.info? ty).map (·.size)=aA cs.size)
  (h:wpQuiet P ops C Q rest (a.put o.dst (.agg cs))):wpQuiet P ops C Q (o::rest) a:=by
 refine wpQuiet_step λK m=> ?_
 rw[zAk (by simp[Region.wanted,b])]
 refine⟨.agg cs,λw e=> ?_,m _ h⟩
 unfold Oper.quietAt execOp
 simp only[i,c,Instr.loadAt,Instr.sureAddr,Sem.run_bind,Sem.run_pure,zHi,run_loadVar_row w g t ty cs (0,0) d (k w e) f l j]
 exact⟨rfl,rfl⟩
end Go.Proofs.Zq
