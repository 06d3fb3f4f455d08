import Derived.Conc.Own4
import Derived.Conc.Own5
set_option linter.all false
set_option maxRecDepth 100000
set_option maxHeartbeats 16000000
open Option renaming some->aA,none->aB
open Bool renaming true->aF,false->aG
open Or renaming inl->aH,inr->aI
open Go.Item renaming inRegion->aN
open Go.Obj renaming cells->aJ
open Go.IntKind renaming u64->aR,u8->aQ
open Array renaming replicate->Bt,foldl_toList->aL5,toList_zipIdx->aL6,range->Mc,toList_map->aL8
open Except renaming ok->NO,error->No
open Go renaming runtimePanic->Il,execOp->vr
open Go.Deferred renaming ofValue->Gi
open List renaming length->zAH,toArray->zAL
open Array renaming setIfInBounds->zAI,toList->zAM
open Go.World renaming setCell->zAJ,alloc->zAK
namespace Go
instance :Coe Nat Addr:=⟨λg=>⟨g,0,none⟩⟩
instance :Coe Nat (Option Addr):=⟨λg=>some ⟨g,0,none⟩⟩
instance (g o:Nat):CoeDep (Nat×Nat) (g,o) Addr:=⟨⟨g,o,none⟩⟩
instance (g o:Nat):CoeDep (Nat×Nat) (g,o) (Option Addr):=⟨some ⟨g,o,none⟩⟩
instance :Coe World Nat:=⟨λw=>w.heap.size⟩
instance :Coe World Addr:=⟨λw=>⟨w.heap.size,0,none⟩⟩
instance :Coe World (Option Addr):=⟨λw=>some ⟨w.heap.size,0,none⟩⟩
instance (g:World)(o:Nat):CoeDep (World×Nat) (g,o) Addr:=⟨⟨g.heap.size,o,none⟩⟩
instance (g:World)(o:Nat):CoeDep (World×Nat) (g,o) (Option Addr):=⟨some ⟨g.heap.size,o,none⟩⟩
instance :Coe (List UInt8) ByteArray:=⟨λl=>⟨l.toArray⟩⟩
instance :Coe (List UInt8) Value:=⟨λl=>.string ⟨l.toArray⟩⟩
instance :Coe Int Value:=⟨λn=>.int .i64 n⟩
instance :Coe Nat Value:=⟨λn=>.int .i64 n⟩
instance :Coe Bool Value:=⟨.bool⟩
theorem zzx {α:Sort _}(a:α):∃x,x=a:=⟨_,rfl⟩
end Go
section
variable {P:Prop}
def A4(h:P:=by cases h):=h
def F8(h:P:=by cases op<;>first|exact aS (.int _ _)|exact aT):=h
def M0(h:P:=by rw[oK];exact this):=h
def M9(h:P:=by simp[Op.operands,Call.operands]):=h
def O0(h:P:=by grind[bM.mono]):=h
def S6(h:P:=by show(if(decide (t≠x.off/P.cellsOf e*P.bytesOf e+b+β)||decide (d.length≠size))=aF then _ else _)=_;rw[AF j];rfl):=h
def U5(h:P:=by cases op<;>first|exact e rfl|exact h rfl|exact aT):=h
def U7(h:P:=by refine fW (λ_ _=>rfl) λa ok h=> ?_;exact oO (.iface _ (.string _))):=h
def V1(h:P:=by simp only[DI,Cy]at p;subst p;exact aI (aI (aI ⟨a.block,a'.block,_,rfl,h.1⟩))):=h
def W4(h:P:=by exact⟨_,rfl⟩):=h
def W7(h:P:=by cases o<;>first|rfl|exact absurd rfl (l.1 _ _ _)):=h
def X0(h:P:=by refine fW (λ_ _=>rfl) λc ok h=> ?_;grind[aS,aT]):=h
def X4(h:P:=by exact aS rfl):=h
def Y3(h:P:=by rw[Lv];exact this):=h
def bm(h:P:=by omega):=h
def j0(h:P:=by simp):=h
def j1(h:P:=by simp_all):=h
def j3(h:P:=by simp;exact bm):=h
def j5(h:P:=by assumption):=h
def ji(h:P:=by grind):=h
def zAD(h:P:=by simp[h.size]):=h
def zAE(h:P:=by left;exact⟨_,rfl,j0⟩):=h
end
namespace Go
abbrev zT:=Nat->Question->Nat
abbrev zS:=Frame->List Frame->World->Prop
abbrev zU:=Goroutine->World->Prop
abbrev zR:=Value->World->Prop
abbrev zX:=Exit->Act->World->Prop
abbrev zF:=FuncId->Prop
abbrev zP:=Nat->Prop
abbrev zLL:=List (List UInt8)
abbrev zII:=List (Int × Int)
abbrev zA:=Array Value
abbrev zB:=List UInt8
abbrev zO:=Option Addr
abbrev zL:=List Frame
abbrev zE:=Array Event
abbrev zG:=Array Goroutine
abbrev zV:=List Value
abbrev zQ:=Array Oper
abbrev zI:=List Item
abbrev zJ:=Array Obj
abbrev zW:=World
abbrev zY:=Value
abbrev zH:=Goroutine
abbrev zZ:=Program
abbrev zD:=TypeId
abbrev zN:=FuncId
abbrev zC:=Frame
abbrev je:=@Nat.le_refl
abbrev Ao:=@Nat.lt_of_lt_of_le
abbrev Ax:=@Array.getElem?_eq_some_iff
abbrev At:=@List.length_append
abbrev Be:=@List.getElem?_eq_getElem
abbrev Bx:=@List.getElem?_eq_some_iff
abbrev Ay:=@Option.some.inj
abbrev Bf:=@List.length_cons
abbrev Bb:=@List.mem_cons
abbrev Bi:=@List.mem_filter
abbrev Bj:=@List.append_nil
abbrev Az:=@Nat.le_trans
abbrev Bl:=@List.mem_append
abbrev Et:=@Array.getElem?_setIfInBounds_ne
abbrev Bq:=@List.not_mem_nil
abbrev Cy:=@List.mem_singleton
abbrev Dm:=@List.length_replicate
abbrev CH:=@List.length_nil
abbrev Dv:=@Classical.byContradiction
abbrev Ec:=@List.getElem?_append_right
abbrev AE:=@if_pos
abbrev Dl:=@Classical.choose_spec
abbrev AF:=@if_neg
abbrev DI:=@List.mem_toArray
abbrev Df:=@List.append_assoc
abbrev Ef:=@Array.getElem?_eq_getElem
abbrev De:=@Bool.and_eq_true
abbrev Dj:=@Bool.false_eq_true
abbrev Ez:=@Array.getD_eq_getD_getElem?
abbrev Dq:=@List.size_toArray
abbrev Ey:=@List.setIfInBounds_toArray
abbrev Ce:=@Nat.zero_add
abbrev Ds:=@List.length_take
abbrev Ek:=@List.mem_of_getElem?
abbrev Cw:=@Nat.zero_le
abbrev GO:=@List.take_append_drop
abbrev GN:=@List.getElem?_append_left
abbrev EJ:=@List.mem_cons_self
abbrev Ex:=@List.length_filter_le
abbrev Ew:=@Array.getElem?_toList
abbrev Dr:=@decide_eq_false
abbrev Dd:=@List.mem_map
abbrev Nh:=@Array.getElem?_setIfInBounds_self_of_lt
abbrev Hr:=@List.eq_nil_of_length_eq_zero
abbrev Gh:=@Option.map_eq_some_iff
abbrev Hq:=@Array.getElem?_setIfInBounds
abbrev Ej:=@List.all_eq_true
abbrev Bm:=@or_false
abbrev Ev:=@decide_eq_true_eq
abbrev Fs:=@List.set_cons_zero
abbrev Dz:=@decide_eq_true
abbrev GM:=@beq_eq_false_iff_ne
abbrev GL:=@List.length_drop
abbrev Hp:=@List.filter_cons_of_pos
abbrev GK:=@List.getElem?_take
abbrev GI:=@Array.ext_getElem?
abbrev KC:=@List.take_of_length_le
abbrev JZ:=@Array.getElem?_eq_none
abbrev Fq:=@List.take_length
abbrev Fp:=@List.getElem_mem
abbrev Fo:=@List.cons_append
abbrev Ik:=@Option.bind_eq_some_iff
abbrev Gg:=@List.pairwise_cons
abbrev Ho:=@List.getElem?_cons_zero
abbrev Ii:=@List.filter_cons_of_neg
abbrev Ih:=@Array.mem_of_getElem?
abbrev Gx:=@List.set_cons_succ
abbrev Fz:=@Option.map_some
abbrev Gv:=@List.pairwise_map
abbrev Ig:=@List.mem_cons_of_mem
abbrev Hh:=@UInt8.toNat_ofNat'
abbrev Lo:=@List.append_cancel_right
abbrev Lz:=@List.take_succ_eq_append_getElem
abbrev Eo:=@Nat.add_zero
abbrev Ie:=@List.length_singleton
abbrev Hn:=@List.length_pos_iff
abbrev Gu:=@Option.getD_some
abbrev Fy:=@List.take_zero
abbrev Cx:=@if_true
abbrev Fj:=@List.cons.inj
abbrev Ib:=@List.pairwise_append
abbrev Hm:=@List.getElem?_drop
abbrev Hk:=@Array.getElem?_map
abbrev JW:=@List.filter_eq_nil_iff
abbrev Gs:=@List.nil_append
abbrev Gr:=@List.map_append
abbrev Dh:=@if_false
abbrev Ia:=@List.take_succ_cons
abbrev Hz:=@List.drop_succ_cons
abbrev JS:=@List.getElem?_toArray
abbrev Gq:=@List.drop_zero
abbrev Gp:=@Nat.add_assoc
abbrev Ht:=@List.filter_append
abbrev Gn:=@Nat.lt_or_ge
abbrev Hg:=@List.take_succ
abbrev Hj:=@List.length_map
abbrev JP:=@List.filter_filter
abbrev JO:=@Array.empty_append
abbrev Gj:=@Nat.sub_self
abbrev JN:=@List.getElem?_map
abbrev Dp:=@Ne.symm
abbrev Mn:=@List.getD_eq_getElem?_getD
abbrev Ng:=@Array.toList_setIfInBounds
abbrev He:=@Nat.zero_mul
abbrev Ly:=@Array.getElem?_modify
abbrev Nf:=@List.drop_eq_getElem_cons
abbrev Ln:=@List.length_set
abbrev JJ:=@Bool.or_eq_true
abbrev Lm:=@Bool.eq_false_iff
abbrev Nw:=@Array.setIfInBounds_comm
abbrev Mm:=@List.getElem?_cons_succ
abbrev Lx:=@List.flatMap_append
abbrev Nv:=@Array.length_toList
abbrev JH:=@List.mem_range
abbrev Lw:=@Nat.eq_zero_or_pos
abbrev Lv:=@Array.append_empty
abbrev Hi:=@Nat.le_succ
abbrev Ml:=@List.set_append_right
abbrev Nd:=@Array.getElem?_append_right
abbrev Hc:=@beq_iff_eq
abbrev Io:=@Nat.lt_irrefl
abbrev Mk:=@List.replicate_succ'
abbrev Mj:=@Classical.not_forall
abbrev Nc:=@Array.mapM_eq_mapM_toList
abbrev Lu:=@List.map_toArray
abbrev Hs:=@Nat.mul_one
abbrev Mi:=@List.filter_eq_self
abbrev Mh:=@Array.getElem?_push
abbrev Nu:=@List.length_erase_of_mem
abbrev Nb:=@Array.size_setIfInBounds
abbrev Lr:=@List.nodup_cons
abbrev Na:=@List.getElem?_replicate
abbrev Ll:=@ByteArray.ext
abbrev Lq:=@Array.size_push
abbrev Nt:=@Array.all_eq_true_iff_forall_mem
abbrev LV:=@Nat.mod_lt
abbrev KI:=@List.map_map
abbrev Mg:=@beq_self_eq_true
abbrev Mf:=@Nat.shiftLeft_eq
abbrev NZ:=@Nat.lt_of_not_le
abbrev Me:=@BitVec.toNat_add
abbrev NY:=@List.getElem?_of_mem
abbrev NW:=@List.replicate_succ
abbrev Lp:=@UInt8.not_lt
abbrev NU:=@Nat.add_sub_cancel
abbrev NT:=@Array.forIn_toList
abbrev Ns:=@List.pairwise_iff_getElem
abbrev Md:=@Bool.false_and
abbrev NR:=@List.nodup_append
abbrev NQ:=@List.flatMap_cons
abbrev Nr:=@Array.getElem?_replicate
abbrev Ag:=@Go.Conc.stepG_region_end
abbrev Ac:=@Go.Conc.stepG_seq
abbrev Dt:=@Go.IntKind.wrap_i64
abbrev Dg:=@Go.Conc.stepG_region
abbrev Db:=@Go.Conc.stepG_skip
abbrev Fx:=@Go.bodyPost_ret
abbrev Eu:=@Go.Conc.stepG_ret'
abbrev Fw:=@Go.Conc.stepG_block
abbrev Fi:=@Go.Conc.mem_listed
end Go
namespace Go.Ren
abbrev Rn:=Nat->zP
def bW (π:Rn)(a a':Addr):Prop:=π a.block a'.block/\a'.off=a.off/\a'.spot=a.spot
theorem bW.add {π a a'}(h:bW π a a')(n):bW π (a.add n) (a'.add n):=by let⟨c,b,d⟩:=h;unfold Addr.add;split;{exact⟨c,b,d⟩};.exact⟨c,by simp[b],rfl⟩
inductive yE (π:Rn):zO->zO->Prop
 |none:yE π aB aB
 |some {a a':Addr} (h:bW π a a'):yE π (aA a) (aA a')
def Jk:zY->Prop
 | .float _ _| .complex _ _ _| .pointer _| .slice (aA _) _ _| .map (aA _)| .chan (aA _)| .func _ _ _=>True|_=>False
def Jk.cells {x}(h:Jk x):x.cells= #[x]:=by cases x<;>first|rfl|exact h.elim
def enc (a:Addr):Nat:=(a.block+a.off)*(a.block+a.off)+a.block
def ie {a b}(h:enc a=enc b):a.block=b.block/\a.off=b.off:=by unfold enc at h;have k:∀s t x y:Nat,x<=s->s*s+x=t*t+y->¬s<t:=λs t x y d e hlt=>by{have c:(s+1)*(s+1)<=t*t:=Nat.mul_le_mul hlt hlt;grind};have c:=k _ _ _ _ bm h;have f:=k _ _ _ _ bm h.symm;exact ji
inductive bM (Al:zF)(π:Rn):zY->zY->Prop
 |bool (b:Bool):bM Al π (.bool b) (.bool b)
 |int (k:IntKind) (n:Int):bM Al π (.int k n) (.int k n)
 |string (s:ByteArray):bM Al π (.string s) (.string s)
 |pointer {a a':zO} (h:yE π a a'):bM Al π (.pointer a) (.pointer a')
 |slice {a a':zO} (h:yE π a a') (n c:Nat):bM Al π (.slice a n c) (.slice a' n c)
 |func {f:zN} (hf:Al f) {fs fs' cs cs':zA} (h1:fs'.size=fs.size) (h2:cs'.size=cs.size) (hz:fs.size+cs.size<=10)
   (h3:∀(i:Nat)(v v':zY),fs[i]? =aA v->fs'[i]? =aA v'->bM Al π v v') (h4:∀(i:Nat)(v v':zY),cs[i]? =aA v->cs'[i]? =aA v'->bM Al π v v'):
   bM Al π (.func (.func f) fs cs) (.func (.func f) fs' cs')
 |nilFunc:bM Al π .nilFunc .nilFunc
 |iface (t:zD) {v v':zY} (h:bM Al π v v'):bM Al π (.iface t v) (.iface t v')
 |nilIface:bM Al π .nilIface .nilIface
 |lT:bM Al π (.map aB) (.map aB)
 |jO:bM Al π (.chan aB) (.chan aB)
 |agg {cs cs':zA} (h1:cs'.size=cs.size) (h2:∀(i:Nat)(v v':zY),cs[i]? =aA v->cs'[i]? =aA v'->bM Al π v v'):bM Al π (.agg cs) (.agg cs')
 |tuple {cs cs':zA} (h1:cs'.size=cs.size) (h2:∀(i:Nat)(v v':zY),cs[i]? =aA v->cs'[i]? =aA v'->bM Al π v v'):bM Al π (.tuple cs) (.tuple cs')
 |junk (hJ:Al 1000000) {x:zY} (h:Jk x):bM Al π (.func (.method "") #[.iface 1000000 .nilIface] #[x]) x
 |void {vb:Nat} (hV:Al (1000002+vb)) (a:Addr):bM Al π (.slice (aA ⟨vb,enc a,a.spot⟩) 0 0) (.slice (aA a) 0 0)
 |same (hS:Al 1000001) (x:zY):bM Al π (.func (.method "") #[.iface 1000000 .nilIface] #[x]) (.func (.method "") #[.iface 1000000 .nilIface] #[x])
structure bB (Al:zF)(π:Rn)(cs cs':zA):Prop where
 size:cs'.size=cs.size
 at':∀(i:Nat)(v v':zY),cs[i]? =aA v->cs'[i]? =aA v'->bM Al π v v'
variable {Al:zF}{π ρ:Rn}
theorem bW.mono (h:∀b c,π b c->ρ b c){a a'}(x:bW π a a'):bW ρ a a':=⟨h _ _ x.1,x.2⟩
def yE.mono (h:∀b c,π b c->ρ b c){a a'}(x:yE π a a'):yE ρ a a':=by cases x with|none=>exact .none|some y=>exact .some (y.mono h)
theorem bM.mono (h:∀b e,π b e->ρ b e){v v'}(x:bM Al π v v'):bM Al ρ v v':=by induction x with|bool b=>exact .bool b|int k n=>exact .int k n|string s=>exact .string s|pointer y=>exact .pointer (y.mono h)|slice y n c=>exact .slice (y.mono h) n c|func j d m g _ _ i3 i4=>exact .func j d m g i3 i4|nilFunc=>exact .nilFunc|iface t _ i=>exact .iface t i|nilIface=>exact .nilIface|lT=>exact .lT|jO=>exact .jO|agg d _ i=>exact .agg d i|tuple d _ i=>exact .tuple d i|junk f h=>exact .junk f h|same hb x=>exact .same hb x|void l a=>exact .void l a
theorem bB.mono (h:∀b c,π b c->ρ b c){v v'}(x:bB Al π v v'):bB Al ρ v v':=⟨x.size,λi a b e d=>(x.at' i a b e d).mono h⟩
theorem bB.get {cs cs'}(h:bB Al π cs cs')(i:Nat):(cs[i]? =aB/\cs'[i]? =aB)\/∃v a,cs[i]? =aA v/\cs'[i]? =aA a/\bM Al π v a:=by grind[size,at']
theorem bB.nil:bB Al π #[] #[]:=⟨rfl,by grind⟩
def bB.of {cs cs':zA}(hs:cs'.size=cs.size)(h:∀(i:Nat)(hi:i<cs.size)(a:i<cs'.size),bM Al π cs[i] cs'[i]):bB Al π cs cs':= ⟨hs,ji⟩
def bB.push {cs cs':zA}(h:bB Al π cs cs'){v v':zY}(f:bM Al π v v'):bB Al π (cs.push v) (cs'.push v'):= ⟨zAD,λi a b d c=>by rw[Mh]at d c;rw[h.size]at c;split at d;{grind};.rename_i e;simp only[e,Dh]at c;exact h.at' i a b d c⟩
theorem bB.append {cs cs' ds d:zA}(h:bB Al π cs cs')(k:bB Al π ds d):bB Al π (cs++ds) (cs'++d):= ⟨by simp[h.size,k.size],λi a b f c=>by rw[Array.getElem?_append]at f c;rw[h.size]at c;split at f;{rename_i e;simp only[e,Cx]at c;exact h.at' i a b f c};.rename_i e;simp only[e,Dh]at c;exact k.at' _ a b f c⟩
theorem bB.one {v v'}(h:bM Al π v v'):bB Al π #[v] #[v']:=by simpa using(bB.nil (Al:=Al) (π:=π)).push h
theorem bB.set {cs cs':zA}(h:bB Al π cs cs'){v v':zY}(f:bM Al π v v')(k:Nat):bB Al π (zAI cs k v) (zAI cs' k v'):= ⟨zAD,λi a b d c=>by rw[Hq]at d c;rw[h.size]at c;by_cases e:k=i;{grind};.rw[AF e]at d c;exact h.at' i a b d c⟩
def bB.extract {cs cs':zA}(h:bB Al π cs cs')(i j:Nat):bB Al π (cs.extract i j) (cs'.extract i j):= ⟨by grind[size,Array.size_extract],λk a b d c=>by rw[Array.getElem?_extract]at d c;rw[h.size]at c;split at d;{rename_i e;simp only[e,Cx]at c;exact h.at' _ a b d c};.cases d⟩
def bB.replicate {v v':zY}(h:bM Al π v v')(n:Nat):bB Al π (Bt n v) (Bt n v'):= ⟨j0,ji⟩
theorem bM.cells {v v'}(h:bM Al π v v'):bB Al π v.cells v'.cells:=by cases h with|agg d e=>exact⟨d,e⟩|bool b=>exact .one (.bool b)|int k n=>exact .one (.int k n)|string s=>exact .one (.string s)|pointer y=>exact .one (.pointer y)|slice y n c=>exact .one (.slice y n c)|func j d e g o m=>exact .one (.func j d e g o m)|nilFunc=>exact .one .nilFunc|iface t i=>exact .one (.iface t i)|nilIface=>exact .one .nilIface|lT=>exact .one .lT|jO=>exact .one .jO|tuple d i=>exact .one (.tuple d i)|junk f h=>rw[h.cells];exact .one (.junk f h)|same hb x=>exact .one (.same hb x)|void l a=>exact .one (.void l a)
end Go.Ren
namespace Go.Ren
structure Kp where
 keep:zP
 pQ:Option Nat
 cmp:Prop
instance :CoeFun Kp λ_=>zP:=⟨Kp.keep⟩
def Kp.upto (K:Kp)(i:Nat):Prop:=∀u,K.pQ=aA u->i<u
@[simp]def Fatal (hl:Halt):Prop:=(∃s,hl= .stuck s)\/∃u,hl= .unsupported u/\∀g,u≠.initOrder g
class Ok (P:zZ) (π:Rn):Prop where
 inj:∀{a a' b b':Nat},π a a'->π b b'->(a=b↔a'=b')
 base:∀{b b':Nat},π b b'->(b<=P.globals.size\/b'<=P.globals.size)->b=b'
 iJ:∀b,b<=P.globals.size->π b b
def Zj (Al:zF)(F:Kp)(π:Rn)(b:Nat)(o a:Option Obj):Prop:= ∃c c' ty fr f,o=aA (aJ c ty fr)/\a=aA (aJ c' ty f)/\bB Al π c c'/\(F b->fr.1=0/\c.size<=fr.2/\(∀(i:Nat) m,c[i]?≠aA (.int aQ m))/\f.2<=c.size)/\(¬F b->f=fr)/\((F.cmp/\∃x,F x)->fr.2<=c.size/\f.2<=c.size)
def mA (P:zZ)(u:zD):Prop:=∀d off x,plainCell P d u off=aA x->∀(Al:zF)(π:Rn),bM Al π x x
inductive Ow (P:zZ)(π:Rn):Obj->Obj->Prop
 |view {x x':Addr} (h:bW π x x') (u:zD) (hu:mA P u):Ow P π (.view x u) (.view x' u)
 |number {x x':Addr} (h:bW π x x') (l:Bool):Ow P π (.number x l) (.number x' l)
def rv (P:zZ)(π:Rn)(o b:Option Obj):Prop:=∃y a,o=aA y/\b=aA a/\Ow P π y a
def Ow.mono {P π ρ}(h:∀b c,π b c->ρ b c){y a}(x:Ow P π y a):Ow P ρ y a:=by cases x with|view h1 u hu=>exact .view (h1.mono h) u hu|number h1 l=>exact .number (h1.mono h) l
def NG (o:Obj):Prop:=(∀c t f,o≠aJ c t f)/\(∀x u,o≠.view x u)/\(∀x l,o≠.number x l)/\∀c t,o≠.pending c t
structure bV (P:zZ)(Al:zF)(F:Kp)(π:Rn)(v w:zW):Prop where
 ok:Ok P π
 blk:∀b b',π b b'->Zj Al F π b v.heap[b]? w.heap[b']?\/(b<=P.globals.size/\∃o,v.heap[b]? =aA o/\w.heap[b']? =aA o/\NG o)\/rv P π v.heap[b]? w.heap[b']?
 tape:∀k,F.upto (v.drawn+k)->w.tape (w.drawn+k)=v.tape (v.drawn+k)
 fresh:∀b,F b->b<v.heap.size
 low:P.globals.size<v.heap.size/\P.globals.size<w.heap.size
 os:w.os=v.os
 rows:∀b,F b->∃o,v.heap[b]? =aA o/\((∃c t fr,o=aJ c t fr)\/NG o)
def Shape (P:zZ)(fs:Array Func):Prop:=∀f:Nat,fs[f]? =P.funcs[f]?\/∃a b,P.funcs[f]? =aA a/\fs[f]? =aA b/\b.name=a.name/\a.body.isSome=aF/\b.body.isSome=aF/\b.norace=a.norace
inductive bY (P:zZ)(Al:zF)(F:Kp){α β:Type}(A:Rn->α->β->Prop):Rn->Sem α->Sem β->Prop
 |pure {π:Rn} {a:α} {b:β} (h:A π a b):bY P Al F A π (.pure a) (.pure b)
 |load {π:Rn} {m:Mode} {a a':Addr} {k:zY->Sem α} {k':zY->Sem β} (h:bW π a a') (hk:∀v v',bM Al π v v'->bY P Al F A π (k v) (k' v')):bY P Al F A π (.load m a k) (.load m a' k')
 |store {π:Rn} {m:Mode} {a a':Addr} {x x':zY} {k:Sem α} {k':Sem β} (h:bW π a a') (hx:bM Al π x x') (hk:bY P Al F A π k k'):bY P Al F A π (.store m a x k) (.store m a' x' k')
 |new {π:Rn} {c c':zA} {ty:zD} {k:Nat->Sem α} {k':Nat->Sem β} (h:bB Al π c c') (hk:∀(ρ:Rn) r r',Ok P ρ->(∀b b',π b b'->ρ b b')->ρ r r'->bY P Al F A ρ (k r) (k' r')):bY P Al F A π (.new (aJ c ty) k) (.new (aJ c' ty) k')
 |view {π:Rn} {x x':Obj} {k:Nat->Sem α} {k':Nat->Sem β} (h:Ow P π x x') (hk:∀(ρ:Rn) r r',Ok P ρ->(∀b b',π b b'->ρ b b')->ρ r r'->bY P Al F A ρ (k r) (k' r')):bY P Al F A π (.new x k) (.new x' k')
 |marked {π:Rn} {c c':zA} {ty:zD} {k:Nat->Sem α} {k':Nat->Sem β} (hC:¬F.cmp) (h:bB Al π c c') (hk:∀(ρ:Rn) r r',Ok P ρ->(∀b b',π b b'->ρ b b')->ρ r r'->bY P Al F A ρ (k r) (k' r')):bY P Al F A π (.new (aJ c ty) λr=>markStringish r>>=λ_=>k r) (.new (aJ c' ty) λr=>markStringish r>>=λ_=>k' r)
 |getObj {π:Rn} {r r':Nat} {k:Obj->Sem α} {k':Obj->Sem β} (h:π r r') (hk:∀o o',(NG o/\o'=o)\/rv P π (aA o) (aA o')->bY P Al F A π (k o) (k' o')):bY P Al F A π (.getObj r k) (.getObj r' k')
 |shape {π:Rn} {r r':Nat} {k:Option (zD×Nat)->Sem α} {k':Option (zD×Nat)->Sem β} (h:π r r') (hk:∀s,bY P Al F A π (k s) (k' s)):bY P Al F A π (.shape r k) (.shape r' k')
 |freeze {π:Rn} {a a':Addr} {n:Nat} {k:Sem α} {k':Sem β} (hF:∀b,¬F b) (h:bW π a a') (hk:bY P Al F A π k k'):bY P Al F A π (.freeze a n k) (.freeze a' n k')
 |frozen {π:Rn} {a a':Addr} {k:Bool->Sem α} {k':Bool->Sem β} (hF:∀b,¬F b) (h:bW π a a') (hk:∀t,bY P Al F A π (k t) (k' t)):bY P Al F A π (.frozen a k) (.frozen a' k')
 |share {π:Rn} {a a':Addr} {n:Nat} {k:ByteArray->Sem α} {k':ByteArray->Sem β} (h:bW π a a') (hk:∀s,bY P Al F A π (k s) (k' s)):bY P Al F A π (loadBytes a .empty n>>=λs=>freeze a n>>=λ_=>k s) (loadBytes a' .empty n>>=λs=>freeze a' n>>=λ_=>k' s)
 |same {π:Rn} {a a' b b':Addr} {k:Bool->Sem α} {k':Bool->Sem β} (hN:F.cmp/\∃x,F x) (h:bW π a a') (h':bW π b b') (hk:∀t,bY P Al F A π (k t) (k' t)):bY P Al F A π (sameAddr a b>>=k) (sameAddr a' b'>>=k')
 |choose {π:Rn} {q:Question} {k:Nat->Sem α} {k':Nat->Sem β} (hk:∀n,bY P Al F A π (k n) (k' n)):bY P Al F A π (.choose q k) (.choose q k')
 |program {π:Rn} {k:zZ->Sem α} {k':zZ->Sem β} (he:∀fs,Shape P fs->k' ⟨P.toTables,fs⟩=k' P) (hk:bY P Al F A π (k P) (k' P)):bY P Al F A π (.program k) (.program k')
 |env {π:Rn} {k:SysRet->Sem α} {k':SysRet->Sem β} (hk:∀r,bY P Al F A π (k r) (k' r)):bY P Al F A π (.sys .env k) (.sys .env k')
 |mark {π:Rn} {m:Mark} {k:Sem α} {k':Sem β} (hm:m= .noRoom\/∃f,m= .extern f) (hk:bY P Al F A π k k'):bY P Al F A π (.mark m k) (.mark m k')
 |panic {π:Rn} {x x':zY} (h:bM Al π x x'):bY P Al F A π (.halt (.panic x)) (.halt (.panic x'))
 |dead {π:Rn} {s:Sem α} {s':Sem β} (h:∀v es,∃hl w es',s.runT P v es=(.halt hl w,es')/\Fatal hl):bY P Al F A π s s'
structure fL (F:Kp)(π ρ:Rn)(v v' w w':zW):Prop where
 sub:∀b b',π b b'->ρ b b'
 VO:v.heap.size<=v'.heap.size
 size:w.heap.size<=w'.heap.size
 still:∀b',b'<w.heap.size->(∀b,π b b'->F b)->w'.heap[b']? =w.heap[b']?
 tJ:∀b b',ρ b b'->π b b'\/(v.heap.size<=b/\w.heap.size<=b'/\b'<w'.heap.size)
 tape:w'.tape=w.tape
 os:w'.os=w.os
 out:w'.output=w.output
 Iw:v'.tape=v.tape
 vos:v'.os=v.os
 au:v'.output=v.output
 drawn:∃k,v'.drawn=v.drawn+k/\w'.drawn=w.drawn+k
 same:v.heap.size=w.heap.size->(∀b b',π b b'->b=b')->v'.heap.size=w'.heap.size/\∀b b',ρ b b'->b=b'
 JA:∀b,b<v.heap.size->(∀b',¬π b b')->v'.heap[b]? =v.heap[b]?
 full:∀b,v.heap.size<=b->b<v'.heap.size->∃b',ρ b b'
def pP (F:Kp)(ρ:Rn)(e:Event):Prop:=(∃a c wr s,e=⟨.cell c,wr,s⟩/\bW ρ a c/\(wr=aF->¬F a.block))\/(e.loc= .mark .noRoom\/e.loc= .output)\/(∃f,e.loc= .mark (.extern f))\/∃r b s,e=⟨.obj b,aG,s⟩/\ρ r b
def pP.mono {F π ρ}(h:∀b f,π b f->ρ b f){e}(x:pP F π e):pP F ρ e:=by obtain⟨a,j,wr,s,d,c,i⟩|x|x|⟨r,g,s,d,c⟩:=x;{exact aH ⟨a,j,wr,s,d,c.mono h,i⟩};{exact aI (aH x)};{exact aI (aI (aH x))};.exact aI (aI (aI ⟨r,g,s,d,h _ _ c⟩))
def fL.refl {F:Kp}{π:Rn}(v w:zW):fL F π π v v w w:= ⟨λ_ _ h=>h,je _,je _,λ_ _ _=>rfl,ji,rfl,rfl,rfl,rfl,rfl,rfl,ji,ji,λ_ _ _=>rfl,bm⟩
def fL.trans {F:Kp}{π ρ l:Rn}{v c f w w₁ e:zW}(h:fL F π ρ v c w w₁)(k:fL F ρ l c f w₁ e):fL F π l v f w e where
 sub b d x:=k.sub _ _ (h.sub _ _ x)
 VO:=Az h.VO k.VO
 size:=Az h.size k.size
 still d i r:=by rw[k.still d (Ao i h.size) (λb g=> ?_),h.still d i r];obtain x|⟨_,x,_⟩:=h.tJ b d g;all_goals grind
 tJ b d x:=by
  obtain y|⟨p,o,n⟩:=k.tJ b d x
  .obtain z|⟨m,z2,z3⟩:=h.tJ b d y
   .exact aH z
   .exact aI ⟨m,z2,Ao z3 k.size⟩
  .exact aI ⟨Az h.VO p,Az h.size o,n⟩
 tape:=k.tape.trans h.tape
 os:=k.os.trans h.os
 out:=k.out.trans h.out
 Iw:=k.Iw.trans h.Iw
 vos:=k.vos.trans h.vos
 au:=k.au.trans h.au
 drawn:=by let⟨a,A,a2⟩:=h.drawn;let⟨b,u,t⟩:=k.drawn;exact⟨a+b,bm,bm⟩
 same x y:=by grind[same]
 JA b i q:=by rw[k.JA b (Ao i h.VO) (λd g=> ?_),h.JA b i q];obtain x|⟨x,_⟩:=h.tJ b d g;all_goals grind
 full b h1 s:=by obtain j|j:=Gn b c.heap.size;{let⟨d,i⟩:=h.full b h1 j;exact⟨d,k.sub _ _ i⟩};{exact k.full b j s}
section
variable {P:zZ}{Al:zF}{F:Kp}{π:Rn}{v w:zW}
def RD {x a}(h:bM Al π x a):x.bytes? =aB\/a.bytes? =x.bytes? :=by cases h<;>first|exact aH rfl|exact aI rfl
def uO {x b}(h:bM Al π x b)(bs):(x.ofBytes bs=aB\/b.ofBytes bs=x.ofBytes bs)/\∀y,x.ofBytes bs=aA y->bM Al π y y:=by
 cases h<;>refine⟨by first|exact aH rfl|exact aI rfl,λy a=> ?_⟩<;>simp only[Value.ofBytes]at a<;>first|(cases a;done)|skip
 .split at a<;>first|(cases a;exact .bool _)|cases a
 .split at a<;>first|(cases a;exact .int _ _)|cases a
def zFt {p c c'}(h:bB Al π c c')(e):∀(f x stop),(∃a,seenCells p c e f x stop= .error a)\/seenCells p c' e f x stop=seenCells p c e f x stop:=by intro f;induction f with|zero=>intro x stop;exact aI rfl|succ f l=>intro x stop;simp only[seenCells];split;{grind};.split;{exact ji};.split;{exact aI rfl};.rename_i i s _;obtain⟨j,g⟩|⟨y,o,j,g,m⟩:=h.get i;{exact ji};.rw[j,g];dsimp only;obtain d|d:=RD m;{exact ji};.rw[d];cases y.bytes? with|none=>grind|some n=>cases n with|nil=>grind|cons q k=>dsimp only;obtain⟨a,b⟩|b:=l (s+zAH (q::k)) stop;{rw[b];exact aH ⟨a,rfl⟩};exact ji
def aNi {x f k k'}(l:bW π x f)(hk:bW π k k')(u)(m){c c' e fr fr'} (y:v.heap[x.block]? =aA (aJ c e fr)) (s:w.heap[f.block]? =aA (aJ c' e fr')) (r:bB Al π c c'): (∃a,v.seen P x u k m= .error a)\/∃first gP cells,v.seen P x u k m= .ok (c,e,fr,first,gP,cells)/\w.seen P f u k' m= .ok (c',e,fr',first,gP,cells)/\plainCell P P.depth u k.off=aA gP:=by unfold World.seen;simp only[l.2.1,l.2.2,hk.2.1,hk.2.2,y,s];by_cases n:(k.spot.isSome||x.spot.isSome)=aF;{left;rw[AE n];exact W4};simp only[AF n];cases hp:plainCell P P.depth u k.off with|none=>left;exact⟨_,rfl⟩|some gP=>have h:aA gP=aA gP:=rfl;dsimp only;cases hb:gP.bytes?.map (·.length)with|none=>left;exact⟨_,rfl⟩|some size=>cases p:byteOfCell P P.depth u k.off with|none=>left;exact⟨_,rfl⟩|some β=>dsimp only;by_cases o:P.cellsOf e=0;{left;rw[AE o];exact⟨_,rfl⟩};simp only[AF o];cases q:byteOfCell P P.depth e (x.off%P.cellsOf e)with|none=>left;exact⟨_,rfl⟩|some b=>dsimp only;obtain⟨a,g⟩|g:=zFt r e (size+1) (x.off/P.cellsOf e*P.bytesOf e+b+β) (x.off/P.cellsOf e*P.bytesOf e+b+β+size);{left;rw[g];exact⟨_,rfl⟩};rw[g];cases z:seenCells P c e (size+1) (x.off/P.cellsOf e*P.bytesOf e+b+β) (x.off/P.cellsOf e*P.bytesOf e+b+β+size)with|error a=>left;exact⟨_,rfl⟩|ok cells=>cases m with|false=>right;exact⟨_,gP,cells,rfl,rfl,h⟩|true=>match cells with|[]=>left;exact⟨_,rfl⟩|[(i,t,d)]=>by_cases j:(decide (t≠x.off/P.cellsOf e*P.bytesOf e+b+β)||decide (d.length≠size))=aF;{left;refine⟨ "memory seen as another type: an atomic access to a part of a cell",?_⟩;show(if(decide (t≠x.off/P.cellsOf e*P.bytesOf e+b+β)||decide (d.length≠size))=aF then _ else _)=_;rw[AE j];rfl};.right;refine⟨x.off/P.cellsOf e*P.bytesOf e+b+β,gP,[(i,t,d)],?_,?_,h⟩;{exact S6};.exact S6|_::_::_=>left;exact⟨_,rfl⟩
def PF {x k}(u)(m)(h:∀c t f,v.heap[x.block]?≠aA (aJ c t f)):∃a,v.seen P x u k m= .error a:=by unfold World.seen;by_cases b:(k.spot.isSome||x.spot.isSome)=aF;{rw[AE b];exact W4};rw[AF b];cases hp:plainCell P P.depth u k.off with|none=>exact⟨_,rfl⟩|some gP=>dsimp only;cases hb:gP.bytes?.map (·.length)with|none=>exact⟨_,rfl⟩|some size=>cases d:byteOfCell P P.depth u k.off with|none=>exact⟨_,rfl⟩|some β=>cases e:v.heap[x.block]? with|none=>exact⟨_,rfl⟩|some o=>cases o with|cells c t f=>exact absurd e (h c t f)|_=>exact W4
def XB (h:bV P Al F π v w){x g k k'}(l:bW π x g)(hk:bW π k k')(u)(m): (∃j,v.seen P x u k m= .error j)\/∃c c' e fr a first gP cells,v.seen P x u k m= .ok (c,e,fr,first,gP,cells)/\w.seen P g u k' m= .ok (c',e,a,first,gP,cells)/\ v.heap[x.block]? =aA (aJ c e fr)/\w.heap[g.block]? =aA (aJ c' e a)/\bB Al π c c'/\plainCell P P.depth u k.off=aA gP/\(F x.block->fr.1=0/\c.size<=fr.2/\(∀(i:Nat) m,c[i]?≠aA (.int aQ m))/\a.2<=c.size)/\(¬F x.block->a=fr)/\((F.cmp/\∃x,F x)->fr.2<=c.size/\a.2<=c.size):=by obtain⟨c,c',e,fr,a,d,n,b,s,r⟩|⟨_,o,q,_,p⟩|⟨z,D,d,_,b⟩:=h.blk _ _ l.1;{obtain y|⟨first,gP,cells,C,B,A⟩:=aNi l hk u m d n b;{exact aH y};.exact aI ⟨c,c',e,fr,a,first,gP,cells,C,B,d,n,b,A,s,r⟩};{left;refine PF u m λc t f e=> ?_;rw[q]at e;cases e;exact p.1 _ _ _ rfl};.left;refine PF u m λc t f e=> ?_;rw[d]at e;cases e;cases b
theorem bV.cell (h:bV P Al F π v w){a a'}(i:bW π a a'): (∃x l,v.cell? a=aA x/\w.cell? a'=aA l/\bM Al π x l)\/(v.cell? a=aB/\w.cell? a'=aB):=by obtain⟨c,c',ty,fr,r,k,e,j,_⟩|⟨_,e,j,q,p⟩|⟨z,A,k,e,j⟩:=h.blk _ _ i.1;{cases g:a.spot with|some s=>have d:a'.spot=aA s:=by{rw[i.2.2,g]};exact aI ⟨by simp[World.cell?,k,g],by simp[World.cell?,e,d]⟩|none=>have d:a'.spot=aB:=by{rw[i.2.2,g]};obtain⟨n,m⟩|⟨x,l,n,m,y⟩:=j.get a.off;{exact aI ⟨by simp[World.cell?,k,g,n],by simp[World.cell?,e,d,i.2.1,m]⟩};{refine aH ⟨x,l,by simp[World.cell?,k,g,n],?_,y⟩;simp only[World.cell?,e,d,i.2.1,m];rfl}};{have no:∀(u:zW)(b:Addr),u.heap[b.block]? =aA e->u.cell? b=aB:=λu b o=>by{unfold World.cell?;rw[o];cases e with|cells c t f=>exact absurd rfl (p.1 c t f)|_=>rfl};exact aI ⟨no v a j,no w a' q⟩};.cases j<;>exact aI ⟨by simp[World.cell?,k],by simp[World.cell?,e]⟩
def vM (first:Nat)(gP:zY)(cells:List (Nat×Nat×zB)):zB:=cells.flatMap λ(_,s,b)=>(b.drop (first-s)).take (first+(gP.bytes?.map (·.length)).getD 0-max first s)
def FA {z k:Addr}{t:zD}{m:Bool}{c:zA}{e:zD}{fr:Nat×Nat}{first:Nat}{gP:zY}{cells:List (Nat×Nat×zB)} (h:w.seen P z t k m= .ok (c,e,fr,first,gP,cells)): w.viewLoad P z t k m=match gP.ofBytes (vM first gP cells)with|some x=>NO (x,cells.map λi=>((z.block,i.1):Addr))|none=>No "memory seen as another type: a bool from a byte other than 0 or 1":=by unfold World.viewLoad;rw[h];show(match gP.ofBytes (vM first gP cells)with|some v=>_|_=>_)=_;cases gP.ofBytes (vM first gP cells)<;>rfl
def bV.Xf (h:bV P Al F π v w){a a'}(p:bW π a a')(m): (∃hl,v.farLoad P a m= .error hl/\Fatal hl)\/ ∃(x:zY)(b A:Nat)(l:List Nat),v.farLoad P a m= .ok (x,l.map λi=>(b,i))/\w.farLoad P a' m= .ok (x,l.map λi=>(A,i))/\π b A/\bM Al π x x:=by have no:∀o,v.heap[a.block]? =o->(∀x u,o≠aA (.view x u))->(∀c t,o≠aA (.pending c t))->∃hl,v.farLoad P a m= .error hl/\Fatal hl:=by{intro o j H G;unfold World.farLoad;rw[j];cases o with|none=>exact⟨_,rfl,by simp[World.noCell,j]⟩|some o=>cases o with|view x u=>grind|pending c t=>grind|_=>exact⟨_,rfl,by simp[World.noCell,j]⟩};obtain⟨c,c',ty,fr,k,s,r,d,_⟩|⟨_,o,d,_,q⟩|⟨n,f,s,r,d⟩:=h.blk _ _ p.1;{exact ji};{exact aH (no _ d (λx u e=>q.2.1 x u ji) (λc t e=>q.2.2.2 c t ji))};.cases d with|number _ _=>grind| @view z B d t hu=>unfold World.farLoad;simp only[s,r];obtain⟨g,e⟩|⟨c,c',e,fr,k,first,gP,cells,E,D,K,J,I,C,_⟩:=XB h d p t m;{left;have:v.viewLoad P z t a m= .error g:=by{unfold World.viewLoad;rw[e];rfl};simp_all};.rw[FA E,FA D];cases hb:gP.ofBytes (vM first gP cells)with|none=>left;exact⟨_,rfl,j0⟩|some y=>right;exact⟨y,z.block,B.block,cells.map (·.1),j1,j1,d.1,(uO (hu _ _ _ C Al π) _).2 y hb⟩
def kA {h:zJ}{b i}(f:Obj->Obj)(a:b≠i):(h.modify b f)[i]? =h[i]? :=by rw[Ly];simp[a]
theorem fE {h:zJ}{b}(f:Obj->Obj):(h.modify b f)[b]? =(h[b]?).map f:=by rw[Ly];exact j0
def bV.eD (h:bV P Al F π v w){b n}(m:π b n){f f'} (u:∀o,(∃c t fr c' fr',o=aJ c t fr/\f o=aJ c' t fr'/\c'.size=c.size)\/f o=o) (j:∀o,(∃c t fr c' fr',o=aJ c t fr/\f' o=aJ c' t fr'/\c'.size=c.size)\/f' o=o) (E:∀o s,Zj Al F π b (aA o) (aA s)->Zj Al F π b (aA (f o)) (aA (f' s))): bV P Al F π {v with heap:=v.heap.modify b f} {w with heap:=w.heap.modify n f'}:=by have i:∀(g:Obj->Obj) y,(∀c t f,y≠aJ c t f)->(∀o,(∃c t fr c' fr',o=aJ c t fr/\g o=aJ c' t fr'/\c'.size=c.size)\/g o=o)->g y=y:=by{grind};refine⟨h.ok,λx C d=> ?_,h.tape,λx d=>by simpa using h.fresh x d,by simpa using h.low,h.os,λx d=> ?_⟩;rotate_left;{grind[rows]};by_cases e:b=x;{have B:=(h.ok.inj m d).1 e;subst e;subst B;obtain y|⟨l,o,k,a,r⟩|⟨z,p,l,k,a⟩:=h.blk _ _ m;{left;let⟨c,c',ty,fr,fr',I,H,G⟩:=y;have:=E (aJ c ty fr) (aJ c' ty fr') ⟨c,c',ty,fr,fr',rfl,rfl,G⟩;exact ji};{right;left;have A:∀(g:Obj->Obj),(∀o,(∃c t fr c' fr',o=aJ c t fr/\g o=aJ c' t fr'/\c'.size=c.size)\/g o=o)->g o=o:=λg D=>by{obtain⟨c,t,fr,c',fr',e,_⟩|e:=D o;{exact absurd e (r.1 c t fr)};{exact e}};exact⟨l,o,by rw[fE,k,Fz,A f u],by rw[fE,a,Fz,A f' j],r⟩};.right;right;refine⟨z,p,?_,?_,a⟩;{rw[fE,l,Fz,i f z (by cases a<;>simp) u]};.rw[fE,k,Fz,i f' p (by cases a<;>simp) j]};.have B:n≠C:=λq=>e ((h.ok.inj m d).2 q);grind[blk]
def bV.setCell (h:bV P Al F π v w){a a'}(b:bW π a a')(hF:¬F a.block){x e}(m:bM Al π x e):bV P Al F π (zAJ v a x) (zAJ w a' e):=by refine h.eD b.1 (λo=> ?_) (λo=> ?_) (λo l g=> ?_);{exact ji};{exact ji};.obtain⟨c,c',ty,fr,f,k,j,q,p,i⟩:=g;cases k;cases j;refine⟨_,_,ty,fr,f,rfl,rfl,?_,λd=>absurd d hF,i.1,λn=> ?_⟩;{rw[b.2.2,b.2.1];grind[bB.set]};exact ji
theorem bV.frozen (h:bV P Al F π v w){a a'}(i:bW π a a')(hF:¬F a.block):w.frozen? a'=v.frozen? a:=by obtain⟨c,c',ty,fr,m,g,d,e,j,l⟩|⟨_,o,d,e,j⟩|⟨_,_,g,d,e⟩:=h.blk _ _ i.1;{have:=l.1 hF;subst this;simp only[World.frozen?,g,d,i.2.1]};{have no:∀(u:zW)(b:Addr),u.heap[b.block]? =aA o->u.frozen? b=aG:=λu b k=>by{unfold World.frozen?;rw[k];cases o with|cells c t f=>exact absurd rfl (j.1 c t f)|_=>rfl};rw[no v _ d,no w _ e]};.cases e<;>simp only[World.frozen?,g,d]
def bV.Kg (h:bV P Al F π v w){a a'}(j:bW π a a')(hF:F a.block){x}(b:v.cell? a=aA x):v.frozen? a=aF:=by obtain⟨c,c',ty,fr,k,d,i,g,e,l⟩|⟨_,o,i,g,e⟩|⟨_,_,d,i,g⟩:=h.blk _ _ j.1;{obtain⟨lo,hi⟩:=fr;let⟨n,m,_⟩:=e hF;simp only[World.cell?,d]at b;split at b;{cases b};.obtain⟨hlt,_⟩:=Ax.1 b;simp only[World.frozen?,d,De,Ev];exact bm};{unfold World.cell? at b;rw[i]at b;cases o with|cells c t f=>exact absurd rfl (e.1 c t f)|_=>cases b};.cases g<;>(simp only[World.cell?,d]at b;cases b)
def bV.freeze (h:bV P Al F π v w)(hF:∀b,¬F b){a a'}(d:bW π a a')(n):bV P Al F π (v.freeze a n) (w.freeze a' n):=by unfold World.freeze;split;{exact h};.refine h.eD d.1 (λo=> ?_) (λo=> ?_) (λo l e=> ?_);{exact ji};{exact ji};.obtain⟨c,c',ty,fr,k,j,i,g,m,f⟩:=e;cases j;cases i;have:=f.1 (hF _);subst this;refine⟨_,_,ty,_,_,rfl,rfl,g,ji,λ_=> ?_,ji⟩;rw[d.2.1]
def bV.Ae (h:bV P Al F π v w){a a'}(r:bW π a a'){n}(H:∀c t fr,v.heap[a.block]? =aA (aJ c t fr)->a.off+n<=c.size)(hF:n≠0->¬F a.block):bV P Al F π (v.freeze a n) (w.freeze a' n):=by
 unfold World.freeze;split
 .exact h
 .rename_i G;replace hF:=hF G;have hcut:∀(g:Nat×Nat)(m:Nat),g.2<=m->a.off+n<=m->(if g.1==g.2 then(a.off,a.off+n)else(min g.1 a.off,max g.2 (a.off+n))).2<=m:=by
   exact ji
  obtain⟨i,k,d,j,s,A,J,I,g4,g5⟩|z|z:=h.blk _ _ r.1
  .have E:=H i d j A;refine⟨h.ok,λx D p=> ?_,h.tape,λx p=>by simpa using h.fresh x p,by simpa using h.low,h.os,λx p=> ?_⟩;rotate_left
   .grind[rows]
   by_cases e:a.block=x;{have B:=(h.ok.inj r.1 p).1 e;subst e;subst B;left;have:=g5.1 hF;subst this;refine⟨i,k,d,_,_,by rw[fE,A];rfl,by rw[fE,J];rfl,I,ji,λ_=>by rw[r.2.1],λK=> ?_⟩;rw[r.2.1];grind};{have B:a'.block≠D:=λq=>e ((h.ok.inj r.1 p).2 q);grind[blk]}
  all_goals
   have same:∀(u:zW)(b:Addr)(o:Obj)(f:Obj->Obj),u.heap[b.block]? =aA o->f o=o->u.heap.modify b.block f=u.heap:=ji
  .obtain⟨_,o,k1,k2,l⟩:=z;rw[same v a o _ k1 W7,same w a' o _ k2 W7];exact h
  .obtain⟨y,C,k1,k2,l⟩:=z;rw[same v a y _ k1 (by cases l<;>rfl),same w a' C _ k2 (by cases l<;>rfl)];exact h
def more (π:Rn)(r r':Nat):Rn:=λb a=>π b a\/(b=r/\a=r')
theorem bV.lt (h:bV P Al F π v w){b e}(f:π b e):b<v.heap.size/\e<w.heap.size:=by obtain⟨c,c',ty,fr,g,a,d,_⟩|⟨a,_⟩|⟨_,_,a,d,_⟩:=h.blk _ _ f;{exact⟨(Ax.1 a).1,(Ax.1 d).1⟩};{grind[ok,low,Ok.base]};.exact⟨(Ax.1 a).1,(Ax.1 d).1⟩
def bV.Er (h:bV P Al F π v w)(o g) (s:Zj Al F (more π v w) v.heap.size (aA o) (aA g)\/rv P (more π v w) (aA o) (aA g)): bV P Al F (more π v w) {v with heap:=v.heap.push o} {w with heap:=w.heap.push g}:=by have c:∀b e,π b e->more π v w b e:=λ_ _ x=>aH x;refine⟨⟨?_,?_,λb f=>aH (h.ok.iJ b f)⟩,?_,h.tape,λb f=>by have:=h.fresh b f;exact j3,by have:=h.low;exact j3,h.os,by grind[rows]⟩;{rintro a D b e (x|⟨rfl,rfl⟩) (y|⟨rfl,rfl⟩);{exact h.ok.inj x y};{have:=h.lt x;exact bm};{have:=h.lt y;exact bm};.exact j0};{rintro b e (x|⟨rfl,rfl⟩) f;{exact h.ok.base x f};.have:=h.low;exact bm};.rintro b e (x|⟨rfl,rfl⟩);{have hl:=h.lt x;have C:(v.heap.push o)[b]? =v.heap[b]? :=ji;have B:(w.heap.push g)[e]? =w.heap[e]? :=ji;obtain⟨d,q,t,fr,i,A,u,p,n⟩|⟨m,o,l,j,r⟩|⟨z,k,m,l,j⟩:=h.blk _ _ x;{left;exact⟨d,q,t,fr,i,ji,ji,p.mono c,n⟩};{grind};{right;right;exact⟨z,k,ji,ji,j.mono c⟩}};exact ji
def bV.push (h:bV P Al F π v w){c c':zA}(a:bB Al π c c')(ty:zD): bV P Al F (more π v w) {v with heap:=v.heap.push (aJ c ty)} {w with heap:=w.heap.push (aJ c' ty)}:=h.Er _ _ (aH ⟨c,c',ty,(0,0),(0,0),rfl,rfl,a.mono (λ_ _ x=>aH x),λhF=>absurd (h.fresh _ hF) bm,λ_=>rfl,bm⟩)
def bV.sP (h:bV P Al F π v w)(b:¬F.cmp){c c':zA}(a:bB Al π c c')(ty:zD): bV P Al F (more π v w) {v with heap:=v.heap.push (aJ c ty (c.size,c.size+1))} {w with heap:=w.heap.push (aJ c' ty (c'.size,c'.size+1))}:=h.Er _ _ (aH ⟨c,c',ty,(c.size,c.size+1),(c'.size,c'.size+1),rfl,rfl,a.mono (λ_ _ x=>aH x),λhF=>absurd (h.fresh _ hF) bm,λ_=>by rw[a.size],λx=>absurd x.1 b⟩)
def pH {α}(Q)(c)(ty)(k:Nat->Sem α)(u)(es): (Sem.new (aJ c ty) λr=>markStringish r>>=λ_=>k r).runT Q u es=(k u).runT Q {u with heap:=u.heap.push (aJ c ty (c.size,c.size+1))} es:=by have b:(u.heap.push (aJ c ty))[u.heap.size]? =aA (aJ c ty):=by{simp};have a:({u with heap:=u.heap.push (aJ c ty)}:zW).shape? u.heap.size=aA (ty,c.size):=by{simp only[World.shape?,b]};have e:(({u with heap:=u.heap.push (aJ c ty)}:zW).freeze (u,c.size) 1)={u with heap:=u.heap.push (aJ c ty (c.size,c.size+1))}:=by{unfold World.freeze;simp only[Nat.one_ne_zero,Dh];congr 1;apply GI;intro i;by_cases hi:u.heap.size=i;{grind[fE]};{rw[kA _ hi,Mh,Mh,AF (Dp hi),AF (Dp hi)]}};simp only[Sem.runT];show(Sem.shape u _).runT Q _ es=_;simp only[Sem.runT,a];show(Sem.freeze (u,c.size) 1 _).runT Q _ es=_;simp only[Sem.runT,e];rfl
def bV.AT (h:bV P Al F π v w){x a:Obj}(b:Ow P π x a): bV P Al F (more π v w) {v with heap:=v.heap.push x} {w with heap:=w.heap.push a}:=h.Er _ _ (aI ⟨x,a,rfl,rfl,b.mono (λ_ _ x=>aH x)⟩)
def bV.shape (h:bV P Al F π v w){b f}(g:π b f):w.shape? f=v.shape? b:=by obtain⟨c,c',ty,fr,i,e,d,a,_⟩|⟨_,o,d,a,_⟩|⟨_,_,e,d,a⟩:=h.blk _ _ g;{simp only[World.shape?,e,d,a.size]};{simp only[World.shape?,d,a]};.cases a<;>simp only[World.shape?,e,d]
def lQ (first n:Nat)(bytes:zB)(fr:Nat×Nat)(c:zA)(x:Nat×Nat×zB):Except String (zA):=if(decide (x.2.1<first)||decide (x.2.1+x.2.2.length>first+n))=aF then .error "memory seen as another type: a part of a cell written" else if(decide (fr.1<=x.1)&&decide (x.1<fr.2))=aF then .error "a write to bytes that a string shares" else match c[x.1]? with|none=> .error "memory seen as another type: no such cell"|some old=>match old.ofBytes ((bytes.drop (x.2.1-first)).take (zAH x.2.2))with|none=> .error "memory seen as another type: a bool from a byte other than 0 or 1"|some new=> .ok (zAI c x.1 new)
theorem sG {z k:Addr}{t:zD}{m:Bool}{c:zA}{e:zD}{fr:Nat×Nat}{first:Nat}{gP y:zY}{cells:List (Nat×Nat×zB)} (h:w.seen P z t k m= .ok (c,e,fr,first,gP,cells)): w.viewStore P z t k y m=if(!tight P P.depth t)=aF then No "memory seen as another type: a store through a type with padding" else match y.bytes? with|none=>No "memory seen as another type: a value that is no plain data"|some bytes=>if aA bytes.length≠gP.bytes?.map (·.length)then No "memory seen as another type: a value of another size" else match cells.foldlM (lQ first (zAH bytes) bytes fr) c with| .error a=> .error a| .ok c1=>NO ({w with heap:=zAI w.heap z.block (aJ c1 e fr)},cells.map λi=>((z.block,i.1):Addr)):=by unfold World.viewStore;by_cases b:(!tight P P.depth t)=aF;{rw[AE b,AE b];rfl};.rw[AF b,AF b,h];show(match y.bytes? with|some bytes=>_|_=>_)=_;cases l:y.bytes? with|none=>rfl|some bytes=>dsimp only;by_cases d:aA (zAH bytes)≠gP.bytes?.map (·.length);{rw[AE d,AE d];rfl};.rw[AF d,AF d];have f:∀(g:zA->Nat×Nat×zB->Except String (zA)),g=lQ first (zAH bytes) bytes fr->(Bind.bind (List.foldlM g c cells) λc1=>(Pure.pure ({w with heap:=zAI w.heap z.block (aJ c1 e fr)},cells.map λi=>((z.block,i.1):Addr)):Except String (zW×List Addr)))=match cells.foldlM (lQ first (zAH bytes) bytes fr) c with| .error a=> .error a| .ok c1=>NO ({w with heap:=zAI w.heap z.block (aJ c1 e fr)},cells.map λi=>((z.block,i.1):Addr)):=by{rintro g rfl;cases cells.foldlM (lQ first (zAH bytes) bytes fr) c<;>rfl};refine f _ ?_;funext c x;let⟨i,s,j⟩:=x;unfold lQ;split;{rfl};.split;{rfl};.cases c[i]? with|none=>rfl|some old=>dsimp only;cases old.ofBytes ((bytes.drop (s-first)).take (zAH j))<;>rfl
def Wz {first n bytes fr}:∀(cells:List (Nat×Nat×zB)){c c'},bB Al π c c'->(∃b,cells.foldlM (lQ first n bytes fr) c= .error b)\/∃c1 a,cells.foldlM (lQ first n bytes fr) c= .ok c1/\cells.foldlM (lQ first n bytes fr) c'= .ok a/\bB Al π c1 a/\c1.size=c.size:=by intro cells;induction cells with|nil=>intro c c' h;exact aI ⟨c,c',rfl,rfl,h,rfl⟩|cons x cells j=>intro c c' h;simp only[List.foldlM_cons];unfold lQ;split;{left;exact⟨_,rfl⟩};.split;{left;exact W4};.obtain⟨f,i⟩|⟨y,k,f,i,g⟩:=h.get x.1;{rw[f];left;exact W4};.rw[f,i];dsimp only;obtain d|d:=(uO g ((bytes.drop (x.2.1-first)).take (zAH x.2.2))).1;{rw[d];left;exact W4};rw[d];cases hb:y.ofBytes ((bytes.drop (x.2.1-first)).take (zAH x.2.2))with|none=>left;exact⟨_,rfl⟩|some new=>obtain⟨b,e⟩|⟨c1,a,f1,f2,f3,f4⟩:=j (h.set ((uO g _).2 new hb) x.1);{left;exact⟨b,e⟩};{right;exact⟨c1,a,f1,f2,f3,by rw[f4];exact j0⟩}
def zFv {first n bytes fr}(cells){c}(d:fr.1=0)(b:c.size<=fr.2): (∃a,cells.foldlM (lQ first n bytes fr) c= .error a)\/cells=[]:=by cases cells with|nil=>exact aI rfl|cons x cells=>left;simp only[List.foldlM_cons];unfold lQ;split;{exact⟨_,rfl⟩};.split;{exact W4};.rename_i h;have:c[x.1]? =aB:=by{exact ji};rw[this];exact W4
theorem bR {h:zJ}{b o}(e:h[b]? =aA o):zAI h b o=h:=by apply GI;intro i;rw[Hq];by_cases hi:b=i;{subst hi;have:=(Ax.1 e).1;rw[AE rfl,AE this,e]};.simp[hi]
def DM (c1:zA)(e:zD)(fr:Nat×Nat):Obj->Obj
 |aJ d t g=>if d.size=c1.size/\t=e then aJ c1 e fr else aJ d t g|o=>o
def PK (c1)(e)(fr:Nat×Nat)(o):(∃c t f c' a,o=aJ c t f/\DM c1 e fr o=aJ c' t a/\c'.size=c.size)\/DM c1 e fr o=o:=by cases o with|cells d t g=>unfold DM;dsimp only;by_cases h:d.size=c1.size/\t=e;{left;exact⟨d,t,g,c1,fr,rfl,by rw[AE h,h.2],h.1.symm⟩};{right;rw[AF h]}|_=>exact aI rfl
theorem zGe {h:zJ}{b c t fr}(c1)(hs:c1.size=c.size)(e:h[b]? =aA (aJ c t fr)): zAI h b (aJ c1 t fr)=h.modify b (DM c1 t fr):=by apply GI;intro i;rw[Hq,Ly];have:=(Ax.1 e).1;by_cases hi:b=i;{subst hi;rw[AE rfl,AE this,AE rfl,e];simp[DM,hs]};.simp[hi]
def bV.farStore (h:bV P Al F π v w){a a'}(M:bW π a a'){y K}(X:bM Al π y K)(m): (∃hl,v.farStore P a y m= .error hl/\Fatal hl)\/ ∃(G w1:zW)(b D:Nat)(l:List Nat),v.farStore P a y m= .ok (G,l.map λi=>(b,i))/\w.farStore P a' K m= .ok (w1,l.map λi=>(D,i))/\π b D/\ bV P Al F π G w1/\fL F π π v G w w1/\(F b->l=[]):=by have no:∀o,v.heap[a.block]? =o->(∀x u,o≠aA (.view x u))->(∀c t,o≠aA (.pending c t))->∃hl,v.farStore P a y m= .error hl/\Fatal hl:=by{intro o I hn hp;unfold World.farStore;rw[I];cases o with|none=>exact⟨_,rfl,by simp[World.noCell,I]⟩|some o=>cases o with|view x u=>grind|pending c t=>grind|_=>exact⟨_,rfl,by simp[World.noCell,I]⟩};obtain⟨c,c',ty,fr,j,Q,O,n,_⟩|⟨_,o,n,_,N⟩|⟨J,E,Q,O,n⟩:=h.blk _ _ M.1;{exact ji};{exact aH (no _ n (λx u e=>N.2.1 x u ji) (λc t e=>N.2.2.2 c t ji))};.cases n with|number _ _=>grind| @view z B n t hu=>unfold World.farStore;simp only[Q,O];obtain⟨k,e⟩|⟨c,c',e,fr,j,first,gP,cells,e1,e2,e3,e4,S,e6,R,e8⟩:=XB h n M t m;{left;have:∃k,v.viewStore P z t a y m= .error k:=by{unfold World.viewStore;by_cases p:(!tight P P.depth t)=aF;{rw[AE p];exact⟨_,rfl⟩};{rw[AF p,e];exact⟨_,rfl⟩}};let⟨k,hw⟩:=this;exact j1};.rw[sG e1,sG e2];obtain r|r:=RD X;{rw[r];by_cases p:(!tight P P.depth t)=aF;{rw[AE p];exact zAE};.rw[AF p];exact zAE};rw[r];by_cases p:(!tight P P.depth t)=aF;{rw[AE p];left;exact⟨_,rfl,j0⟩};simp only[AF p];cases hb:y.bytes? with|none=>left;exact⟨_,rfl,j0⟩|some bytes=>dsimp only;by_cases L:aA (zAH bytes)≠gP.bytes?.map (·.length);{rw[AE L];left;exact⟨_,rfl,j0⟩};simp only[AF L];by_cases hF:F z.block;{obtain⟨k,f⟩|f:=zFv cells (R hF).1 (R hF).2.1;{rw[f];exact zAE};.subst f;right;refine⟨v,w,z.block,B.block,[],?_,?_,n.1,h,fL.refl v w,λ_=>rfl⟩;{simp only[List.foldlM_nil];show NO (({v with heap:=zAI v.heap z.block (aJ c e fr)}:zW),_)=_;rw[bR e3];rfl};.simp only[List.foldlM_nil];show NO (({w with heap:=zAI w.heap B.block (aJ c' e j)}:zW),_)=_;rw[bR e4];rfl};.have:=e8.1 hF;subst this;obtain⟨k,f⟩|⟨c1,A,f1,f2,f3,f4⟩:=Wz cells S;{rw[f];exact zAE};.rw[f1,f2];right;have Z:=f4;have Y:A.size=c'.size:=by{rw[f3.size,f4,S.size]};refine⟨_,_,z.block,B.block,cells.map (·.1),by simp only[KI];rfl,by simp only[KI];rfl,n.1,?_,?_,ji⟩;{have:=h.eD n.1 (PK c1 e j) (PK A e j) ?_;{grind[zGe]};.rintro o o' ⟨d,d',ty,g,g',W,V,H,U,T⟩;cases W;cases V;unfold DM;dsimp only;by_cases C:d.size=c1.size/\ty=e;{rw[AE C,AE ⟨by rw[H.size,C.1,f3.size],C.2⟩];exact⟨c1,A,e,j,j,rfl,rfl,f3,ji,λ_=>rfl,ji⟩};.rw[AF C,AF (λx=>C ⟨by rw[<-H.size,x.1,f3.size],x.2⟩)];exact⟨d,d',ty,g,g',rfl,rfl,H,U,T⟩};.refine⟨λ_ _ x=>x,j0,j0,λD _ s=> ?_,ji,rfl,rfl,rfl,rfl,rfl,rfl,ji,ji,λb _ s=> ?_,ji⟩;{have:B.block≠D:=λq=>hF (s z.block (q▸n.1));exact ji};.have:z.block≠b:=λq=>s B.block (q▸n.1);exact ji
end
section
variable {P:zZ}{Al:zF}{F:Kp}{α β:Type}{A:Rn->α->β->Prop}
def cq {α:Type}:Result α×zE->zW
 |(.ok _ w,_)=>w|(.halt _ w,_)=>w
def iy (F:Kp)(u:zW):Prop:=∃n,F.pQ=aA n/\n<u.drawn
def Form {α β:Type}(A:Rn->α->β->Prop)(r:Result α×zE):Prop:=(∃(a:α)(b:β)(d:Rn)(c:zW)(e:zE),r=(.ok a c,e)/\A d a b)\/∃(x:zY)(c:zW)(e:zE),r=(.halt (.panic x) c,e)
def fX (P:zZ)(Al:zF)(F:Kp)(A:Rn->α->β->Prop)(π:Rn)(v w:zW)(g:zE)(r:Result α×zE)(r':Result β×zE):Prop:=((∃hl j c,r=(.halt hl j,c)/\Fatal hl)\/(iy F (cq r)/\Form A r))\/ ∃(f:Rn)(h w1:zW)(c:zE)(d:zE),bV P Al F f h w1/\fL F π f v h w w1/\(∀e∈d,pP F f e)/\ ((∃a b,r=(.ok a h,c)/\r'=(.ok b w1,g++d)/\A f a b)\/(∃x i,r=(.halt (.panic x) h,c)/\r'=(.halt (.panic i) w1,g++d)/\bM Al f x i))
def fX.step {π ρ v v1 w w1 a d r r'} (g:fL F π ρ v v1 w w1) (j:∀e∈d,pP F ρ e) (h:fX P Al F A ρ v1 w1 (a++d) r r'):fX P Al F A π v w a r r':=by obtain h|⟨f,v2,w2,b,d2,h1,c,l,k⟩:=h;{exact aH h};.refine aI ⟨f,v2,w2,b,d++d2,h1,g.trans c,λe i=> ?_,?_⟩;{obtain x|x:=Array.mem_append.1 i;{exact(j e x).mono c.sub};exact ji};exact ji
def oK (es)(e:Event):es++ #[e]=es.push e:=j0
end
section
variable {P:zZ}{α β γ:Type}
theorem bI {s:Sem α}{f:α->Sem β}(v:zW)(es:zE):(s>>=f).runT P v es=match s.runT P v es with|(.ok a w,e)=>(f a).runT P w e|(.halt h w,e)=>(.halt h w,e):=by show(s.bind f).runT P v es=_;induction s generalizing v es with|pure a=>rfl|halt h=>rfl|store m a x k i=>{cases x<;>simp only[Sem.bind,Sem.runT]<;>(repeat' split)<;>first|rfl|exact i _ _|grind}|_=>rename_i i;simp only[Sem.bind,Sem.runT];grind
def bind_assoc' {s:Sem α}{f:α->Sem β}{g:β->Sem γ}:(s>>=f)>>=g=s>>=λa=>f a>>=g:=j1
end
section
variable {P:zZ}{Al:zF}{F:Kp}{π:Rn}{v w:zW}
def BC (a:Addr)(acc:ByteArray)(n:Nat)(x:zY):Sem ByteArray:=match x with| .int aQ b=>loadBytes (a.add 1) (acc.push b.toNat.toUInt8) n|_=>stuck "a byte variable that holds no byte"
def xC (K:bV P Al F π v w):∀(n){a u}(acc)(q j),bW π a u->
  (∃hl g,(loadBytes a acc n).runT P v q=(.halt hl v,g)/\Fatal hl)\/
  ∃s g d,(loadBytes a acc n).runT P v q=(.ok s v,g)/\(loadBytes u acc n).runT P w j=(.ok s w,j++d)/\(∀e∈d,pP F π e)/\
   (n≠0->(∀c t fr,v.heap[a.block]? =aA (aJ c t fr)->a.off+n<=c.size)/\¬F a.block):=by
 intro n;induction n with
 |zero=>intro a u acc q j h;exact aI ⟨acc,q,#[],rfl,by simp[loadBytes,Sem.runT],j0,bm⟩
 |succ n V=>
  intro a u acc q j h;have E:∀(x D:zY)(d:zE)(r:zE),bM Al π x D->(∀e∈d,pP F π e)->
    (loadBytes a acc (n+1)).runT P v q=(BC a acc n x).runT P v r->
    (loadBytes u acc (n+1)).runT P w j=(BC u acc n D).runT P w (j++d)->
    (∀m,x= .int aQ m->(∀c t fr,v.heap[a.block]? =aA (aJ c t fr)->a.off+1<=c.size/\a.spot=aB)/\¬F a.block)->
    (∃hl g,(loadBytes a acc (n+1)).runT P v q=(.halt hl v,g)/\Fatal hl)\/
    ∃s g d,(loadBytes a acc (n+1)).runT P v q=(.ok s v,g)/\(loadBytes u acc (n+1)).runT P w j=(.ok s w,j++d)/\(∀e∈d,pP F π e)/\
     (n+1≠0->(∀c t fr,v.heap[a.block]? =aA (aJ c t fr)->a.off+(n+1)<=c.size)/\¬F a.block):=by
   intro x D d r W G p I Z
   rw[p,I]
   have no:BC a acc n x=stuck "a byte variable that holds no byte"->
     ∃hl g,(BC a acc n x).runT P v r=(.halt hl v,g)/\Fatal hl:=λe=>by rw[e];exact⟨_,_,rfl,j0⟩
   cases W with
   |int k m=>
    cases k<;>first|exact aH (no rfl)|skip
    let⟨O,N⟩:=Z m rfl;show(∃hl g,(loadBytes (a.add 1) (acc.push m.toNat.toUInt8) n).runT P v r=(.halt hl v,g)/\Fatal hl)\/∃s g J,(loadBytes (a.add 1) (acc.push m.toNat.toUInt8) n).runT P v r=(.ok s v,g)/\(loadBytes (u.add 1) (acc.push m.toNat.toUInt8) n).runT P w (j++d)=(.ok s w,j++J)/\_;obtain y|⟨s,g,d2,U,y2,y3,T⟩:=V (acc.push m.toNat.toUInt8) r (j++d) (h.add 1);{exact aH y}
    .refine aI ⟨s,g,d++d2,U,ji,λe B=> ?_,λ_=>⟨λc t fr C=> ?_,N⟩⟩
     .exact ji
     .have q1:=O c t fr C;by_cases Y:n=0
      .exact bm
      .have:=(T Y).1 c t fr j5;simp[Addr.add]at this;exact bm
   |_=>exact aH (no rfl)
  obtain⟨x,D,p,I,z⟩|⟨p,I⟩:=K.cell h
  .refine E x D #[⟨.cell u,aG,aG⟩] (q.push ⟨.cell a,aG,aG⟩) z (λe B=> ?_) ?_ ?_ ?_
   .simp only[DI,Cy]at B;subst B;exact aH ji
   .show(Sem.load .plain a _).runT P v q=_;simp only[Sem.runT,p];rfl
   .show(Sem.load .plain u _).runT P w j=_;rw[oK];simp only[Sem.runT,I];rfl
   .intro m R;subst R;refine⟨λc t fr C=> ?_,λhF=> ?_⟩
    .simp only[World.cell?,C]at p;split at p
     .cases p
     .rename_i M;have:=(Ax.1 p).1;exact⟨bm,by simpa using M⟩
    .obtain⟨c,c',ty,fr,fr',H,g2,L,g4,g5⟩|⟨_,o,H,_,L⟩|⟨y,y',H,_,L⟩:=K.blk _ _ h.1
     .simp only[World.cell?,H]at p;exact ji
     .unfold World.cell? at p;rw[H]at p;cases o with
      |cells c t f=>exact absurd rfl (L.1 c t f)
      |_=>cases p
     .unfold World.cell? at p;rw[H]at p;cases L<;>cases p
  .obtain⟨hl,z,Q⟩|⟨x,b,S,l,z,Q,e5,e6⟩:=K.Xf h aG
   .left;refine⟨hl,q,?_,Q⟩;show(Sem.load .plain a _).runT P v q=_;simp only[Sem.runT,p];exact ji
   .refine E x x ((l.map λi=>((S,i):Addr)).toArray.map λa=>(⟨.cell a,aG,aG⟩:Event)) (q++(l.map λi=>((b,i):Addr)).toArray.map λa=>(⟨.cell a,aG,aG⟩:Event)) e6 (λe B=> ?_) ?_ ?_ ?_
    .simp only[Lu,KI,DI,Dd]at B;obtain⟨i,_,rfl⟩:=B;exact aH ⟨(b,i),(S,i),aG,_,rfl,⟨e5,rfl,rfl⟩,j0⟩
    .show(Sem.load .plain a _).runT P v q=_;simp only[Sem.runT,p];rw[show((Mode.plain==Mode.atomic):Bool)=aG from rfl,z];rfl
    .show(Sem.load .plain u _).runT P w j=_;simp only[Sem.runT,I];rw[show((Mode.plain==Mode.atomic):Bool)=aG from rfl,Q];rfl
    .intro m R;have X:∀c t fr,v.heap[a.block]?≠aA (aJ c t fr):=λc t fr C=>by
      unfold World.farLoad at z;exact ji
     exact⟨ji,λhF=>by
      obtain⟨o,C,⟨c,t,fr,rfl⟩|G⟩:=K.rows _ hF;{grind}
      .unfold World.farLoad at z;rw[C]at z;cases o<;>first|grind|exact absurd rfl (G.2.1 _ _)|exact absurd rfl (G.2.2.1 _ _)|exact absurd rfl (G.2.2.2 _ _)|exact absurd rfl (G.1 _ _ _)⟩
def sR (z:bV P Al F π v w){a a'}(h:bW π a a')(es i): (∃hl k,(noView a).runT P v es=(.halt hl v,k)/\Fatal hl)\/ ∃k d,(noView a).runT P v es=(.ok () v,k)/\(noView a').runT P w i=(.ok () w,i++d)/\∀e∈d,pP F π e:=by have q:∀(u:zW)(b:Addr) c t fr (es:zE),u.heap[b.block]? =aA (aJ c t fr)->(noView b).runT P u es=(.ok () u,es):=λu b c t fr es n=>by{have:u.shape? b.block=aA (t,c.size):=by{simp only[World.shape?,n]};show(Sem.shape b.block _).runT P u es=_;simp only[Sem.runT,this];rfl};have g:∀(u:zW)(b:Addr) o (es:zE),u.heap[b.block]? =aA o->(∀c t f,o≠aJ c t f)->(∀x t,o≠.view x t)->(noView b).runT P u es=(.ok () u,es.push ⟨.obj b.block,aG,o.isChan⟩):=λu b o es n E D=>by{have:u.shape? b.block=aB:=by{simp only[World.shape?,n];grind};show(Sem.shape b.block _).runT P u es=_;simp only[Sem.runT,this];show(Sem.getObj b.block _).runT P u es=_;simp only[Sem.runT,n];cases o with|cells c t f=>grind|view x t=>grind|_=>rfl};obtain⟨c,c',ty,fr,B,m,r,j,g4,g5⟩|⟨_,o,m,r,j⟩|⟨y,C,m,r,j⟩:=z.blk _ _ h.1;{exact aI ⟨es,#[],ji,ji,j0⟩};{refine aI ⟨_,#[⟨.obj a'.block,aG,o.isChan⟩],g v a o es m j.1 j.2.1,by rw[g w a' o i r j.1 j.2.1,oK],λe p=> ?_⟩;exact V1};.cases j with|view s u n=>left;refine⟨.unsupported (.unsafePointer "memory seen as another type"),es.push ⟨.obj a.block,aG,aG⟩,?_,j0⟩;have:v.shape? a.block=aB:=by{simp only[World.shape?,m]};show(Sem.shape a.block _).runT P v es=_;simp only[Sem.runT,this];show(Sem.getObj a.block _).runT P v es=_;simp only[Sem.runT,m];rfl|number s l=>refine aI ⟨_,#[⟨.obj a'.block,aG,aG⟩],g v a _ es m j0 j0,by rw[g w a' _ i r j0 j0,oK];rfl,λe p=> ?_⟩;exact V1
def GF (u:zW)(a:Addr):Prop:=∀c t fr,u.heap[a.block]? =aA (aJ c t fr)->fr.2<=c.size
def wW {u a}(h:GF u a)(es):(stringish a).runT P u es=(.ok (u.frozen? a) u,es):=by show(Sem.frozen a _).runT P u es=_;simp only[Sem.runT];cases b:u.frozen? a with|true=>rfl|false=>show(Sem.shape a.block _).runT P u es=_;simp only[Sem.runT];cases hu:u.heap[a.block]? with|none=>simp only[World.shape?,hu];rfl|some o=>cases o with|cells c t fr=>simp only[World.shape?,hu];show(Sem.frozen {block:=a.block,off:=c.size} _).runT P u es=_;have:u.frozen? {block:=a.block,off:=c.size}=aG:=by{let⟨lo,hi⟩:=fr;have:=h c t (lo,hi) hu;simp only[World.frozen?,hu];grind};simp only[Sem.runT,this]|_=>simp only[World.shape?,hu];rfl
def BF {u a b}(f:GF u a)(e:GF u b)(es):(mayBeOne a b).runT P u es=(.ok (u.frozen? a&&u.frozen? b) u,es):=by have pos:∀(x:Addr),GF u x->u.frozen? x=aF->(u.shape? x.block matches aA (_,0))=aG:=λx d h=>by{unfold World.frozen? at h;unfold World.shape?;cases hu:u.heap[x.block]? with|none=>rfl|some o=>cases o with|cells c t fr=>let⟨lo,hi⟩:=fr;rw[hu]at h;have:=d c t (lo,hi) hu;grind|_=>rfl};unfold mayBeOne;rw[bI,wW f];dsimp only;rw[bI,wW e];show(Sem.shape a.block _).runT P u es=_;simp only[Sem.runT];show(Sem.shape b.block _).runT P u es=_;simp only[Sem.runT];show(Result.ok ((u.frozen? a&&u.frozen? b)||(u.frozen? a&&(u.shape? a.block matches aA (_,0)))||(u.frozen? b&&(u.shape? b.block matches aA (_,0)))) u,es)=_;exact ji
def QQ (n:bV P Al F π v w){a a'}(h:bW π a a')(q:F.cmp/\∃x,F x):GF v a/\GF w a'/\(w.frozen? a'=aF->v.frozen? a=aF):=by obtain⟨c,c',ty,fr,k,j,i,g,g4,g5⟩|⟨_,o,j,i,g⟩|⟨y,u,j,i,g⟩:=n.blk _ _ h.1;{have l:=g5.2 q;refine⟨λc1 t1 d b=> ?_,λc1 t1 d b=> ?_,λe=> ?_⟩;{exact ji};{rw[i]at b;cases b;rw[g.size];exact l.2};.by_cases hF:F a.block;{obtain⟨s,r,_⟩:=g4 hF;let⟨lo,hi⟩:=fr;let⟨m,p⟩:=k;simp only[World.frozen?,i,De,Ev]at e;simp only[World.frozen?,j,De,Ev];simp only at s r l;rw[h.2.1]at e;exact bm};grind[bV.frozen]};{refine⟨λc1 t1 d b=> ?_,λc1 t1 d b=> ?_,λe=> ?_⟩;{rw[j]at b;cases b;exact absurd rfl (g.1 _ _ _)};{rw[i]at b;cases b;exact absurd rfl (g.1 _ _ _)};.unfold World.frozen? at e;rw[i]at e;cases o with|cells c t f=>exact absurd rfl (g.1 c t f)|_=>cases e};.refine⟨λc1 t1 d b=> ?_,λc1 t1 d b=> ?_,λe=> ?_⟩;{rw[j]at b;cases b;cases g};{rw[i]at b;cases b;cases g};.unfold World.frozen? at e;rw[i]at e;cases g<;>cases e
def XC (p:bV P Al F π v w)(D:F.cmp/\∃x,F x){a a' b j}(h:bW π a a')(k:bW π b j)(es i): (∃hl f,(sameAddr a b).runT P v es=(.halt hl v,f)/\Fatal hl)\/ ∃t f d,(sameAddr a b).runT P v es=(.ok t v,f)/\(sameAddr a' j).runT P w i=(.ok t w,i++d)/\∀e∈d,pP F π e:=by have r:=p.ok.inj h.1 k.1;let⟨C,m,O⟩:=QQ p h D;let⟨nb,l,N⟩:=QQ p k D;by_cases e:a.block=b.block;{have E:=r.1 e;refine aI ⟨a==b,es,#[],?_,?_,j0⟩;{unfold sameAddr;exact j1};.unfold sameAddr;have:(a'==j)=(a==b):=by{let⟨_,M,L⟩:=h;let⟨_,k2,J⟩:=k;by_cases s:a=b;{subst s;have:a'=j:=by{cases a';cases j;exact j1};simp[this]};{have:a'≠j:=λq=>s (by cases a;cases b;exact ji);grind}};exact j1};.have E:a'.block≠j.block:=by{omega};have run:∀(u:zW)(c d:Addr)(es:zE),c.block≠d.block->GF u c->GF u d->(sameAddr c d).runT P u es=if(u.frozen? c&&u.frozen? d)=aF then(.halt (.unsupported .addressObserved) u,es)else match(noView c).runT P u es with|(.ok _ u1,f)=>(match(noView d).runT P u1 f with|(.ok _ u2,g)=>((mayBeOne c d)>>=λt=>if t=aF then(choose (.extern "sameAddr.stringBytes" 2)>>=λn=>pure (n==1))else pure aG).runT P u2 g|(.halt h u2,g)=>(.halt h u2,g))|(.halt h u1,f)=>(.halt h u1,f):=by{intro u c d es z I nd;unfold sameAddr;rw[beq_false_of_ne z];simp only[Dj,Dh];show(Sem.frozen c _).runT P u es=_;simp only[Sem.runT];show(Sem.frozen d _).runT P u es=_;simp only[Sem.runT];show Sem.runT P (if(u.frozen? c&&u.frozen? d)=aF then _ else _) u es=_;cases(u.frozen? c&&u.frozen? d)with|true=>rfl|false=>simp only[Dj,Dh];grind[bI]};rw[run v a b es e C nb,run w a' j i E m l];cases G:(v.frozen? a&&v.frozen? b)with|true=>exact aH ⟨_,_,rfl,j0⟩|false=>have o:(w.frozen? a'&&w.frozen? j)=aG:=by{grind};rw[o];simp only[Dj,Dh];obtain⟨hl,f,y,B⟩|⟨f,d,y,B,H⟩:=sR p h es i;{rw[y];grind};rw[y,B];dsimp only;obtain⟨hl,g,r1,r2⟩|⟨g,d2,r1,r2,r3⟩:=sR p k f (i++d);{rw[r1];grind};rw[r1,r2];dsimp only;rw[bI,BF C nb,bI,BF m l,G,o];refine aI ⟨aG,g,d++d2,rfl,by rw[<-Array.append_assoc];rfl,λx K=> ?_⟩;exact ji
end
section
variable {P:zZ}{Al:zF}{F:Kp}{α β:Type}{A:Rn->α->β->Prop}
def Rb {γ}:∀(a:Ask γ)(u:zW),u.drawn<=(u.ask a).2.drawn:=by intro a;induction a with|done x=>intro u;exact je _|ask b range k i=>intro u;unfold World.ask;exact ji
def zEh (u:zW)(c:Sys):u.drawn<=(u.sys c).2.drawn:=by have:=Rb (Kernel.perform c u.os) u;unfold World.sys;exact ji
def zAt {γ:Type}:∀(s:Sem γ)(u:zW)(e:zE),u.drawn<=(cq (s.runT P u e)).drawn:=by
 intro s u e;induction s generalizing u e with
 |store m a x k i=>
  have j:(zAJ u a x).drawn=u.drawn:=rfl;have p:∀y d l,u.farStore P a y (m== .atomic)= .ok (d,l)->d.drawn=u.drawn:=by
   intro y d l h;unfold World.farStore at h;cases hb:u.heap[a.block]? with
   |none=>grind
   |some o=>
    rw[hb]at h;cases o with
    |view at_ t=>
     dsimp only at h;cases C:u.viewStore P at_ t a y (m== .atomic)with
     |error b=>grind
     |ok r=>
      rw[C]at h;cases h;cases f:u.seen P at_ t a (m== .atomic)with
      |error b=>
       have:∃b,u.viewStore P at_ t a y (m== .atomic)= .error b:=by unfold World.viewStore;by_cases g:(!tight P P.depth t)=aF;{rw[AE g];exact⟨_,rfl⟩};{rw[AF g,f];exact⟨_,rfl⟩}
       exact ji
      |ok z=>grind[sG]
    |_=>exact A4
  cases x<;>simp only[Sem.runT]<;>first|exact je _|skip
  all_goals
   split
   .split
    .exact je _
    exact ji
   .split
    .exact ji
    .exact je _
 |freeze a n k i=>have:(u.freeze a n).drawn=u.drawn:=by{unfold World.freeze;exact ji};have B:=i (u.freeze a n) e;rw[this]at B;exact B
 |choose q k i=>simp only[Sem.runT];grind
 |sys c k i=>exact Az (zEh u c) (i _ _ _)
 |_=>
  simp only[Sem.runT];first
  |exact je _
  |(rename_i i;(repeat' split)<;>first|exact je _|grind|grind)
def BE {α:Type}{x e:α}(h:e∈#[x]):e=x:=ji
def fL.push {π:Rn}(v w:zW)(o c:Obj):fL F π (more π v w) v {v with heap:=v.heap.push o} w {w with heap:=w.heap.push c}:=by refine⟨λ_ _ x=>aH x,ji,ji,λa h _=> ?_,λb a x=> ?_,rfl,rfl,rfl,rfl,rfl,rfl,ji,λx y=>⟨ji,λb a z=> ?_⟩,λb h _=> ?_,λb e d=>⟨w.heap.size,aI ji⟩⟩;{exact ji};{obtain x|⟨rfl,rfl⟩:=x;all_goals grind};{obtain z|⟨rfl,rfl⟩:=z;all_goals grind};exact ji
def Ww (n:Nat)(u:zW)(x:Addr):(u.freeze x n).heap.size=u.heap.size/\(u.freeze x n).tape=u.tape/\(u.freeze x n).os=u.os/\(u.freeze x n).output=u.output/\(u.freeze x n).drawn=u.drawn/\∀b,(n≠0->x.block≠b)->(u.freeze x n).heap[b]? =u.heap[b]? :=by unfold World.freeze;exact ji
def fL.OB {π:Rn}{v w:zW}{n:Nat}{a a':Addr}(h:bW π a a')(hF:n≠0->¬F a.block):fL F π π v (v.freeze a n) w (w.freeze a' n):=by let⟨g,p2,p3,p4,d,p⟩:=Ww n v a;let⟨r1,r2,r3,r4,r5,r6⟩:=Ww n w a';exact⟨λ_ _ x=>x,bm,bm,λf _ c=>r6 f λe q=>hF e (c a.block (q▸h.1)),ji,r2,r3,r4,p2,p3,p4,⟨0,d,r5⟩,ji,λb _ c=>p b λ_ q=>c a'.block (q▸h.1),bm⟩
def bY.runT {π:Rn}{s:Sem α}{s':Sem β}(h:bY P Al F A π s s'):∀(v w:zW)(B g:zE),bV P Al F π v w->fX P Al F A π v w g (s.runT P v B) (s'.runT P w g):=by
 intro v w B g j;induction h generalizing v w B g with
 |pure h=>exact aI ⟨_,v,w,B,#[],j,fL.refl v w,j0,j1⟩
 | @load π m a I k D h H p=>
  obtain⟨x,K,C,E,J⟩|⟨C,E⟩:=j.cell h;{simp only[Sem.runT,C,E];have:=p x K J v w (B.push ⟨.cell a,aG,m== .atomic⟩) (g.push ⟨.cell I,aG,m== .atomic⟩) j;refine fX.step (fL.refl v w) (λe G=> ?_) M0;obtain rfl:=BE G;exact aH ji}
  .obtain⟨hl,J,N⟩|⟨x,b,T,l,J,N,e5,e6⟩:=j.Xf h (m== .atomic)
   .left;left;refine⟨hl,v,B,?_,N⟩;simp only[Sem.runT,C,J]
   .simp only[Sem.runT,C,E,J,N];refine fX.step (fL.refl v w) (λe G=> ?_) (p x x e6 v w _ _ j);simp only[Lu,KI,DI,Dd]at G;obtain⟨i,_,rfl⟩:=G;exact aH ⟨(b,i),(T,i),aG,_,rfl,⟨e5,rfl,rfl⟩,j0⟩
 | @store π m a I x K k D h V H p=>
  have X:(∀(cs:zA),x≠.agg cs)->(∀(cs:zA),x≠.tuple cs)->(∀(cs:zA),K≠.agg cs)->(∀(cs:zA),K≠.tuple cs)->fX P Al F A π v w g ((Sem.store m a x k).runT P v B) ((Sem.store m I K D).runT P w g):=by
   intro n1 n2 n3 n4;rw[Sem.runT.eq_5 _ _ _ _ _ _ _ (λcs h=>n1 cs h) (λcs h=>n2 cs h),Sem.runT.eq_5 _ _ _ _ _ _ _ (λcs h=>n3 cs h) (λcs h=>n4 cs h)];obtain⟨y,y',C,E,J⟩|⟨C,E⟩:=j.cell h
   .simp only[C,E];by_cases hF:F a.block
    .left;left;rw[j.Kg h hF C];exact j1
    .rw[j.frozen h hF];cases hf:v.frozen? a with
     |true=>left;simp_all
     |false=>have:=p (zAJ v a x) (zAJ w I K) (B.push ⟨.cell a,aF,m== .atomic⟩) (g.push ⟨.cell I,aF,m== .atomic⟩) (j.setCell h hF V);refine fX.step (ρ:=π) (v1:=zAJ v a x) (w1:=zAJ w I K) ⟨λ_ _ z=>z,j1,j1,λT _ O=> ?_,ji,rfl,rfl,rfl,rfl,rfl,rfl,j1,j1,λb _ O=> ?_,λb M S=>by simp[zAJ]at S;exact bm⟩ (λe G=> ?_) M0;{have:I.block≠T:=λq=>hF (O a.block (q▸h.1));simp only[zAJ,kA _ this]};{have:a.block≠b:=λq=>O I.block (q▸h.1);simp only[zAJ,kA _ this]};{obtain rfl:=BE G;exact aH ji}
   .simp only[C,E];obtain⟨hl,J,N⟩|⟨v1,w1,b,T,l,J,N,e5,e6,e7,e8⟩:=j.farStore h V (m== .atomic)
    .left;exact ji
    .simp only[J,N];refine fX.step e7 (λe G=> ?_) (p v1 w1 _ _ e6);simp only[Lu,KI,DI,Dd]at G;obtain⟨i,hi,rfl⟩:=G;exact aH ⟨(b,i),(T,i),aF,_,rfl,⟨e5,rfl,rfl⟩,ji⟩
  cases V with
  |agg _ _=>left;left;exact⟨_,_,_,rfl,j0⟩
  |tuple _ _=>left;left;exact⟨_,_,_,rfl,j0⟩
  |junk vb W=>exact X j0 j0 (λcs e=>by rw[e]at W;exact W) (λcs e=>by rw[e]at W;exact W)
  |_=>exact j1
 | @new π c c' ty k D h H p=>have:=p (more π v w) v.heap.size w (j.push h ty).ok (λ_ _ x=>aH x) (aI ⟨rfl,rfl⟩) _ _ B g (j.push h ty);simp only[Sem.runT];exact fX.step (fL.push v w _ _) (d:= #[]) j0 Y3
 | @marked π c c' ty k D hC h H p=>have:=p (more π v w) v.heap.size w (j.sP hC h ty).ok (λ_ _ x=>aH x) (aI ⟨rfl,rfl⟩) _ _ B g (j.sP hC h ty);rw[pH,pH];exact fX.step (fL.push v w _ _) (d:= #[]) j0 Y3
 | @view π x K k D h H p=>have:=p (more π v w) v.heap.size w (j.AT h).ok (λ_ _ x=>aH x) (aI ⟨rfl,rfl⟩) _ _ B g (j.AT h);simp only[Sem.runT];exact fX.step (fL.push v w _ _) (d:= #[]) j0 Y3
 | @getObj π r R k D h H p=>
  have U:∀(t:Bool)(e:Event),e∈#[(⟨.obj R,aG,t⟩:Event)]->pP F π e:=λt e G=>by obtain rfl:=BE G;exact aI ji
  obtain⟨c,c',ty,fr,fr',M,S,_⟩|⟨_,o,M,S,Q⟩|⟨x,K,M,S,Q⟩:=j.blk _ _ h;{left;left;exact⟨.stuck "getObj: a row of cells",v,B,by simp only[Sem.runT,M],j0⟩}
  .have C:(Sem.getObj r k).runT P v B=(k o).runT P v (B.push ⟨.obj r,aG,o.isChan⟩):=by
    simp only[Sem.runT,M];cases o with
    |cells c t f=>exact absurd rfl (Q.1 c t f)
    |_=>rfl
   have E:(Sem.getObj R D).runT P w g=(D o).runT P w (g.push ⟨.obj R,aG,o.isChan⟩):=by
    simp only[Sem.runT,S];cases o with
    |cells c t f=>exact absurd rfl (Q.1 c t f)
    |_=>rfl
   rw[C,E];exact fX.step (fL.refl v w) (U _) (by rw[oK];exact p o o (aH ⟨Q,rfl⟩) v w _ _ j)
  .have C:(Sem.getObj r k).runT P v B=(k x).runT P v (B.push ⟨.obj r,aG,aG⟩):=by
    simp only[Sem.runT,M];cases Q<;>rfl
   have E:(Sem.getObj R D).runT P w g=(D K).runT P w (g.push ⟨.obj R,aG,aG⟩):=by simp only[Sem.runT,S];cases Q<;>rfl
   rw[C,E];exact fX.step (fL.refl v w) (U _) (by rw[oK];exact p _ _ (aI ⟨x,K,rfl,rfl,Q⟩) v w _ _ j)
 | @shape π r R k D h H p=>simp only[Sem.runT,j.shape h];grind
 | @freeze π a I n k D hF h H p=>simp only[Sem.runT];exact fX.step (fL.OB h λ_=>hF _) (d:= #[]) j0 (by rw[Lv];exact p (v.freeze a n) (w.freeze I n) B g (j.freeze hF h n))
 | @frozen π a I k D hF h H p=>simp only[Sem.runT,j.frozen h (hF _)];grind
 | @share π a I n k D h H p=>
  rw[bI,bI];obtain⟨hl,L,C,E⟩|⟨s,L,d,C,E,J,N⟩:=xC j n .empty B g h;{rw[C];exact aH ji}
  .rw[C,E];simp only[Sem.runT];have hW:bV P Al F π (v.freeze a n) (w.freeze I n):=by
    by_cases hn:n=0;{subst hn;exact j};{exact j.Ae h (N hn).1 ji}
   exact fX.step (fL.OB h ji) J (p s _ _ _ _ hW)
 | @same π a I b T k D hN h h' H p=>rw[bI,bI];obtain⟨hl,L,C,E⟩|⟨t,L,d,C,E,J⟩:=XC j hN h h' B g;{rw[C];exact aH ji};{rw[C,E];exact fX.step (fL.refl v w) J ji}
 | @choose π q k D H p=>
  simp only[Sem.runT];split;{grind}
  .by_cases hl:F.upto v.drawn
   .have e0:w.tape w.drawn=v.tape v.drawn:=j.tape 0 hl;have C:q.cut (w.tape w.drawn q)=q.cut (v.tape v.drawn q):=by{rw[e0]};rw[C];have:=p (q.cut (v.tape v.drawn q)) {v with drawn:=v.drawn+1} {w with drawn:=w.drawn+1} B g ⟨j.ok,j.blk,λk H=>by have:=j.tape (k+1) ji;exact ji,j.fresh,j.low,j.os,j.rows⟩;exact fX.step (v1:={v with drawn:=v.drawn+1}) (w1:={w with drawn:=w.drawn+1}) (d:= #[]) ⟨λ_ _ x=>x,je _,je _,λ_ _ _=>rfl,ji,rfl,rfl,rfl,rfl,rfl,rfl,ji,ji,λ_ _ _=>rfl,ji⟩ j0 j5
   .obtain⟨u,hu⟩:=Mj.1 hl;let⟨Y,hu2⟩:=Classical.not_imp.1 hu;have Z:iy F (cq ((k (q.cut (v.tape v.drawn q))).runT P {v with drawn:=v.drawn+1} B)):=
     ⟨u,Y,Ao (show u<v.drawn+1 from bm) (zAt (k (q.cut (v.tape v.drawn q))) {v with drawn:=v.drawn+1} B)⟩
    have:=p (q.cut (v.tape v.drawn q)) {v with drawn:=v.drawn+1} {w with drawn:=v.drawn+1,tape:=v.tape} B g ⟨j.ok,j.blk,λ_ _=>rfl,j.fresh,j.low,j.os,j.rows⟩;obtain(M|M)|⟨ρ,v1,w1,L,d,g1,g2,g3,g4⟩:=this;{exact aH (aH M)};{exact aH (aI M)}
    .refine aH (aI ⟨Z,?_⟩);obtain⟨a,b,r1,r2,qn⟩|⟨x,K,r1,r2,V⟩:=g4
     .exact aH ji
     .exact aI ji
 | @program π k D G H p=>simp only[Sem.runT];grind
 | @mark π m k D hm H p=>simp only[Sem.runT];have:=p v w (B.push ⟨.mark m,aG,aF⟩) (g.push ⟨.mark m,aG,aF⟩) j;refine fX.step (fL.refl v w) (λe G=> ?_) M0;obtain rfl:=BE G;obtain rfl|⟨f,rfl⟩:=hm;{exact aI ji};{exact aI ji}
 | @env π k D H p=>have hs:∀(u:zW),u.sys .env=(.strings u.os.env,u):=λu=>rfl;simp only[Sem.runT,hs,j.os];have:=p (.strings v.os.env) v w (B.push ⟨.output,aF,aG⟩) (g.push ⟨.output,aF,aG⟩) j;refine fX.step (fL.refl v w) (λe G=> ?_) M0;obtain rfl:=BE G;exact aI ji
 |panic h=>exact aI ⟨_,v,w,B,#[],j,fL.refl v w,j0,j1⟩
 |dead h=>let⟨hl,w1,L,e,E⟩:=h v B;exact aH ji
end
section
variable {P:zZ}{Al:zF}{F:Kp}{α β γ δ:Type}
def aNe {s:Sem α}{f:α->Sem β}(v:zW)(es:zE){hl:Halt}{w:zW}{a:zE}(h:s.runT P v es=(.halt hl w,a)):(s.bind f).runT P v es=(.halt hl w,a):=by have e:=bI (P:=P) (s:=s) (f:=f) v es;rw[h]at e;exact e
def bY.bind {A:Rn->α->β->Prop}{B:Rn->γ->δ->Prop}{π:Rn}{s:Sem α}{s':Sem β}{f:α->Sem γ}{f':β->Sem δ}(ok:Ok P π)(h:bY P Al F A π s s') (l:∀(ρ:Rn) a b,Ok P ρ->(∀x y,π x y->ρ x y)->A ρ a b->bY P Al F B ρ (f a) (f' b)):bY P Al F B π (s.bind f) (s'.bind f'):=by induction h with|pure h=>exact l _ _ _ ok (λ_ _ x=>x) h|load h hk i=>exact .load h ji|store h u hk i=>exact .store h u (i ok l)|new h hk i=>exact .new h ji| @marked π c c' ty k d hC h hk i=>have m:(Sem.new (aJ c ty) λr=>markStringish r>>=λ_=>k r).bind f= .new (aJ c ty) λr=>markStringish r>>=λ_=>(k r).bind f:=by{show Sem.new _ _=Sem.new _ _;congr 1;funext r;exact bind_assoc'};have g:(Sem.new (aJ c' ty) λr=>markStringish r>>=λ_=>d r).bind f'= .new (aJ c' ty) λr=>markStringish r>>=λ_=>(d r).bind f':=by{show Sem.new _ _=Sem.new _ _;congr 1;funext r;exact bind_assoc'};rw[m,g];exact .marked hC h ji|view h hk i=>exact .view h ji|getObj h hk i=>exact .getObj h ji|shape h hk i=>exact .shape h ji|freeze hF h hk i=>exact .freeze hF h (i ok l)|frozen hF h hk i=>exact .frozen hF h ji| @share π a j n k d h hk i=>have m:(loadBytes a .empty n>>=λs=>Go.freeze a n>>=λ_=>k s).bind f=loadBytes a .empty n>>=λs=>Go.freeze a n>>=λ_=>(k s).bind f:=bind_assoc';have g:(loadBytes j .empty n>>=λs=>Go.freeze j n>>=λ_=>d s).bind f'=loadBytes j .empty n>>=λs=>Go.freeze j n>>=λ_=>(d s).bind f':=bind_assoc';rw[m,g];exact .share h ji| @same π a j b q k d z h C hk i=>have m:(sameAddr a b>>=k).bind f=sameAddr a b>>=λt=>(k t).bind f:=bind_assoc';have g:(sameAddr j q>>=d).bind f'=sameAddr j q>>=λt=>(d t).bind f':=bind_assoc';rw[m,g];exact .same z h C ji|choose hk i=>exact .choose ji| @program π k d he hk i=>exact .program ji (i ok l)|mark hm hk i=>exact .mark hm (i ok l)|env hk i=>exact .env ji|panic h=>exact .panic h|dead h=>exact .dead λv p=>let⟨hl,w,o,e,g⟩:=h v p;⟨hl,w,o,aNe v p e,g⟩
end
def Flat (v:zY):Prop:=∀(Al:zF)(π:Rn),bM Al π v v
structure Rl (P:zZ):Prop where
 zero:∀t i z,t<P.types.size->P.info? t=aA i->i.zero=aA z->Flat z
 slice:∀t e,t<P.types.size->P.underlying t=aA (.slice e)->e<P.types.size
 array:∀t n e,t<P.types.size->P.underlying t=aA (.array n e)->e<P.types.size
 pointer:∀t e,t<P.types.size->P.underlying t=aA (.pointer e)->e<P.types.size
abbrev ER {α:Type}:Rn->α->α->Prop:=λ_ a b=>a=b
abbrev VR (Al:zF):Rn->zY->zY->Prop:=λπ a b=>bM Al π a b
abbrev VsR (Al:zF):Rn->zA->zA->Prop:=λπ a b=>bB Al π a b
abbrev AR:Rn->Addr->Addr->Prop:=λπ a b=>bW π a b
section
variable {P:zZ}{Al:zF}{F:Kp}{π:Rn}{α β γ δ:Type}{A:Rn->α->β->Prop} [ok:Ok P π]
theorem aZ {B:Rn->γ->δ->Prop}(A:Rn->α->β->Prop){s:Sem α}{s':Sem β}{f:α->Sem γ}{f':β->Sem δ}(h:bY P Al F A π s s') (c:∀(ρ:Rn) a b,Ok P ρ->(∀x y,π x y->ρ x y)->A ρ a b->bY P Al F B ρ (f a) (f' b)):bY P Al F B π (s>>=f) (s'>>=f'):=bY.bind ok h c
def WR {hl s'}(h:Fatal hl):bY P Al F A π (.halt hl) s':= .dead j1
theorem aT {w s'}:bY P Al F A π (stuck w) s':=WR j0
theorem aU {u:Unsupported}{s':Sem β}(h:∀g,u≠.initOrder g:=by simp):bY P Al F A π (unsupported u) s':=WR j1
theorem aS {a b}(h:A π a b):bY P Al F A π (Pure.pure a) (Pure.pure b):= .pure h
def oO {x a}(h:bM Al π x a):bY P Al F A π (goPanic x) (goPanic a):= .panic h
def gN (q):bY P Al F ER π (choose q) (choose q):= .choose λ_=> .pure rfl
def WM {B:Rn->γ->δ->Prop}{k:zZ->Sem γ}{k':zZ->Sem δ}(a:∀fs,Shape P fs->k' ⟨P.toTables,fs⟩=k' P) (h:∀(ρ:Rn)(p q:zZ),Ok P ρ->(∀x y,π x y->ρ x y)->(p=P/\q=P)->bY P Al F B ρ (k p) (k' q)):bY P Al F B π (program>>=k) (program>>=k'):= .program a (h π P P ok (λ_ _ x=>x) ⟨rfl,rfl⟩)
def bF {B:Rn->γ->δ->Prop}{s s':Sem α}{f:α->Sem γ}{f':α->Sem δ}(h:bY P Al F ER π s s')(b:∀(ρ:Rn) a,Ok P ρ->(∀x y,π x y->ρ x y)->bY P Al F B ρ (f a) (f' a)):bY P Al F B π (s>>=f) (s'>>=f'):=aZ _ h ji
def cA {B:Rn->γ->δ->Prop}{Q:α->Prop}{s s':Sem α}{f:α->Sem γ}{f':α->Sem δ}(h:bY P Al F (λ_ a b=>a=b/\Q a) π s s')(c:∀(ρ:Rn) a,Ok P ρ->(∀x y,π x y->ρ x y)->Q a->bY P Al F B ρ (f a) (f' a)):bY P Al F B π (s>>=f) (s'>>=f'):=aZ _ h ji
def fW {B:Rn->γ->δ->Prop}{k:zZ->Sem γ}{k':zZ->Sem δ}(a:∀fs,Shape P fs->k' ⟨P.toTables,fs⟩=k' P)(h:∀(ρ:Rn),Ok P ρ->(∀x y,π x y->ρ x y)->bY P Al F B ρ (k P) (k' P)):bY P Al F B π (program>>=k) (program>>=k'):= .program a (h π ok λ_ _ x=>x)
def Tl {s s'}(h:∀v es,∃hl w e,s.runT P v es=(.halt hl w,e)/\Fatal hl):bY P Al F A π s s':= .dead h
def bH (t:zD):bY P Al F (λ_ a b=>a=b/\P.underlying t=aA a) π (underlying t) (underlying t):=X0
def eS (t:zD):bY P Al F (λ_ a b=>a=b/\P.info? t=aA a) π (typeInfo t) (typeInfo t):=X0
def cE (t:zD):bY P Al F ER π (sizeOf t) (sizeOf t):=by refine cA (eS t) λb a ok h _=> ?_;exact X4
def PC (t:zD):bY P Al F ER π (isAgg t) (isAgg t):=by refine cA (bH t) λb a ok h _=> ?_;cases a<;>exact aS rfl
def gM (d:Rl P){t:zD}(c:t<P.types.size):bY P Al F (VR Al) π (zeroValue t) (zeroValue t):=by refine cA (eS t) λb a ok e hi=> ?_;cases h:a.zero with|none=>exact aU|some z=>exact aS (d.zero t a z c hi h Al b)
def WO {a a'}(h:bW π a a')(m):bY P Al F (VR Al) π (load a m) (load a' m):= .load h λ_ _ b=> .pure b
def zAw {a a'}(h:bW π a a')(n):∀(i){acc b},bB Al π acc b->bY P Al F (VsR Al) π (loadCellsFrom a i n acc) (loadCellsFrom a' i n b):=by induction n with|zero=>intro i acc b c;exact aS c|succ n d=>intro i acc b c;exact .load (h.add i) λv f e=>d (i+1) (c.push e)
def qV {a a'}(h:bW π a a')(n):bY P Al F (VsR Al) π (loadCells a n) (loadCells a' n):=zAw h n 0 .nil
theorem cC {x a:zY}{l b:zV}(h:bB Al π (x::l).toArray (a::b).toArray):bM Al π x a/\bB Al π l.toArray b.toArray:= ⟨h.at' 0 x a j0 j0,by have:=h.size;exact ji,λi v c e d=>h.at' (i+1) v c ji ji⟩
def lO:∀(l b){a d}(i),bW π a d->bB Al π (zAL l) (zAL b)->bY P Al F ER π (storeCells a l i) (storeCells d b i):=by intro l;induction l with|nil=>{intro b a d i h c;have:=c.size;cases b with|nil=>exact aS rfl|cons _ _=>simp at this}|cons x l e=>intro b a d i h c;cases b with|nil=>have:=c.size;simp at this|cons j b=>let⟨g,f⟩:=cC c;exact .store (h.add i) g (e b (i+1) h f)
theorem FG {a a':Addr}(h:bW π a a')(t:zD):bY P Al F (VR Al) π (loadVar t a) (loadVar t a'):=by refine bF (PC t) λk b ok e=> ?_;cases b with|false=>exact WO (h.mono e) _|true=>refine bF (cE t) λj n ok d=> ?_;refine aZ _ (qV ((h.mono e).mono d) n) ?_;intro i c c' ok g f;exact aS (.agg f.size f.at')
def toArray_toList (c:zA):zAL (zAM c)=c:=j0
def SI {a a':Addr}(h:bW π a a'){x b:zY}(f:bM Al π x b)(t:zD):bY P Al F ER π (storeVar t a x) (storeVar t a' b):=by have d:=f.cells;refine bF (cE t) λg n ok c=> ?_;rw[d.size];by_cases e:x.cells.size=n;{simp only[e,ne_eq,not_true_eq_false,Dh];exact lO _ _ 0 (h.mono c) (by rw[toArray_toList,toArray_toList];exact d.mono c)};.simp only[e,ne_eq,not_false_eq_true,Cx];exact aT
def mK {c c'}(h:bB Al π c c')(ty):bY P Al F AR π (newRow ty c) (newRow ty c'):= .new h λ_ _ _ _ _ a=> .pure ⟨a,rfl,rfl⟩
def xP {x a}(h:bM Al π x a)(ty):bY P Al F AR π (newVar ty x) (newVar ty a):=mK h.cells ty
def uD {c c':zA}(h:bB Al π c c')(t:zD)(off:Nat):bY P Al F (VR Al) π (part t c off) (part t c' off):=by refine bF (PC t) λf b ok d=> ?_;cases b with|true=>refine bF (cE t) λe n ok a=> ?_;have:=((h.mono d).mono a).extract off (off+n);exact aS (.agg this.size this.at')|false=>grind[bB.get,bM.mono,aT,aS]
def eK:bM Al π (.tuple #[]) (.tuple #[]):= .tuple rfl j0
def nE {x a}(h:bM Al π x a):bY P Al F ER π (asIntOf x) (asIntOf a):=by cases h with|int k n=>exact aS rfl|pointer hp=>{cases hp with|none=>exact aT|some _=>exact aU}|_=>exact aT
def oP {x b:zY}(h:bM Al π x b):bY P Al F ER π (asInt x) (asInt b):=by refine bF (nE h) λc a ok d=> ?_;exact X4
def JX {x a}(h:bM Al π x a):bY P Al F ER π (asBool x) (asBool a):=by cases h with|bool b=>exact aS rfl|_=>exact aT
def lN {x a}(h:bM Al π x a):bY P Al F AR π (Instr.sureAddr x) (Instr.sureAddr a):=by cases h with|pointer hp=>{cases hp with|none=>exact aT|some h=>exact aS h}|_=>exact aT
def jL {s:Rn->α->β->Prop}:bY P Al F s π (Il .nilDeref) (Il .nilDeref):=U7
def dI (m:String){s:Rn->α->β->Prop}:bY P Al F s π (Il (.error m)) (Il (.error m)):=U7
theorem zK (x y:Int)(t:Bool)(c:BoundsCode){s:Rn->α->β->Prop}:bY P Al F s π (Il (.bounds x y t c)) (Il (.bounds x y t c)):=by refine fW (λ_ _=>rfl) λd ok f=> ?_;refine oO (.iface _ (.agg rfl ?_));intro i v a h b;have e:v=a:=by{grind};subst e;have:i=0\/i=1\/i=2\/i=3:=by{grind};obtain rfl|rfl|rfl|rfl:=this<;>simp at h<;>subst h<;>constructor
theorem fD (k:IntKind)(x y)(c:BoundsCode){s:Rn->α->β->Prop}:bY P Al F s π (boundsPanic k x y c) (boundsPanic k x y c):=by unfold boundsPanic;split;{refine aZ ER ?_ ?_;{skip;refine aZ ER (gN _) ?_;rintro b a _ ok h rfl;exact X4};grind[zK]};grind[aS,aZ,zK]
def JY {x a}(h:bM Al π x a):bY P Al F AR π (asAddr x) (asAddr a):=by cases h with|pointer hp=>{cases hp with|none=>exact jL|some h=>exact aS h}|_=>exact aT
end
section
variable(P:zZ)(fs:Array Func)
def jY:∀(d:Nat)(t:zD)(off:Nat),byteOfCell ⟨P.toTables,fs⟩ d t off=byteOfCell P d t off
 |0,_,_=>rfl|d+1,t,off=>by unfold byteOfCell;simp only[jY d];rfl
def wV:∀(d:Nat)(t:zD)(off:Nat),cellOfByte ⟨P.toTables,fs⟩ d t off=cellOfByte P d t off
 |0,_,_=>rfl|d+1,t,off=>by unfold cellOfByte;simp only[wV d];rfl
def tZ (d)(e)(c o)(b):cellAtBytes ⟨P.toTables,fs⟩ d e c o b=cellAtBytes P d e c o b:=by unfold cellAtBytes;simp only[jY,wV];rfl
def VZ:∀(d:Nat)(t u:zD),Program.alikeButTags ⟨P.toTables,fs⟩ d t u=P.alikeButTags d t u
 |0,_,_=>rfl|d+1,t,u=>by unfold Program.alikeButTags;simp only[VZ d]
def SF (t):Program.stoodInAs ⟨P.toTables,fs⟩ t=P.stoodInAs t:=by unfold Program.stoodInAs;simp only[VZ];rfl
theorem lM (t):Program.stoodInHeld ⟨P.toTables,fs⟩ t=P.stoodInHeld t:=by unfold Program.stoodInHeld;rw[SF]
theorem tG:∀(d:Nat)(t:zD),Program.holdsStoodIn ⟨P.toTables,fs⟩ d t=P.holdsStoodIn d t
 |0,_=>rfl|d+1,t=>by unfold Program.holdsStoodIn;simp only[tG d,lM];rfl
theorem tX:∀(d:Nat)(t:zD),Program.eqGuardType ⟨P.toTables,fs⟩ d t=P.eqGuardType d t
 |0,_=>rfl|d+1,t=>by unfold Program.eqGuardType;simp only[tX d];rfl
def VX (fits:zD->Bool):∀(d:Nat)(e:zD)(c o n:Nat),rowAt ⟨P.toTables,fs⟩ fits d e c o n=rowAt P fits d e c o n
 |0,_,_,_,_=>rfl|d+1,e,c,o,n=>by unfold rowAt;simp only[VX fits d,lM];rfl
def wU:∀(d:Nat)(t u:zD),sameLayout ⟨P.toTables,fs⟩ d t u=sameLayout P d t u
 |0,_,_=>rfl|d+1,t,u=>by unfold sameLayout;simp only[wU d,lM];rfl
def OY:∀(d:Nat)(e:zD)(c o:Nat)(u:zD)(n:Nat),liesAt ⟨P.toTables,fs⟩ d e c o u n=liesAt P d e c o u n
 |0,_,_,_,_,_=>rfl|d+1,e,c,o,u,n=>by unfold liesAt;simp only[OY d,VX,wU];rfl
end
section
variable {P:zZ}{Al:zF}{F:Kp}{π:Rn}{α β γ δ:Type}{A:Rn->α->β->Prop} [ok:Ok P π]
def fM {r r'}(h:π r r'):bY P Al F ER π (shape r) (shape r'):= .shape h λ_=> .pure rfl
def mL (hF:∀b,¬F b){a a'}(h:bW π a a'):bY P Al F ER π (frozen a) (frozen a'):= .frozen hF h λ_=> .pure rfl
def uG (n):bY P Al F ER π (askRoom n) (askRoom n):=by unfold askRoom;split;{exact .mark (aH rfl) (.pure rfl)};.exact .pure rfl
inductive Zn (π:Rn):Option (Addr×zD)->Option (Addr×zD)->Prop
 |none:Zn π aB aB
 |some {a a':Addr} {t:zD} (h:bW π a a'):Zn π (aA (a,t)) (aA (a',t))
def sM {r r':Nat}(h:π r r'):bY P Al F Zn π (viewAt r) (viewAt r'):=by unfold viewAt;refine bF (fM h) λd s ok b=> ?_;cases s with|some x=>exact aS .none|none=>refine .getObj (b _ _ h) ?_;rintro o f (⟨h1,a⟩|⟨x,e,h1,a,c⟩);{rw[a];cases o with|view x u=>exact absurd rfl (h1.2.1 x u)|_=>exact .pure .none};.cases h1;cases a;cases c with|view h u _=>exact .pure (.some h)|number h l=>exact .pure .none
def oW {a a'}(h:bW π a a'):bY P Al F ER π (noView a) (noView a'):=by refine aZ _ (sM h.1) ?_;intro c s d ok e b;cases b with|none=>exact aS rfl|some _=>exact aU
def wY (hF:∀b,¬F b){a a':Addr}(h:bW π a a'):bY P Al F ER π (stringish a) (stringish a'):=by unfold stringish;refine bF (mL hF h) λf b ok d=> ?_;cases b with|true=>exact aS rfl|false=>refine bF (fM (d _ _ h.1)) λe s ok c=> ?_;cases s with|none=>exact aS rfl|some x=>exact mL hF ⟨c _ _ (d _ _ h.1),rfl,rfl⟩
def AD (hF:∀b,¬F b){a a' b j:Addr}(h:bW π a a')(k:bW π b j):bY P Al F ER π (mayBeOne a b) (mayBeOne a' j):=by
 unfold mayBeOne;dsimp only;have n:∀(d:Rn)(x f:Addr),Ok P d->bW d x f->bY P Al F ER d (do pure ((<-shape x.block) matches aA (_,0))) (do pure ((<-shape f.block) matches aA (_,0))):=by intro d x f ok o;refine bF (fM o.1) λi s ok r=> ?_;exact aS rfl
 refine bF (wY hF h) λd s1 ok c=> ?_;refine bF (wY hF (k.mono c)) λi s2 ok e=> ?_;have p:=(h.mono c).mono e;have m:=(k.mono c).mono e;refine aZ ER (n i _ _ ok p) ?_;rintro l q _ ok g rfl;refine aZ ER (n l _ _ ok (m.mono g)) ?_;grind[aS]
def addr_eq (ok:Ok P π){a a' b c}(h:bW π a a')(k:bW π b c):(a'=c↔a=b):=by have:=ok.inj h.1 k.1;let⟨_,g,f⟩:=h;let⟨_,k2,d⟩:=k;constructor;{intro e;cases a;cases b;exact ji};.intro e;cases a;cases b;cases a';cases c;exact ji
inductive Zo (π:Rn):Option (Addr×Bool)->Option (Addr×Bool)->Prop
 |none:Zo π aB aB
 |some {a a':Addr} {t:Bool} (h:bW π a a'):Zo π (aA (a,t)) (aA (a',t))
def AA {r r':Nat}(h:π r r'):bY P Al F Zo π (numberAt r) (numberAt r'):=by refine bF (fM h) λd s ok b=> ?_;cases s with|some x=>exact aS .none|none=>refine .getObj (b _ _ h) ?_;rintro o f (⟨h1,a⟩|⟨x,e,h1,a,c⟩);{rw[a];cases o with|number x u=>exact absurd rfl (h1.2.2.1 x u)|_=>exact .pure .none};.cases h1;cases a;cases c with|view h u _=>exact .pure .none|number h l=>exact .pure (.some h)
def fN {a a'}(h:bW π a a'):bY P Al F (λb (x y:Addr×Bool)=>bW b x.1 y.1/\x.2=y.2) π (behindNumber a) (behindNumber a'):=by refine aZ _ (AA h.1) ?_;intro b s e ok d c;cases c with|none=>exact aS ⟨h.mono d,rfl⟩|some h=>exact aS ⟨h,rfl⟩
def wG (ok:Ok P π){a a' b c}(h:bW π a a')(k:bW π b c):(a'.block==c.block)=(a.block==b.block):=by have:=ok.inj h.1 k.1;exact ji
theorem CL (ok:Ok P π){a a' b c}(h:bW π a a')(k:bW π b c):(a'==c)=(a==b):=by have:=addr_eq ok h k;exact ji
theorem aMJ (hF:∀b,¬F b){a a' b j:Addr}(h:bW π a a')(k:bW π b j):bY P Al F ER π (sameAddr a b) (sameAddr a' j):=by unfold sameAddr;rw[wG ok h k,CL ok h k];split;{exact X4};.refine bF (mL hF h) λt s1 ok d=> ?_;refine bF (mL hF (k.mono d)) λs s2 ok f=> ?_;have i:=(h.mono d).mono f;have g:=(k.mono d).mono f;split;{exact aU};.refine bF (oW i) λr _ ok c=> ?_;refine bF (oW (g.mono c)) λq _ ok e=> ?_;refine bF (AD hF ((i.mono c).mono e) ((g.mono c).mono e)) λp u ok m=> ?_;split;{refine bF (gN _) λo n ok l=> ?_;exact X4};.exact X4
def SJ (g:F.cmp\/∀b,¬F b){a a' b c:Addr}(h:bW π a a')(k:bW π b c):bY P Al F ER π (sameAddr a b) (sameAddr a' c):=by by_cases d:F.cmp/\∃x,F x;{have:=bY.same (P:=P) (Al:=Al) (A:=ER) (k':=λt=> .pure t) d h k (λt=> .pure rfl);have e:∀(s:Sem Bool),(s>>=λt=> .pure t)=s:=λs=>by{show s.bind _=s;induction s with|pure a=>rfl|halt h=>rfl|_=>rename_i i;simp only[Sem.bind,i]};exact ji};grind[aMJ]
omit ok in
def bY.weaken {A B:Rn->α->β->Prop}{s:Sem α}{s':Sem β}(h:bY P Al F A π s s')(c:∀ρ a b,A ρ a b->B ρ a b):bY P Al F B π s s':=by induction h with|pure h=>exact .pure (c _ _ _ h)|panic h=>exact .panic h|dead h=>exact .dead h|marked hC h _ i=>exact .marked hC h i|_=>constructor<;>assumption
def uF {j S}(z:∀(ρ e) s s',(∀x y,ρ x y->e x y)->S ρ s s'->S e s s'):∀(l d:List γ)(E:Rn->γ->γ->Prop),(∀(ρ e) s s',(∀x y,ρ x y->e x y)->E ρ s s'->E e s s')->zAH d=zAH l->(∀(i:Nat) a b,l[i]? =aA a->d[i]? =aA b->E π a b)->∀(s s':j)(f g:γ->j->Sem (ForInStep j)),S π s s'->(∀(ρ) a b t n,Ok P ρ->(∀x y,π x y->ρ x y)->E ρ a b->S ρ t n->bY P Al F (λρ x y=>(∃u c,x= .yield u/\y= .yield c/\S ρ u c)\/(∃u c,x= .done u/\y= .done c/\S ρ u c)) ρ (f a t) (g b n))->bY P Al F S π (forIn l s f) (forIn d s' g):=by intro l;induction l generalizing π with|nil=>grind[aS]|cons a l r=>intro d E p hl o s s' f g v w;cases d with|nil=>simp at hl|cons b d=>rw[List.forIn_cons,List.forIn_cons];refine aZ _ (w π a b s s' ok (λ_ _ x=>x) (o 0 a b j0 j0) v) ?_;intro ρ x y q h k;obtain⟨u,c,rfl,rfl,m⟩|⟨u,c,rfl,rfl,m⟩:=k;{exact r d E p ji (λi a b C B=>p π ρ a b h (o (i+1) a b j5 j5)) u c f g m ji};{exact aS m}
theorem AG (op:BinOp)(k:IntKind)(x y):bY P Al F (VR Al) π (Op.intArith op k x y) (Op.intArith op k x y):=by unfold Op.intArith;exact F8
theorem zBg (op:BinOp)(k:IntKind)(x y):bY P Al F (VR Al) π (Op.intDiv op k x y) (Op.intDiv op k x y):=by unfold Op.intDiv;split;{exact dI _};.exact F8
theorem FI (op:BinOp)(k:IntKind)(x y):bY P Al F (VR Al) π (Op.intBits op k x y) (Op.intBits op k x y):=by unfold Op.intBits;exact F8
def zFh (op:BinOp)(k:IntKind)(x)(a:IntKind)(y):bY P Al F (VR Al) π (Op.shift op k x a y) (Op.shift op k x a y):=by unfold Op.shift;split;{exact dI _};.exact F8
theorem zGc (op:BinOp)(x y):bY P Al F (VR Al) π (Op.intCmp op x y) (Op.intCmp op x y):=by unfold Op.intCmp;cases op<;>first|exact aS (.bool _)|exact aT
def yZ (op:BinOp)(x y):bY P Al F (VR Al) π (Op.stringOp op x y) (Op.stringOp op x y):=by
 unfold Op.stringOp;cases op<;>dsimp only<;>first|exact aS (.bool _)|exact aT|skip
 by_cases h:((x.size+y.size:Nat):Int)>IntKind.i64.max
 .rw[AE h];exact aU
 .rw[AF h];exact aS (.string _)
def fP {a a':Addr}(h:bW π a a'):bY P Al F ER π (byteOf a) (byteOf a'):=by unfold byteOf;rw[h.2.2];cases c:a.spot with|some s=>exact aS rfl|none=>refine fW (λj _=>by simp only[jY];rfl) λi ok c=> ?_;refine bF (oW (h.mono c)) λg _ ok b=> ?_;refine bF (fM (b _ _ (c _ _ h.1))) λf s ok d=> ?_;cases s with|none=>exact aT|some x=>let⟨e,n⟩:=x;dsimp only;rw[h.2.1];grind[aT,aS]
def rP {c}(l:Array γ)(s:c)(f f':γ->c->Sem (ForInStep c)) (e:∀(ρ) a t,a∈l.toList->Ok P ρ->(∀x y,π x y->ρ x y)->bY P Al F ER ρ (f a t) (f' a t)):bY P Al F ER π (forIn l s f) (forIn l s f'):=by rw[<-NT,<-NT];refine uF ji (zAM l) (zAM l) (λ_ a b=>a=b/\a∈l.toList) ji rfl ji s s f f' rfl ?_;rintro ρ a _ t _ ok d ⟨rfl,hm⟩ rfl;have:=e ρ a t hm ok d;exact bY.weaken this λc x y h=>by subst h;cases x<;>grind
def zBo (t:zD){a a' b j:Addr}(c:bW π a a')(d:bW π b j):bY P Al F ER π
  (do
   let(a,b):=((<-behindNumber a).1,(<-behindNumber b).1)
   if a.block==b.block&&a.block<(<-program).globals.size then return(<-byteOf a)==(<-byteOf b)
   let .named "sync.copyChecker" _:=(<-typeInfo t).desc|unsupported .addressObserved
   if a==b then pure aF else unsupported .addressObserved)
  (do
   let(a,b):=((<-behindNumber a').1,(<-behindNumber j).1)
   if a.block==b.block&&a.block<(<-program).globals.size then return(<-byteOf a)==(<-byteOf b)
   let .named "sync.copyChecker" _:=(<-typeInfo t).desc|unsupported .addressObserved
   if a==b then pure aF else unsupported .addressObserved):=by
 refine aZ _ (fN c) ?_;rintro v ⟨a,q⟩ ⟨a',_⟩ ok o ⟨c,rfl⟩;refine aZ _ (fN (d.mono o)) ?_;rintro u ⟨b,q⟩ ⟨j,_⟩ ok g ⟨d,rfl⟩;replace c:=c.mono g;dsimp only at c d⊢;refine fW (λ_ _=>rfl) λs ok f=> ?_;replace c:=c.mono f;replace d:=d.mono f;have p:decide (a'.block<P.globals.size)=decide (a.block<P.globals.size):=by
  by_cases h:a.block<P.globals.size;{have:=ok.base c.1 bm;grind}
  .by_cases w:a'.block<P.globals.size
   .have:=ok.base c.1 bm;exact bm
   exact ji
 rw[wG ok c d,CL ok c d,p];split
 .refine bF (fP c) λk n ok e=> ?_;refine bF (fP (d.mono e)) λr m ok l=> ?_;exact X4
 .refine cA (eS t) λk i ok e _=> ?_;grind[aU,aS]
def Basic (P:zZ)(t:zD):Prop:=P.underlying t=aA .bool\/(∃k,P.underlying t=aA (.int k))\/P.underlying t=aA .string
def vD (P:zZ)(t:zD)(x y:zY):Prop:=(∃e,P.underlying t=aA (.pointer e))/\∀a b,x= .pointer (aA a)->y= .pointer (aA b)->a.block=b.block
def WK [ok:Ok P π] {a a' b c}(h:bW π a a')(k:bW π b c)(e:a.block=b.block):bY P Al F ER π (sameAddr a b) (sameAddr a' c):=by have d:=(ok.inj h.1 k.1).1 e;unfold sameAddr;simp only[e,d,BEq.rfl,Cx];grind[CL,aS]
def EO (P:zZ):Nat->zD->Prop
 |0,_=>True|d+1,t=>match P.underlying t with|some (.struct a)=>∀f∈a.toList,EO P d f.type|some .bool|some .string|some (.int _)|some (.pointer _)|some (.slice _)=>True|_=>False
def FK:∀(d:Nat){π:Rn} [Ok P π] (t:zD){x C y B:zY},EO P d t->((F.cmp\/∀b,¬F b)\/Basic P t\/vD P t x y)->bM Al π x C->bM Al π y B->bY P Al F ER π (Op.equalIn d t x y) (Op.equalIn d t C B):=by intro d;induction d with|zero=>intro π ok t x C y B D K o i;exact aU|succ d U=>intro π ok t x C y B D K o i;refine cA (bH t) λρ u ok L V=> ?_;unfold EO at D;rw[V]at D;replace o:=o.mono L;replace i:=i.mono L;have J:u≠.bool->(∀k,u≠.int k)->u≠.string->(∀e,u≠.pointer e)->F.cmp\/∀b,¬F b:=λQ O N M=>K.resolve_right λh=>by{obtain(h|⟨k,h⟩|h)|⟨⟨e,h⟩,_⟩:=h;{grind};all_goals grind};cases u with|bool=>{cases o<;>first|exact aT|(cases i<;>first|exact aT|exact aS rfl)}|string=>{cases o<;>first|exact aT|(cases i<;>first|exact aT|exact aS rfl)}|int k=>{cases o with|int k a=>{cases i with|int T b=>grind[aS,aT]|pointer hp=>{cases hp with|none=>exact aU|some _=>by_cases X:a=0;{subst X;exact aS rfl};.rename_i b Z _;have e1:∀(z:Addr),(match TypeDesc.int k,Value.int k a,Value.pointer (aA z)with| .int _,.int _ 0,.pointer (aA _)=>(0:Nat)|_,_,_=>1)=1:=by{exact ji};cases a with|ofNat n=>{cases n with|zero=>grind|succ n=>exact aU}|negSucc n=>exact aU}|_=>exact aT}|pointer hp=>{cases hp with|none=>grind[aU]|some l=>cases i with|pointer p=>{cases p with|none=>exact aU|some j=>exact zBo t l j}|int T b=>{cases b with|ofNat n=>{cases n with|zero=>exact aS rfl|succ n=>exact aU}|negSucc n=>exact aU}|_=>exact aU}|_=>cases i<;>first|exact aT|exact aU}|pointer e=>{have g:(F.cmp\/∀b,¬F b)\/vD P t x y:=K.imp id λh=>h.resolve_left λh=>by{obtain h|⟨k,h⟩|h:=h;all_goals grind};cases o with|pointer hp=>{cases i with|pointer p=>{cases hp with|none=>cases p<;>exact aS rfl|some l=>cases p with|none=>exact aS rfl|some j=>refine bF (cE e) λS n ok v=> ?_;replace l:=l.mono v;replace j:=j.mono v;rw[CL ok l j];split;{obtain g|g:=g;{exact SJ g l j};.exact WK l j (g.2 _ _ rfl rfl)};.split;{exact X4};.refine bF (gN _) λR n ok q=> ?_;exact X4}|_=>cases hp<;>exact aT}|_=>exact aT}|struct Y=>{have g:=J j0 j0 j0 j0;cases o with|agg Q O=>{cases i with|agg N M=>refine fW (by grind[lM]) λS ok q=> ?_;split;{exact aU};.refine aZ ER (rP Y _ _ _ ?_) ?_;{intro R f st w ok s;have G:=((bB.mk Q O).mono q).mono s;have E:=((bB.mk N M).mono q).mono s;split;{refine aZ _ (uD G f.type f.offset) ?_;intro υ a a' ok I l;refine aZ _ (uD (E.mono I) f.type f.offset) ?_;intro φ b Z ok H j;refine bF (U f.type (D f w) (aH g) (l.mono H) j) λχ r ok W=> ?_;grind[aS]};.exact X4};grind[aS]|_=>exact aT}|_=>exact aT}|slice e=>{cases o with|slice hp n c=>{cases i with|slice p m c'=>{cases hp with|none=>cases p<;>exact aS rfl|some l=>cases p with|none=>exact aS rfl|some j=>exact aT}|void=>{cases hp<;>first|exact aS rfl|exact aT}|_=>cases hp<;>exact aT}|void=>{cases i with|slice p m c'=>{cases p<;>first|exact aS rfl|exact aT}|_=>exact aT}|_=>exact aT}|_=>exact ji
end
def bz {P α t d}(h:P.underlying t=aA d)(f:TypeDesc->Sem α)(v)(es):(underlying t>>=f).runT P v es=(f d).runT P v es:=by show Sem.runT P (Sem.bind (match P.underlying t with|some d=>pure d|none=>stuck "no such type") f) v es=_;rw[h];rfl
def sE {α:Type}(P:zZ)(s:Sem α):Prop:=∀v a,∃hl w e,s.runT P v a=(.halt hl w,e)/\Fatal hl
theorem xY {P α w}:sE P (stuck w:Sem α):=λ_ _=>j1
def xX {P:zZ}{α:Type}{u:Unsupported}(h:∀g,u≠.initOrder g:=by simp):sE P (unsupported u:Sem α):=λ_ _=>j1
def uJ {P α γ t d}(h:P.underlying t=aA d)(f:TypeDesc->Sem α)(k:α->Sem γ)(v)(es):((underlying t>>=f)>>=k).runT P v es=(f d>>=k).runT P v es:=by show Sem.runT P (Sem.bind (Sem.bind (match P.underlying t with|some d=>pure d|none=>stuck "no such type") f) k) v es=_;rw[h];rfl
def zAs {P Al F π γ β A t}(h:EO P Op.maxDepth t)(z y)(k:Bool->Sem γ){s':Sem β}:bY P Al F A π ((Op.equal t (.func (.method "") #[.iface 1000000 .nilIface] #[z]) y)>>=k) s':= .dead λv e=>by obtain⟨m,a⟩:∃m,Op.maxDepth=m+1:=⟨Op.maxDepth-1,rfl⟩;unfold Op.equal;rw[a]at h⊢;unfold EO at h;unfold Op.equalIn;cases hu:P.underlying t with|none=>simp_all|some d=>rw[uJ hu];rw[hu]at h;cases d<;>first|grind|exact⟨_,_,_,rfl,j0⟩|(cases y<;>first|simp_all|(rename_i q;cases q<;>exact⟨_,_,_,rfl,j0⟩))
section
variable {P:zZ}{Al:zF}{F:Kp}{π:Rn}{α β γ δ:Type}{A:Rn->α->β->Prop} [ok:Ok P π]
def wZ:∀(d:Nat){π:Rn} [Ok P π] (t:zD){x e y c:zY},EO P d t->bM Al π x e->bM Al π y c->bY P Al F ER π (Op.eqGuardIn d t x y) (Op.eqGuardIn d t e c):=by intro d;induction d with|zero=>intro π ok t x e y c k j i;exact aU|succ d s=>intro π ok t x e y c k j i;unfold Op.eqGuardIn;refine cA (bH t) λL u ok q v=> ?_;unfold EO at k;rw[v]at k;replace j:=j.mono q;replace i:=i.mono q;cases u with|struct G=>{cases j with|agg h1 E=>{cases i with|agg D C=>refine aZ ER (rP G _ _ _ ?_) ?_;{intro K f st g ok h;have m:=(bB.mk h1 E).mono h;have l:=(bB.mk D C).mono h;split;{refine aZ _ (uD m f.type f.offset) ?_;intro J a N ok o B;refine aZ _ (uD (l.mono o) f.type f.offset) ?_;intro I b M ok n z;refine bF (s f.type (k f g) (B.mono n) z) λH r ok w=> ?_;split<;>exact aS rfl};.exact X4};grind[aS]|junk _ p=>{cases c<;>first|exact p.elim|exact aS rfl}|_=>exact X4}|junk _ p=>{cases e<;>first|exact p.elim|exact aS rfl}|_=>exact X4}|_=>grind[aS]
def WU (op:BinOp)(t:zD)(h:(op= .eql\/op= .neq)->EO P Op.maxDepth t)(x y:Operand){a a' b c:zY}(l:bM Al π a a')(j:bM Al π b c):bY P Al F ER π (eqGuard op t x y a b) (eqGuard op t x y a' c):=by
 have main:EO P Op.maxDepth t->bY P Al F ER π (eqGuard .eql t x y a b) (eqGuard .eql t x y a' c):=by
  intro h;unfold eqGuard;cases l;case junk _ d=>cases a'<;>first|exact d.elim|exact aS rfl
  all_goals first
   |exact aS rfl
   |(cases j
     case junk _ d=>cases c<;>first|exact d.elim|exact aS rfl
     all_goals first|exact aS rfl|skip)
  .have k:bY P Al F ER π (do if<-Op.eqGuardIn Op.maxDepth t .nilIface .nilIface then unsupported (.noEntry "binop/eql: two nil values of an interface type with methods, neither of them the literal nil")) (do if<-Op.eqGuardIn Op.maxDepth t .nilIface .nilIface then unsupported (.noEntry "binop/eql: two nil values of an interface type with methods, neither of them the literal nil")):=by
    refine bF (wZ _ t h .nilIface .nilIface) λe r ok i=> ?_;grind[aS,aU]
   grind[aS]
  .rename_i p o _ _ n m;refine fW (by grind[tX]) λe ok i=> ?_;refine fW (λ_ _=>rfl) λs ok g=> ?_;split
   .exact X4
   .refine bF (wZ _ t h ((bM.agg p o).mono ji) ((bM.agg n m).mono ji)) λq r ok f=> ?_;grind[aS,aU]
 cases op with
 |eql=>grind
 |neq=>exact main (h (aI rfl))
 |_=>exact X4
def aM4 (ok:Ok P π){b c}(h:π b c):(c≥P.globals.size↔b≥P.globals.size):=by constructor;{intro d;obtain a|a:=Gn b P.globals.size;{have:=ok.base h bm;exact bm};.exact a};.intro d;obtain a|a:=Gn c P.globals.size;{have:=ok.base h bm;exact bm};.exact a
def wX {a a' b e:Addr}(h:bW π a a')(c:bW π b e):bY P Al F ER π (Op.twoPlaces a b) (Op.twoPlaces a' e):=by unfold Op.twoPlaces;refine fW (λ_ _=>rfl) λl ok f=> ?_;replace h:=h.mono f;replace c:=c.mono f;have i:(a'.block !=e.block||decide (a'.block≥P.globals.size))=(a.block !=b.block||decide (a.block≥P.globals.size)):=by{have p:=wG ok h c;have o:decide (a'.block≥P.globals.size)=decide (a.block≥P.globals.size):=by{simp only[aM4 ok h.1]};grind};rw[i];split;{exact aU};.refine bF (fP h) λk n ok d=> ?_;refine bF (fP (c.mono d)) λj m ok g=> ?_;exact X4
theorem WX (k:IntKind){a a' b c:Addr}(d:bW π a a')(h:bW π b c):bY P Al F (VR Al) π (Op.addrSub k a b) (Op.addrSub k a' c):=by unfold Op.addrSub;refine bF (wX d h) λe x ok f=> ?_;exact aS (.int _ _)
theorem WY (op:BinOp){a a' b c:Addr}(d:bW π a a')(h:bW π b c):bY P Al F (VR Al) π (Op.addrCmp op a b) (Op.addrCmp op a' c):=by unfold Op.addrCmp;refine bF (wX d h) λe x ok f=> ?_;dsimp only;cases op<;>first|exact aS (.bool _)|exact aU
theorem uH (k:IntKind){a a':Addr}(b:bW π a a')(n:Int):bY P Al F (VR Al) π (Op.addrMod k a n) (Op.addrMod k a' n):=by unfold Op.addrMod;refine bF (fM b.1) λj s ok d=> ?_;cases s with|none=>exact aU|some x=>let⟨e,m⟩:=x;dsimp only;refine cA (eS e) λg i ok h _=> ?_;split;{exact aU};{refine bF (fP ((b.mono d).mono h)) λf n ok c=> ?_;exact aS (.int _ _)}
def aD9 (ρ:Rn)(v v':zY):Prop:=∃p a,v= .pointer p/\v'= .pointer a/\yE ρ p a
def uC (at_:Array zD)(t:zD){x g y f:zY}(l:bM Al π x g)(i:bM Al π y f):bY P Al F aD9 π (Builtin.unsafeAdd_ at_ t #[x,y]) (Builtin.unsafeAdd_ at_ t #[g,f]):=by unfold Builtin.unsafeAdd_;cases l with|pointer hp=>{cases hp with|none=>refine bF (oP i) λk n ok c=> ?_;dsimp only;split;{exact aU};split<;>exact aU| @some a C b=>refine bF (oP i) λk n ok c=> ?_;dsimp only;split;{refine aZ _ (sM (c _ _ b.1)) ?_;intro j s w ok h r;cases r with|none=>exact aS ⟨_,_,rfl,rfl,.some ((b.mono c).mono h)⟩|some _=>exact aU};.split;{exact aU};.refine bF (fM (c _ _ b.1)) λj s ok h=> ?_;cases s with|none=>exact aU|some z=>let⟨e,m⟩:=z;dsimp only;refine WM (λB _=>by simp only[tZ];rfl) ?_;rintro v p q ok d ⟨hp,u⟩;rw[hp,u,b.2.1];cases cellAtBytes P P.depth e (m/P.cellsOf e) a.off n with|none=>exact aU|some o=>exact aS ⟨_,_,rfl,rfl,.some ⟨d _ _ (h _ _ (c _ _ b.1)),rfl,b.2.2⟩⟩}|_=>exact aT
def qT (at_)(t){x b y a}(d:bM Al π x b)(c:bM Al π y a):bY P Al F (VR Al) π (Builtin.unsafeAdd_ at_ t #[x,y]) (Builtin.unsafeAdd_ at_ t #[b,a]):=(uC at_ t d c).weaken λ_ _ _ ⟨_,_,e,f,h⟩=>by rw[e,f];exact .pointer h
def uB (t)(z y){s'}:bY P Al F (VR Al) π (Builtin.unsafeAdd_ #[] t #[(.func (.method "") #[.iface 1000000 .nilIface] #[z]),y]) s':=by exact aT
def kJ (t:zD){x d y c:zY}(e:bM Al π x d)(h:bM Al π y c):bY P Al F (VR Al) π (movedNumber t x y) (movedNumber t d c):=by
 unfold movedNumber;refine cA (bH t) λi u ok j _=> ?_;replace e:=e.mono j;replace h:=h.mono j;have k:bY P Al F (VR Al) i (do
   let .pointer (aA n):=x|Builtin.unsafeAdd_ #[] t #[x,y]
   let(a,lost)<-behindNumber n
   match<-Builtin.unsafeAdd_ #[] t #[.pointer (aA a),y]with
   | .pointer (aA b)=>asNumber b lost
   |v=>pure v) (do
   let .pointer (aA n):=d|Builtin.unsafeAdd_ #[] t #[d,c]
   let(a,lost)<-behindNumber n
   match<-Builtin.unsafeAdd_ #[] t #[.pointer (aA a),c]with
   | .pointer (aA b)=>asNumber b lost
   |v=>pure v):=by
  have l:=qT (P:=P) (F:=F) #[] t e h
  cases e with
  |pointer hp=>
   cases hp with
   |none=>exact l
   |some g=>
    refine aZ _ (fN g) ?_;rintro s ⟨a,q⟩ ⟨B,_⟩ ok f ⟨g,rfl⟩;refine aZ _ (uC #[] t (.pointer (.some g)) (h.mono f)) ?_;rintro p v w ok m ⟨_,_,rfl,rfl,hp⟩;cases hp with
    |none=>exact aS (.pointer .none)
    |some hb=>exact .view (.number hb q) λi r z _ _ o=> .pure (.pointer (.some ⟨o,rfl,rfl⟩))
  |junk|same=>exact uB t _ _
  |_=>exact l
 cases u<;>first|exact aU|exact k
def rO (t:zD){x b y a:zY}(c:bM Al π x b)(h:bM Al π y a):bY P Al F (VR Al) π (movedPointer t x y) (movedPointer t b a):=by have f:=qT (P:=P) (F:=F) #[] t c h;unfold movedPointer;cases c with|pointer hp=>{cases hp with|none=>exact f|some e=>refine aZ _ (AA e.1) ?_;intro i s j ok d g;cases g with|none=>exact qT #[] t (.pointer (.some (e.mono d))) (h.mono d)|some _=>exact aU}|junk|same=>exact uB t _ _|_=>exact f
def zEs (op:BinOp)(t:zD){x B y l:zY}(R:(op= .eql\/op= .neq)->EO P Op.maxDepth t)(U:(F.cmp\/∀b,¬F b)\/(op≠.eql/\op≠.neq)\/Basic P t\/vD P t x y)(v:bM Al π x B)(i:bM Al π y l):bY P Al F (VR Al) π (binOp op t x y) (binOp op t B l):=by
 have e:op= .eql->bY P Al F (VR Al) π (do pure (.bool (<-Op.equal t x y))) (do pure (.bool (<-Op.equal t B l))):=λE=>by refine bF (FK _ t ji ji v i) λf r ok w=> ?_;exact aS (.bool _)
 have h:op= .neq->bY P Al F (VR Al) π (do pure (.bool (!(<-Op.equal t x y)))) (do pure (.bool (!(<-Op.equal t B l)))):=λE=>by refine bF (FK _ t ji ji v i) λf r ok w=> ?_;exact aS (.bool _)
 have O:=kJ (P:=P) (F:=F) t v i;have N:=rO (P:=P) (F:=F) t v i;have G:=kJ (P:=P) (F:=F) t i v;have both:∀{a o b I:Addr},bW π a o->bW π b I->∀(g:Addr->Addr->Sem zY),(∀(f:Rn)(c c' d L:Addr),Ok P f->bW f c c'->bW f d L->bY P Al F (VR Al) f (g c d) (g c' L))->
   bY P Al F (VR Al) π (do g (<-behindNumber a).1 (<-behindNumber b).1) (do g (<-behindNumber o).1 (<-behindNumber I).1):=by
  intro a o b I s j g Q
  refine aZ _ (fN s) ?_
  rintro f ⟨a,q⟩ ⟨o,_⟩ ok w ⟨s,rfl⟩
  refine aZ _ (fN (j.mono w)) ?_
  grind[bW.mono]
 have one:∀{a o:Addr},bW π a o->∀(g:Addr->Sem zY),(∀(f:Rn)(c c':Addr),Ok P f->bW f c c'->bY P Al F (VR Al) f (g c) (g c'))->
   bY P Al F (VR Al) π (do g (<-behindNumber a).1) (do g (<-behindNumber o).1):=by
  intro a o s g Q
  refine aZ _ (fN s) ?_
  exact ji
 cases v with
 |int k a=>
  cases i with
  |int M b=>
   unfold binOp;cases op;all_goals
    dsimp only
    first
    |exact zFh _ _ _ _ _
    |(by_cases K:k≠M
      .rw[AE K];exact aT
      .rw[AF K];grind[zGc,zBg,FI,AG])
  |pointer hp=>
   cases op<;>first|exact e rfl|exact h rfl|exact G|skip
   all_goals
    cases hp with
    |none=>exact aU
    |some j=>
     first
     |exact one j (λc=>Op.addrMod k c (a+1)) (λf c c' ok H=>uH _ H _)
     |exact aU
  |junk C m=>cases l<;>first|exact m.elim|(cases op<;>first|exact e rfl|exact h rfl|exact aT)
  |_=>exact U5
 |string a=>
  cases i with
  |string b=>have:=yZ (P:=P) (Al:=Al) (F:=F) (π:=π) op a b;cases op<;>exact this
  |pointer hp=>cases op<;>first|exact e rfl|exact h rfl|exact aU
  |junk C m=>cases l<;>first|exact m.elim|(cases op<;>first|exact e rfl|exact h rfl|exact aT)
  |_=>exact U5
 | @pointer p J hp=>
  cases i with
  |int k n=>
   have z:bY P Al F (VR Al) π (do if(<-underlying t) matches .unsafePointer then movedPointer t (.pointer p) (.int k n)else movedNumber t (.pointer p) (.int k n)) (do if(<-underlying t) matches .unsafePointer then movedPointer t (.pointer J) (.int k n)else movedNumber t (.pointer J) (.int k n)):=by refine cA (bH t) λf u ok w _=> ?_;cases u<;>first|exact rO t (.pointer (hp.mono w)) (.int k n)|exact kJ t (.pointer (hp.mono w)) (.int k n)
   cases op<;>first|exact e rfl|exact h rfl|exact z|exact kJ t (.pointer hp) (.int k (-n))|skip
   all_goals
    cases hp with
    |none=>exact aU
    |some j=>
     first
     |exact one j (λc=>Op.addrMod k c n) (by grind[uH])
     |exact one j (λc=>Op.addrMod k c (n+1)) (λf c c' ok H=>uH _ H _)
     |exact aU
  |pointer D=>
   cases hp with
   |none=>cases D<;>cases op<;>first|exact e rfl|exact h rfl|exact aU
   |some s=>
    cases D with
    |none=>cases op<;>first|exact e rfl|exact h rfl|exact aU
    |some j=>have T:=both s j (λc d=>Op.addrSub aR c d) (by grind[WX]);have S:=both s j (λc d=>Op.addrCmp op c d) (by grind[WY]);cases op<;>first|exact e rfl|exact h rfl|exact T|exact S|exact aU
  |junk C m=>cases l<;>first|exact m.elim|(cases hp<;>cases op<;>first|exact e rfl|exact h rfl|exact aU)
  |_=>cases hp<;>cases op<;>first|exact e rfl|exact h rfl|exact aU
 |junk C m=>cases i;all_goals cases op<;>first|exact zAs (R j0) _ _ _|exact aT|exact aU
 |_=>
  cases i with
  |pointer D=>cases op<;>first|exact e rfl|exact h rfl|exact aU
  |junk C m=>cases l<;>first|exact m.elim|(cases op<;>first|exact e rfl|exact h rfl|exact aT)
  |_=>exact U5
def zFk (op:UnOp){x a}(h:bM Al π x a):bY P Al F (VR Al) π (Op.unary op x) (Op.unary op a):=by cases h with|int k n=>{cases op with|neg=>exact AG (π:=π) .sub k 0 n|xor=>exact FI (π:=π) .xor k (if k.signed then-1 else k.max) n|_=>exact aT}|bool b=>{cases op<;>first|exact aS (.bool _)|exact aT}|pointer hp=>{cases hp<;>cases op<;>first|exact aU|exact aT}|_=>cases op<;>exact aT
def xK (Al:zF)(π:Rn):List (Nat×zY)->List (Nat×zY)->Prop
 |[],[]=>True|x::l,a::b=>a.1=x.1/\bM Al π x.2 a.2/\xK Al π l b|_,_=>False
omit ok in
def xK.mono {ρ:Rn}(h:∀b c,π b c->ρ b c):∀{l a:List (Nat×zY)},xK Al π l a->xK Al ρ l a
 |[],[],_=>trivial|_::_,_::_,⟨h1,e,d⟩=>⟨h1,e.mono h,xK.mono h d⟩
omit ok in
def Wy (off):∀(l a:List (zY×Nat)){c c'},a.map (·.2)=l.map (·.2)->bB Al π (zAL (l.map (·.1))) (zAL (a.map (·.1)))->bB Al π c c'->bB Al π (l.foldl (λcs x=>zAI cs (off+x.2) x.1) c) (a.foldl (λcs x=>zAI cs (off+x.2) x.1) c'):=by intro l;induction l with|nil=>simp_all|cons x l i=>intro a c c' h b d;cases a with|nil=>simp at h|cons g a=>simp only[List.map_cons,List.cons.injEq]at h;simp only[List.map_cons]at b;let⟨f,e⟩:=cC b;simp only[List.foldl_cons];rw[h.1];exact i a h.2 e (d.set f _)
omit ok in
def ME (place:Nat->Option (Nat×Nat)):∀(l a){c c'},xK Al π l a->bB Al π c c'->(Instr.fill place c l=aB/\Instr.fill place c' a=aB)\/∃d j,Instr.fill place c l=aA d/\Instr.fill place c' a=aA j/\bB Al π d j:=by intro l;induction l with|nil=>{intro a c c' h b;cases a with|nil=>exact aI ⟨c,c',rfl,rfl,b⟩|cons _ _=>exact h.elim}|cons x l n=>intro a c c' h b;cases a with|nil=>exact h.elim|cons k a=>let⟨i,v⟩:=x;let⟨o,m⟩:=k;let⟨g,f,q⟩:=h;simp only at g f;subst g;unfold Instr.fill;cases place o with|none=>grind|some p=>let⟨off,size⟩:=p;dsimp only;have e:=f.cells;rw[e.size,b.size];split;{grind};{refine n a q ?_;rw[<-aL5,<-aL5,aL6,aL6];have:=Wy off v.cells.toList.zipIdx m.cells.toList.zipIdx (by simp[List.zipIdx_map_snd,e.size]) j1 b;exact this}
def zFy (fs:Array Field):bY P Al F ER π (fs.mapM λf=>do pure (f.offset,<-sizeOf f.type)) (fs.mapM λf=>do pure (f.offset,<-sizeOf f.type)):=by
 rw[Nc];refine aZ ER ?_ ?_
 .induction (zAM fs) generalizing π with
  |nil=>exact aS rfl
  |cons f l i=>rw[List.mapM_cons];refine aZ ER ?_ ?_;{refine bF (cE _) λa n ok h=> ?_;exact aS rfl};{rintro a x _ ok h rfl;refine aZ ER i ?_;grind[aS]}
 .rintro a x _ ok h rfl;exact X4
def zEw (q:Rl P){t:zD}(m:t<P.types.size){k p:Array (Nat×zY)}(h:xK Al π (zAM k) (zAM p)):bY P Al F (VR Al) π (Instr.build t k) (Instr.build t p):=by unfold Instr.build;refine aZ _ (gM q m) ?_;intro w z x ok o j;refine cA (bH t) λv u ok c _=> ?_;replace j:=j.mono c;replace h:=(h.mono o).mono c;cases u with|struct r=>refine bF (zFy r) λl places ok a=> ?_;obtain⟨b,g⟩|⟨d,s,b,g,f⟩:=ME (places[·]?) _ _ (h.mono a) (j.mono a).cells;{rw[b];exact aT};{rw[b,g];exact aS (.agg f.size f.at')}|array n e=>refine bF (cE e) λl size ok a=> ?_;obtain⟨b,g⟩|⟨d,s,b,g,f⟩:=ME (λi=>aA (i*size,size)) _ _ (h.mono a) (j.mono a).cells;{rw[b];exact aT};{rw[b,g];exact aS (.agg f.size f.at')}|_=>exact aT
omit ok in
theorem CR {c c'}(h:bB Al π c c')(n):bB Al π ((Mc n).map (c[·%c.size]!)) ((Mc n).map (c'[·%c'.size]!)):=by refine⟨j0,λi a b f e=> ?_⟩;rw[Hk]at f e;obtain⟨x,k,rfl⟩:=Gh.1 f;obtain⟨y,d,rfl⟩:=Gh.1 e;rw[k]at d;cases d;rw[h.size];obtain⟨j,g⟩|⟨v,l,j,g,m⟩:=h.get (x%c.size);{simp only[getElem!_def,j,g];exact .bool aG};exact ji
def zDf (o:Rl P){t:zD}(s:t<P.types.size)(len:Nat){j p:Array (Nat×zY)}(h:xK Al π (zAM j) (zAM p)):bY P Al F (VR Al) π (Instr.buildSlice t len j) (Instr.buildSlice t len p):=by
 unfold Instr.buildSlice;refine cA (bH t) λE u ok w r=> ?_;cases u with
 |slice e=>
  refine bF (cE e) λn size ok l=> ?_;dsimp only;by_cases hl:len*size>2^24;{rw[AE hl];exact aU}
  .rw[AF hl,AF hl];have tail:∀(b:Rn)(z f:zA),Ok P b->(∀x y,n x y->b x y)->bB Al b z f->
     bY P Al F (VR Al) b (do
      let aA cells:=Instr.fill (λi=>aA (i*size,size)) ((Mc (len*size)).map (z[·%z.size]!)) j.toList|stuck "buildSlice: a part of the wrong size"
      pure (.slice (aA (<-newRow e cells)) len len)) (do
      let aA cells:=Instr.fill (λi=>aA (i*size,size)) ((Mc (len*size)).map (f[·%f.size]!)) p.toList|stuck "buildSlice: a part of the wrong size"
      pure (.slice (aA (<-newRow e cells)) len len)):=by
    intro b z f ok c k
    obtain⟨m,q⟩|⟨d,G,m,q,C⟩:=ME (λi=>aA (i*size,size)) _ _ (((h.mono w).mono l).mono c) (CR k (len*size))
    .rw[m];exact aT
    .rw[m,q];refine aZ _ (mK C e) ?_;intro D a H ok v B;exact aS (.slice (.some B) _ _)
   by_cases g:len*size=0;{rw[AE g,AE g];exact tail n #[] #[] ok (λ_ _ x=>x) .nil};{rw[AF g,AF g];refine aZ _ (gM o (o.slice t e s r)) ?_;intro b z f ok c k;exact tail b _ _ ok c k.cells}
 |_=>exact aT
def WS {x a}(h:bM Al π x a)(i):bY P Al F (VR Al) π (Instr.extract x i) (Instr.extract a i):=by cases h with|tuple h1 b=>unfold Instr.extract;grind[bB.get,aS,aT]|_=>exact aT
inductive mD (Al:zF)(π:Rn):Option zY->Option zY->Prop
 |none:mD Al π aB aB
 |some {x x':zY} (h:bM Al π x x'):mD Al π (aA x) (aA x')
omit ok in
theorem mD.mono {ρ}(h:∀b c,π b c->ρ b c){x a}(k:mD Al π x a):mD Al ρ x a:=by cases k with|none=>exact .none|some k=>exact .some (k.mono h)
def zDv {x a:zY}(h:bM Al π x a)(n:Nat)(c:BoundsCode):bY P Al F ER π (Instr.sliceBound x n c) (Instr.sliceBound a n c):=by refine bF (nE h) λb ⟨k,i⟩ ok d=> ?_;grind[fD,aS]
def kI (b:Bool)(len cap:Nat){l c h d m a:Option zY}(hl:mD Al π l c)(hh:mD Al π h d)(f:mD Al π m a): bY P Al F ER π (Instr.sliceBounds b len cap l h m) (Instr.sliceBounds b len cap c d a):=by unfold Instr.sliceBounds;dsimp only;cases f<;>cases hh<;>cases hl;all_goals repeat first|exact aT|exact aS rfl|refine bF (aS rfl) λ_ _ ok e=> ?_|refine bF (zDv O0 _ _) λ_ _ ok e=> ?_
def zBk {x d:zY}(h:bM Al π x d)(c:BoundsCode):bY P Al F (λ_ a b=>a=0/\b=0) π (Instr.sliceBound x 0 c) (Instr.sliceBound d 0 c):=by refine bF (nE h) λe ⟨k,i⟩ ok f=> ?_;grind[aS,fD]
def aMe {l d h e m c:Option zY}(hl:mD Al π l d)(hh:mD Al π h e)(g:mD Al π m c): bY P Al F (λ_ p q=>q=p/\p.1=0/\p.2.1=0/\p.2.2=0) π (Instr.sliceBounds aF 0 0 l h m) (Instr.sliceBounds aF 0 0 d e c):=by unfold Instr.sliceBounds;dsimp only;cases g<;>cases hh<;>cases hl;all_goals repeat first|exact aT|exact aS ji|(refine aZ (λ_ a b=>a=0/\b=0) (aS ⟨rfl,rfl⟩) ?_;rintro _ _ _ ok f ⟨rfl,rfl⟩)|(refine aZ _ (zBk O0 _) ?_;rintro _ _ _ ok f ⟨rfl,rfl⟩)
theorem zFi (t:zD){x B:zY}(g:bM Al π x B){l C h D m q:Option zY}(hl:mD Al π l C)(hh:mD Al π h D)(i:mD Al π m q): bY P Al F (VR Al) π (Instr.slice t x l h m) (Instr.slice t B C D q):=by have w:q.isSome=m.isSome:=by{cases i<;>rfl};refine cA (bH t) λJ u ok o _=> ?_;replace g:=g.mono o;replace hl:=hl.mono o;replace hh:=hh.mono o;replace i:=i.mono o;cases u with|string=>{cases g with|string s=>dsimp only;rw[w];split;{exact aT};{refine bF (kI aG _ _ hl hh .none) λp ⟨a,b,c⟩ ok f=> ?_;exact aS (.string _)}|_=>exact aT}|slice e=>{cases g with|slice hp n c=>{refine bF (kI aF _ _ hl hh i) λp ⟨a,b,c⟩ ok f=> ?_;refine bF (cE e) λz size ok d=> ?_;refine aS (.slice ?_ _ _);have j:=(hp.mono f).mono d;split;{exact j};.cases j with|none=>exact .none|some y=>exact .some (y.add _)}|void G a0=>refine aZ _ (aMe hl hh i) ?_;rintro p ⟨a,b,c⟩ _ ok f ⟨rfl,E⟩;refine bF (cE e) λz size ok d=> ?_;obtain⟨rfl,rfl,rfl⟩:=E;exact aS (.void G a0)|_=>exact aT}|pointer arr=>{refine aZ _ (JY g) ?_;intro p a L ok f y;refine cA (bH arr) λz u ok d _=> ?_;cases u with|array n e=>refine bF (kI aG _ _ ((hl.mono f).mono d) ((hh.mono f).mono d) ((i.mono f).mono d)) λI ⟨K,h1,m1⟩ ok v=> ?_;refine bF (cE e) λH size ok r=> ?_;refine aS (.slice ?_ _ _);have k:=((y.mono d).mono v).mono r;split;{exact .some k};{exact .some (k.add _)}|_=>exact aT}|_=>cases g<;>exact aT
def WJ (t:zD){x i:zY}(p:bM Al π x i){l k h o m j:Option zY}(hl:mD Al π l k)(hh:mD Al π h o)(q:mD Al π m j): bY P Al F (VR Al) π (Instr.sliceAt t x l h m) (Instr.sliceAt t i k o j):=by refine cA (bH t) λy u ok d _=> ?_;cases u with|array n e=>refine aZ _ (lN (p.mono d)) ?_;intro w a B ok b r;refine bF (kI aG _ _ ((hl.mono d).mono b) ((hh.mono d).mono b) ((q.mono d).mono b)) λv ⟨z,h1,m1⟩ ok g=> ?_;refine bF (cE e) λs size ok f=> ?_;refine aS (.slice ?_ _ _);have c:=(r.mono g).mono f;split;{exact .some c};{exact .some (c.add _)}|_=>grind[mD.mono,zFi,bM.mono]
theorem zDw {a a':Addr}(e:bW π a a')(n m:Nat):bY P Al F AR π (partAt a n m) (partAt a' n m):=by refine bF (fP e) λg b ok i=> ?_;have f:bW g {block:=a.block,off:=a.off+n} {block:=a'.block,off:=a'.off+n}:=⟨i _ _ e.1,by simp[e.2.1],rfl⟩;refine bF (fP f) λj c ok d=> ?_;refine aS ?_;have h:=f.mono d;split;{exact h};.exact⟨h.1,h.2.1,rfl⟩
def WQ (t:zD){x s y r:zY}(h:bM Al π x s)(v:bM Al π y r):bY P Al F (VR Al) π (Instr.indexAt t x y) (Instr.indexAt t s r):=by
 refine bF (nE v) λB ⟨k,i⟩ ok w=> ?_;replace h:=h.mono w;have tail:∀(f:Rn)(base b:zO)(len:Nat)(e:zD),Ok P f->(yE f base b\/len=0/\∃a p,base=aA a/\b=aA p)->bY P Al F (VR Al) f
   (do
    let d:=len<=1&&(match<-underlying t with| .array .. =>aF|_=>aG)
    match base with
    |some a=>
     if 0<=i/\i<len then pure (.pointer (aA (a.add (i.toNat*(<-sizeOf e)))))
     else if d then unsupported (.noEntry "op/indexAddr.an index out of range at an array of length 0 or 1 (ledger 616)")
     else boundsPanic k i len .index
    |none=>boundsPanic k i 0 .index)
   (do
    let d:=len<=1&&(match<-underlying t with| .array .. =>aF|_=>aG)
    match b with
    |some a=>
     if 0<=i/\i<len then pure (.pointer (aA (a.add (i.toNat*(<-sizeOf e)))))
     else if d then unsupported (.noEntry "op/indexAddr.an index out of range at an array of length 0 or 1 (ledger 616)")
     else boundsPanic k i len .index
    |none=>boundsPanic k i 0 .index):=by
  intro f base b len e ok m
  refine cA (bH t) λq u ok g _=> ?_
  obtain m|⟨rfl,a,p,rfl,rfl⟩:=m
  rotate_left
  .have l:¬(0<=i/\i<((0:Nat):Int)):=bm;simp only[AF l];grind[aU,fD]
  cases m with
  |none=>exact fD _ _ _ _
  |some o=>dsimp only;by_cases l:0<=i/\i<(len:Int);{rw[AE l,AE l];refine bF (cE e) λz n ok j=> ?_;exact aS (.pointer (.some (((o.mono g).mono j).add _)))};{simp only[AF l];grind[aU,fD]}
 refine cA (bH t) λf u ok g _=> ?_;replace h:=h.mono g;cases u with
 |array len e=>refine aZ _ (lN h) ?_;intro q a p ok j o;exact tail q _ _ len e ok (aH (.some o))
 |slice e=>
  cases h with
  |slice hp n c=>exact tail f _ _ n e ok (aH hp)
  |void C a0=>exact tail f _ _ 0 e ok (aI ⟨rfl,_,_,rfl,rfl⟩)
  |_=>exact aT
 |_=>cases h<;>exact aT
def zEx (t:zD){x g y f:zY}(h:bM Al π x g)(j:bM Al π y f):bY P Al F (VR Al) π (Instr.index t x y) (Instr.index t g f):=by refine bF (nE j) λq ⟨k,i⟩ ok l=> ?_;replace h:=h.mono l;refine cA (bH t) λp u ok d _=> ?_;replace h:=h.mono d;cases u with|array len e=>{cases h with|agg h1 m=>dsimp only;by_cases a:0<=i/\i<(len:Int);{rw[AE a,AE a];refine bF (cE e) λo n ok c=> ?_;exact uD ((bB.mk h1 m).mono c) _ _};{rw[AF a,AF a];exact fD _ _ _ _}|_=>exact aT}|string=>{cases h with|string s=>{dsimp only;cases(if 0<=i then s[i.toNat]? else aB)with|none=>exact fD _ _ _ _|some b=>exact aS (.int _ _)}|_=>exact aT}|_=>cases h<;>exact aT
def zAu (hF:∀b,¬F b){a a':Addr}(h:bW π a a'):bY P Al F ER π (markStringish a) (markStringish a'):=by refine bF (fM h.1) λc s ok d=> ?_;cases s with|none=>exact aS rfl|some x=>exact .freeze hF (show bW c (a.block,x.2) (a'.block,x.2)from⟨d _ _ h.1,rfl,rfl⟩) (.pure rfl)
omit ok in
def MS (d:Array UInt8):bB Al π (d.map λb=>(.int aQ b.toNat:zY)) (d.map λb=>(.int aQ b.toNat:zY)):=by refine⟨rfl,λi v c a h=> ?_⟩;rw[a]at h;cases h;rw[Hk]at a;obtain⟨x,_,rfl⟩:=Gh.1 a;exact .int _ _
def yY (hF:(∀b,¬F b)\/¬F.cmp)(e:zD)(s:ByteArray):bY P Al F (VR Al) π (Conv.stringToBytes e s) (Conv.stringToBytes e s):=by refine bF (gN _) λg n ok m=> ?_;obtain hF|hC:=hF;rotate_left;{have:=bY.marked (P:=P) (Al:=Al) (π:=g) (ty:=e) (k':=λr=>Sem.pure (Value.slice r s.size n)) hC ((MS s.data).append (bB.replicate (.int aQ 0) (n-s.size))) λc r i o d j=> .pure (show bM Al c _ _ from bM.slice (.some (show bW c r i from⟨j,rfl,rfl⟩)) _ _);exact this};refine aZ _ (mK ((MS s.data).append (bB.replicate (.int aQ 0) _)) e) ?_;intro c a p ok d f;refine bF (zAu hF f) λk _ ok h=> ?_;exact aS (.slice (.some (f.mono h)) _ _)
def zGg {a a':Addr}(h:bW π a a'):bY P Al F AR π (Conv.seenAt a) (Conv.seenAt a'):=by refine aZ _ (sM h.1) ?_;intro l s m ok i g;cases g with|none=>exact aS (h.mono i)| @some b o u hb=>dsimp only;rw[h.2.1,h.2.2,hb.2.2];split;{exact aS hb};.split;{exact aU};.refine fW (λn _=>by simp only[jY,tZ];rfl) λk ok d=> ?_;cases byteOfCell P P.depth u a.off with|none=>exact aU|some β=>refine bF (fM (d _ _ hb.1)) λj s ok f=> ?_;cases s with|none=>exact aU|some z=>let⟨e,cells⟩:=z;dsimp only;split;{exact aU};.rw[hb.2.1];cases cellAtBytes P P.depth e (cells/P.cellsOf e) b.off β with|none=>exact aU|some c=>exact aS ⟨f _ _ (d _ _ hb.1),rfl,rfl⟩
def tI {a a':Addr}(h:bW π a a')(u:zD)(n:Nat):bY P Al F ER π (variablesAt a u n) (variablesAt a' u n):=by refine fW (λf _=>by simp only[OY];rfl) λe ok b=> ?_;refine bF (fM (b _ _ h.1)) λd s ok c=> ?_;rw[h.2.1];grind[aS]
def aAv (P:zZ)(src dst e:zD):Prop:=mA P e/\(P.underlying src=aA (.pointer e)/\P.underlying dst=aA .unsafePointer\/P.underlying src=aA .unsafePointer/\P.underlying dst=aA (.pointer e))
def yX {src dst e:zD}(u:aAv P src dst e){x l:zY}(m:bM Al π x l):
  bY P Al F (VR Al) π (Conv.unsafePointer src dst x) (Conv.unsafePointer src dst l):=by
 refine cA (bH src) λE u1 ok q k=> ?_;refine cA (bH dst) λQ u2 ok p i=> ?_;replace m:=(m.mono q).mono p;have mk:∀{j:Rn}{s t:Addr},bW j s t->bY P Al F (VR Al) j (do pure (.pointer (<-newObj (.view s e),0))) (do pure (.pointer (<-newObj (.view t e),0))):=λh=>
  .view (.view h e u.1) λC r R _ _ K=> .pure (.pointer (.some ⟨K,rfl,rfl⟩))
 obtain⟨y,w⟩|⟨y,w⟩:=u.2<;>cases k.symm.trans y<;>cases i.symm.trans w<;>cases m<;>first|exact aT|(rename_i L;cases L<;>first|exact aS (.pointer .none)|skip)
 all_goals
  rename_i d
  refine aZ _ (zGg d) ?_
  intro O a T ok J d
 .refine bF (by
    have v:=d.1;refine bF (fM v) λE s ok q=> ?_;cases s with
    |some z=>exact aS rfl
    |none=>
     refine .getObj (q _ _ v) ?_;rintro o S (⟨k,i⟩|⟨x,l,k,i,M⟩);{rw[i];cases o<;>exact .pure rfl}
     .cases k;cases i;cases M<;>exact .pure rfl) λD c ok f=> ?_
  rw[d.2.1,d.2.2];refine bF (cE e) λj n ok g=> ?_;have d:=(d.mono f).mono g;cases c<;>dsimp only<;>split<;>first|exact mk d|exact aS (.pointer (.some d))
 .refine bF (cE e) λD n ok f=> ?_;refine bF (tI (d.mono f) e 1) λj b ok g=> ?_;have d:=(d.mono f).mono g;split
  .exact aS (.pointer (.some d))
  refine bF (fM d.1) λC s ok I=> ?_;cases s with
  |none=>exact aU
  |some z=>refine fW (by grind[tG]) λN ok H=> ?_;refine fW (λ_ _=>rfl) λB ok G=> ?_;split;{exact aU};grind[bW.mono]
inductive It (P:zZ)(F:Kp)(src dst:zD):Prop
 |int {a b:IntKind} (h1:P.underlying src=aA (.int a)) (h2:P.underlying dst=aA (.int b))
 |tob {e:zD} (h1:P.underlying src=aA .string) (h2:P.underlying dst=aA (.slice e)) (h3:P.underlying e=aA (.int aQ)) (hF:(∀b,¬F b)\/¬F.cmp)
 |ofb {e:zD} (h1:P.underlying src=aA (.slice e)) (h2:P.underlying dst=aA .string) (h3:P.underlying e=aA (.int aQ))
 |up {e:zD} (h:aAv P src dst e)
def WV {src dst:zD}(t:It P F src dst){x l:zY}(d:bM Al π x l):bY P Al F (VR Al) π (convert src dst x) (convert src dst l):=by
 refine cA (bH src) λC u1 ok z p=> ?_;refine cA (bH dst) λq u2 ok i o=> ?_;replace d:=(d.mono z).mono i;cases t with
 |int f g=>cases p.symm.trans f;cases o.symm.trans g;cases d<;>first|exact aS (.int _ _)|grind[aU]|exact aU
 | @tob e f g g3 hF=>
  cases p.symm.trans f;cases o.symm.trans g;cases d<;>first|grind[aU]|(rename_i h _ _;cases h<;>exact aU)|exact aU|skip
  refine cA (bH e) λB u ok j y=> ?_;cases y.symm.trans g3;exact yY hF e _
 | @ofb e f g g3=>
  cases p.symm.trans f;cases o.symm.trans g;have D:bY P Al F (VR Al) q (do match<-underlying e with| .int aQ=>Conv.bytesToString x| .int .i32=>Conv.runesToString x|_=>stuck "Convert: a slice of what to string?") (do match<-underlying e with| .int aQ=>Conv.bytesToString l| .int .i32=>Conv.runesToString l|_=>stuck "Convert: a slice of what to string?"):=by
   refine cA (bH e) λB u ok j y=> ?_;cases y.symm.trans g3;cases(d.mono j)with
   |slice hp n c=>
    cases hp with
    |none=>exact aS (.string _)
    |some E=>
     refine aZ _ (qV E n) ?_;intro C c c' ok z t;refine aZ ER ?_ ?_
     .rw[<-NT,<-NT];refine uF ji (zAM c) (zAM c') (VR Al) (λ_ _ _ _ h k=>k.mono h) (by simp[t.size]) (by grind[bB.at']) _ _ _ _ rfl ?_;rintro q a b s _ ok i w rfl;cases w with
      |int k m=>cases k<;>first|exact aT|exact aS ji
      |_=>exact aT
     .rintro q s _ ok i rfl;exact aS (.string _)
   |void H a0=>exact aS (.string _)
   |_=>exact aT
  cases d<;>first|exact aS (.string _)|exact D|exact .dead (λv G=>by rw[bz g3];exact xY v G)
 |up h=>have r:=yX (F:=F) h d;obtain⟨f,g⟩|⟨f,g⟩:=h.2<;>cases p.symm.trans f<;>cases o.symm.trans g<;>cases d<;>exact r
def JQ (ts:Array zD)(t:zD){b a:zA}(h:bB Al π b a):bY P Al F (VR Al) π (Builtin.len_ ts t b) (Builtin.len_ ts t a)/\bY P Al F (VR Al) π (Builtin.cap_ ts t b) (Builtin.cap_ ts t a):=by unfold Builtin.len_ Builtin.cap_;obtain⟨d,c⟩|⟨x,k,d,c,f⟩:=h.get 0<;>cases ts[0]? <;>rw[d]<;>try{grind[aT]};rw[c];constructor;all_goals refine cA (bH _) λj u ok l _=> ?_;cases u with|pointer arr=>{refine cA (bH arr) λi u ok g _=> ?_;cases u<;>first|exact aT|exact aS (.int _ _)}|array n e=>exact aS (.int _ _)|_=>cases f<;>first|exact aT|exact aS (.int _ _)
def xQ {x d}(h:bM Al π x d):bY P Al F (λ_ a b=>a=b/\∀p c,x= .slice p 0 c->a=0) π (Builtin.lenOf x) (Builtin.lenOf d):=by cases h with|slice hp n c=>exact aS ji|void e a0=>exact aS ji|string s=>exact aS ji|_=>exact aT
def JU (size){x a}(h:bM Al π x a):bY P Al F (λ_ d f=>d= #[]/\f= #[]) π (Builtin.firstCells size 0 x) (Builtin.firstCells size 0 a):=by cases h with|slice hp n c=>{cases hp with|none=>exact aS ⟨rfl,rfl⟩|some g=>unfold Builtin.firstCells;rw[He];exact aS ⟨rfl,rfl⟩}|void i a0=>unfold Builtin.firstCells;rw[He];exact aS ⟨rfl,rfl⟩|string s=>have e:(s.extract 0 0).data.map (λb=>(.int aQ b.toNat:zY))= #[]:=j0;exact aS ⟨e,e⟩|_=>exact aT
theorem oX (size n){x b}(d:∀a c,x= .slice a 0 c->n=0)(h:bM Al π x b):bY P Al F (VsR Al) π (Builtin.firstCells size n x) (Builtin.firstCells size n b):=by cases h with|slice hp m c=>{cases hp with|none=>exact aS .nil|some e=>exact qV e _}|void f a0=>have:=d _ _ rfl;subst this;unfold Builtin.firstCells;rw[He];exact aS .nil|string s=>exact aS (MS _)|_=>exact aT
def Tm (ts:Array zD)(t:zD){j g:zA}(h:bB Al π j g):bY P Al F (VR Al) π (Builtin.copy_ ts t j) (Builtin.copy_ ts t g):=by unfold Builtin.copy_;cases ts[0]? with|none=>grind[bB.get,aT]|some t=>obtain⟨l,q⟩|⟨x,G,l,q,o⟩:=h.get 0;{rw[l];exact aT};obtain⟨f1,f2⟩|⟨y,E,f1,f2,i⟩:=h.get 1;{rw[l,f1];exact aT};rw[l,q,f1,f2];refine cA (bH t) λD u ok p _=> ?_;replace o:=o.mono p;replace i:=i.mono p;cases u with|slice e=>{cases o with|slice hp n c=>{refine cA (xQ i) λv m ok f J=> ?_;refine bF (cE e) λs size ok b=> ?_;have z:∀a c,y= .slice a 0 c->Nat.min m n=0:=ji;refine aZ _ (oX size _ z ((i.mono f).mono b)) ?_;intro r d K ok k H;cases hp with|none=>exact aS (.int _ _)|some B=>refine bF (lO _ _ 0 (((B.mono f).mono b).mono k) j5) λC _ ok w=> ?_;exact aS (.int _ _)}|void I a0=>refine bF (by cases i<;>first|exact aT|exact aS rfl) λv m ok f=> ?_;refine bF (cE e) λs size ok b=> ?_;rw[show Nat.min m 0=0 from Nat.min_zero m];refine aZ _ (JU size ((i.mono f).mono b)) ?_;rintro r _ _ ok k ⟨rfl,rfl⟩;exact aS (.int _ _)|_=>exact aT}|_=>exact aT
omit ok in
theorem qO {c c'}(h:bB Al π c c')(n):bB Al π (Builtin.zeroCells c n) (Builtin.zeroCells c' n):=by unfold Builtin.zeroCells;grind[bB.size,CR]
def Tk {x d y c:zY}(e:bM Al π x d)(h:bM Al π y c):bY P Al F (VR Al) π (Builtin.min2 x y) (Builtin.min2 d c):=by cases e with|int k n=>{cases h with|int o m=>exact aS (.int _ _)|pointer hp=>{cases hp<;>first|exact aT|exact aU}|_=>exact aT}|string s=>{cases h with|string t=>refine aZ _ (yZ .leq s t) ?_;intro j v l ok p f;refine bF (JX f) λi b ok g=> ?_;exact aS (.string _)|pointer hp=>{cases hp<;>first|exact aT|exact aU}|_=>exact aT}|pointer hp=>{cases hp<;>cases h<;>first|exact aU|exact aT|(rename_i a;cases a<;>first|exact aU|exact aT)}|_=>cases h<;>first|exact aT|(rename_i a;cases a<;>first|exact aU|exact aT)
def bn (ts)(t){b a}(h:bB Al π b a):bY P Al F (VR Al) π (Builtin.min_ ts t b) (Builtin.min_ ts t a):=by unfold Builtin.min_;have hl:∀(l c:zV){π:Rn} [Ok P π] {x d:zY},bM Al π x d->bB Al π (zAL l) (zAL c)->bY P Al F (VR Al) π (l.foldlM Builtin.min2 x) (c.foldlM Builtin.min2 d):=by{intro l;induction l with|nil=>{intro c π ok x d f h;cases c with|nil=>exact aS f|cons _ _=>have:=h.size;simp at this}|cons y l m=>intro c π ok x d f h;cases c with|nil=>have:=h.size;simp at this|cons k c=>let⟨i,n⟩:=cC h;rw[List.foldlM_cons,List.foldlM_cons];refine aZ _ (Tk f i) ?_;grind[bB.mono]};have g:bB Al π (zAL (zAM b)) (zAL (zAM a)):=by{assumption};cases e:zAM b with|nil=>exact aT|cons x l=>cases j:zAM a with|nil=>rw[e,j]at g;have:=g.size;simp at this|cons d c=>grind[cC]
def Calm (P:zZ)(s:Sem α):Prop:=∀v b,(∃a w e,s.runT P v b=(.ok a w,e))\/∃hl w e,s.runT P v b=(.halt hl w,e)/\Fatal hl
omit ok in
def Calm.dead {s}{f:α->Sem β}(h:Calm P s)(c:∀a,sE P (f a)):sE P (s>>=f):=by intro v d;rw[bI];obtain⟨a,w,b,e⟩|⟨hl,w,b,e,g⟩:=h v d;{rw[e];exact c a w b};exact j1
omit ok in
theorem Calm.bind {s}{f:α->Sem β}(h:Calm P s)(c:∀a,Calm P (f a)):Calm P (s>>=f):=by intro v d;rw[bI];obtain⟨a,w,b,e⟩|⟨hl,w,b,e,g⟩:=h v d;{rw[e];exact c a w b};exact j1
omit ok in
theorem sE.bind {s}{f:α->Sem β}(h:sE P s):sE P (s>>=f):=by intro v b;rw[bI];let⟨hl,w,a,e,c⟩:=h v b;exact j1
omit ok in
theorem RB (a:α):Calm P (pure a:Sem α):=λv e=>j1
omit ok in
def zDc (r):Calm P (shape r):=λv e=>j1
omit ok in
def zBv (a):Calm P (frozen a):=λv e=>j1
omit ok in
theorem tK (a)(n):Calm P (Builtin.holdsCells a n):=by refine(zDc _).bind λs=> ?_;cases s<;>exact RB _
omit ok in
def aMC (size s n)(base)(x):Calm P (Builtin.mayShare size s n base x):=by
 have second:∀there:Bool,Calm P (do
   if !there then return aF
   match x with
   | .slice (aA b) _ _=>do pure (!(<-Builtin.holdsCells b (n*size))||base.any (·.block==b.block))
   |_=>pure aG):=by
  grind[Calm.bind,RB,tK]
 cases base with
 |none=>exact second aF
 |some a=>refine(tK _ _).bind λb=> ?_;exact(zBv _).bind ji
def Cg (e:zD)(size n:Nat)(z:Bool)(x:zY):Sem (zA):=
 if !z then Builtin.firstCells size n x else if n*size=0 then pure #[]else do pure (Builtin.zeroCells (<-zeroValue e).cells n)
def Tc (e:zD)(s d size n:Nat)(z:Bool)(base:zO)(x:zY):Sem zY:=do
 let b:=s+n
 if b<=d then
  let new<-Cg e size n z x
  if let aA a:=base then storeCells (a.add (s*size)) (zAM new)
  pure (.slice base b d)
 else
  if(b:Int)>IntKind.i64.max/\(z\/(<-typeInfo e).bytes=0)then Il (.error "growslice: len out of range")
  if Builtin.nextslicecap b d*(<-typeInfo e).bytes>2^48 then(if z then Il (.error "growslice: len out of range")else do
   if !(<-Builtin.mayShare size s n base x)then mark .noRoom
   unsupported (.resourceLimit "append: a slice or a string whose bytes no memory bears"))
  let c<-choose (.appendCap b d e)
  askRoom (c*(<-typeInfo e).bytes)
  let old<-Builtin.firstCells size s (.slice base s d)
  let new<-Cg e size n z x
  let rest:=Builtin.zeroCells (<-zeroValue e).cells (c-b)
  pure (.slice (aA (<-newRow e (old++new++rest))) b c)
def oY (J:Rl P){e:zD}(H:e<P.types.size){base k:zO}(s g size n:Nat)(w:bM Al π (.slice base s g) (.slice k s g))(f:Bool){x t:zY}(T:bM Al π x t)(S:f=aG->∀a c,x= .slice a 0 c->n=0): bY P Al F (VR Al) π (Tc e s g size n f base x) (Tc e s g size n f k t):=by unfold Tc;have l:∀(m:Rn),Ok P m->(∀a b,π a b->m a b)->bY P Al F (VsR Al) m (Cg e size n f x) (Cg e size n f t):=by{intro m ok r;unfold Cg;split;{grind[bM.mono,oX]};.split;{exact aS .nil};.refine aZ _ (gM J H) ?_;grind[bM.cells,qO,aS]};by_cases G:s+n<=g;{simp only[AE G];cases w with|void Y a0=>obtain rfl:n=0:=by{omega};have Z:bY P Al F (λ_ d D=>d= #[]/\D= #[]) π (Cg e size 0 f x) (Cg e size 0 f t):=by{unfold Cg;split;{exact JU size T};{rw[AE (He _)];exact aS ⟨rfl,rfl⟩}};refine aZ _ Z ?_;rintro m _ _ ok r ⟨rfl,rfl⟩;exact aS (.void Y a0)|slice w=>refine aZ _ (l π ok λ_ _ h=>h) ?_;intro m d D ok r I;cases w with|none=>exact aS (.slice .none _ _)|some y=>refine bF (lO _ _ 0 ((y.mono r).add _) j5) λQ _ ok q=> ?_;exact aS (.slice (.some ((y.mono r).mono q)) _ _)};.simp only[AF G];refine cA (eS e) λm i ok r _=> ?_;by_cases L:((s+n:Nat):Int)>IntKind.i64.max/\(f=aF\/i.bytes=0);{simp only[AE L];exact dI _};.simp only[AF L];refine cA (eS e) λQ j ok q _=> ?_;by_cases K:Builtin.nextslicecap (s+n) g*j.bytes>2^48;{simp only[AE K];cases f with|true=>exact dI _|false=>refine Tl (sE.bind ?_);rw[AF j0];refine(aMC _ _ _ _ _).dead λb=> ?_;cases b<;>exactλv es=>j1};.simp only[AF K];refine bF (gN _) λτ u ok W=> ?_;refine cA (eS e) λO j' ok E _=> ?_;refine bF (uG _) λN _ ok V=> ?_;have sub:∀a b,π a b->N a b:=ji;refine aZ _ (oX size s ji (w.mono sub)) ?_;intro M o o' ok C X;refine aZ _ (l M ok λa b h=>C _ _ (sub _ _ h)) ?_;intro χ d D ok B I;refine aZ _ (gM J H) ?_;intro ψ z z' ok p R;refine aZ _ (mK ((((X.mono B).mono p).append (I.mono p)).append (qO R.cells _)) e) ?_;intro ω a a' ok U y;exact aS (.slice (.some y) _ _)
def xR (t:zD):bY P Al F (λ_ a b=>a=b/\P.underlying t=aA (.pointer a)) π (elemOf t) (elemOf t):=by refine cA (bH t) λc u ok d h=> ?_;grind[aT,aS]
def zDs:∀(n){π} [Ok P π] {a b}(acc),bW π a b->bY P Al F ER π (Extern.Bytes.loadBytes a n acc) (Extern.Bytes.loadBytes b n acc):=by intro n;induction n with|zero=>intro π ok a b acc h;exact aS rfl|succ n i=>intro π ok a b acc h;refine aZ _ (WO h _) ?_;intro e v f ok d c;cases c with|int k m=>{cases k<;>first|exact aT|exact i _ ((h.mono d).add 1)}|_=>exact aT
def FM {x a}(h:bM Al π x a):bY P Al F ER π (Extern.Bytes.bytesOf x) (Extern.Bytes.bytesOf a):=by cases h with|string s=>exact aS rfl|slice hp n c=>{cases hp with|none=>exact aS rfl|some b=>exact zDs _ _ b}|void d a0=>exact aS rfl|_=>exact aT
def rL {a x}(h:bB Al π a x):(∃l b:zV,a=zAL l/\x=zAL b/\bB Al π (zAL l) (zAL b)):=⟨zAM a,zAM x,by simp,by simp,by assumption⟩
def zAx (ts:Array zD)(t:zD){d c:zA}(h:bB Al π d c):bY P Al F (VR Al) π (Builtin.unsafeString_ ts t d) (Builtin.unsafeString_ ts t c):=by obtain⟨l,k,rfl,rfl,h⟩:=rL h;have a:=h.size;match l,k with|[],[]=>exact aT|[x],[j]=>cases(cC h).1<;>exact aT|[x,y],[j,u]=>{have g:=(cC h).1;have v:=(cC (cC h).2).1;cases g with|pointer hp=>{refine bF (oP v) λC n ok m=> ?_;cases ts[0]? with|none=>exact aT|some pt=>by_cases r:n<0;{simp only[AE r];exact dI _};.simp only[AF r];by_cases q:n>IntKind.i64.max;{simp only[AE q];exact aU};.simp only[AF q];cases hp with|none=>dsimp only;split;{exact aS (.string _)};{exact dI _}|some o=>by_cases p:n=0;{simp only[AE p];exact aS (.string _)};.simp only[AF p];refine cA (xR pt) λB e ok f _=> ?_;refine bF (tI ((o.mono m).mono f) e n.toNat) λw b ok i=> ?_;split;{exact .share (((o.mono m).mono f).mono i) λs=> .pure (.string s)};.exact aU}|_=>exact aT}|x::y::z::l,j::u::D::k=>have g:=(cC h).1;cases g<;>exact aT|[],_::_=>simp at a|[_],[]=>simp at a|[_],_::_::_=>simp at a|[_,_],[]=>simp at a|[_,_],[_]=>simp at a|[_,_],_::_::_::_=>simp at a|_::_::_::_,[]=>simp at a|_::_::_::_,[_]=>simp at a|_::_::_::_,[_,_]=>simp at a
def sL (ts:Array zD)(t:zD)(a:Addr)(n c:Nat):Builtin.unsafeSliceData_ ts t #[.slice (aA a) n c]=(if c≠0 then pure (.pointer (aA a))else do
  if(<-viewAt a.block).isSome then pure (.pointer (aA a))else pure (.pointer (<-newObj (.view a (<-elemOf t)),0))):=rfl
def FL {e d:zA}(h:bB Al π e d):bY P Al F (VR Al) π (Extern.BytealgCompare.compare e) (Extern.BytealgCompare.compare d):=by obtain⟨l,g,rfl,rfl,h⟩:=rL h;have c:=h.size;match l,g with|[],[]=>exact aT|[x],[f]=>exact aT|[x,y],[f,i]=>have k:=(cC h).1;have j:=(cC (cC h).2).1;refine bF (FM k) λp a ok n=> ?_;refine bF (FM (j.mono n)) λo b ok m=> ?_;exact aS (.int _ _)|x::y::z::l,f::i::q::g=>exact aT|[],_::_=>simp at c|[_],[]=>simp at c|[_],_::_::_=>simp at c|[_,_],[]=>simp at c|[_,_],[_]=>simp at c|[_,_],_::_::_::_=>simp at c|_::_::_::_,[]=>simp at c|_::_::_::_,[_]=>simp at c|_::_::_::_,[_,_]=>simp at c
def MM:∀(n t:Nat){acc a:zA},bB Al π acc a->bB Al π (Extern.BytealgMakeNoZero.digits n t acc) (Extern.BytealgMakeNoZero.digits n t a)
 |0,_,_,_,h=>h|n+1,t,_,_,h=>MM n (t/256) (h.push (.int _ _))
theorem uE (p rs:Array zD){g f:zA}(h:bB Al π g f):bY P Al F (VR Al) π (Extern.BytealgMakeNoZero.makeNoZero p rs g) (Extern.BytealgMakeNoZero.makeNoZero p rs f):=by
 obtain⟨l,i,rfl,rfl,h⟩:=rL h;have d:=h.size;match l,i with
 |[],[]=>exact aT
 |[x],[j]=>
  have m:=(cC h).1;cases m with
  |int k n=>
   cases k<;>first|exact aT|skip
   unfold Extern.BytealgMakeNoZero.makeNoZero;cases rs[0]? with
   |none=>exact aT
   |some t=>
    refine cA (bH t) λD u ok G _=> ?_;cases u with
    |slice e=>dsimp only;split;{exact dI _};{refine bF (gN _) λC c ok s=> ?_;refine bF (uG _) λB _ ok r=> ?_;refine bF (gN _) λz b ok q=> ?_;refine aZ _ (mK (MM c b .nil) e) ?_;intro w a H ok o v;exact aS (.slice (.some v) _ _)}
    |_=>exact aT
  |_=>exact aT
 |x::y::l,j::E::i=>cases(cC h).1<;>exact aT
 |[],_::_=>simp at d
 |[_],[]=>simp at d
 |[_],_::_::_=>simp at d
 |_::_::_,[]=>simp at d
 |_::_::_,[_]=>simp at d
def WL {c b}(h:bB Al π c b):bY P Al F (VR Al) π (Extern.AbiNoEscape.same c) (Extern.AbiNoEscape.same b):=by obtain⟨l,d,rfl,rfl,h⟩:=rL h;have a:=h.size;match l,d with|[],[]=>exact aT|[x],[e]=>exact aS (cC h).1|x::y::l,e::f::d=>exact aT|[],_::_=>simp at a|[_],[]=>simp at a|[_],_::_::_=>simp at a|_::_::_,[]=>simp at a|_::_::_,[_]=>simp at a
theorem qU (p rs:Array zD)(a a' b d:zO){c l:Nat}(ca cb:Nat)(k:c=0\/l=0):bY P Al F (VR Al) π (Extern.SlicesOverlaps.overlaps p rs #[.slice a c ca,.slice b l cb]) (Extern.SlicesOverlaps.overlaps p rs #[.slice a' c ca,.slice d l cb]):=by unfold Extern.SlicesOverlaps.overlaps;cases p[0]? with|none=>exact aT|some t=>refine cA (bH t) λi u ok j _=> ?_;cases u with|slice e=>refine bF (cE e) λg size ok h=> ?_;have f:c=0\/l=0\/size=0:=bm;cases a<;>cases b<;>cases a'<;>cases d<;>dsimp only<;>(try simp only[AE f])<;>exact aS (.bool _)|_=>exact aT
theorem zM (hF:∀b,¬F b)(p rs:Array zD){j d:zA}(h:bB Al π j d):bY P Al F (VR Al) π (Extern.SlicesOverlaps.overlaps p rs j) (Extern.SlicesOverlaps.overlaps p rs d):=by obtain⟨l,w,rfl,rfl,h⟩:=rL h;have c:=h.size;match l,w with|[],[]=>exact aT|[x],[s]=>cases(cC h).1<;>exact aT|[x,y],[s,E]=>{have H:=(cC h).1;have B:=(cC (cC h).2).1;cases H with|slice hp G ca=>{cases B with|slice r v N=>{unfold Extern.SlicesOverlaps.overlaps;cases p[0]? with|none=>exact aT|some t=>refine cA (bH t) λZ u ok C _=> ?_;cases u with|slice e=>{refine bF (cE e) λY size ok o=> ?_;cases hp with|none=>cases r<;>exact aS (.bool _)| @some a R g=>cases r with|none=>exact aS (.bool _)| @some b Q hb=>replace g:=(g.mono C).mono o;replace hb:=(hb.mono C).mono o;have M:=wG ok g hb;have L:(R.block !=Q.block)=(a.block !=b.block):=ji;dsimp only;rw[M,L,g.2.1,hb.2.1];by_cases i:G=0\/v=0\/size=0;{(first|rw[AE i,AE i]|rw[AE i]);exact aS (.bool _)};·(first|rw[AF i,AF i]|rw[AF i]);refine bF (mL hF g) λX f1 ok f=> ?_;refine bF (mL hF (hb.mono f)) λW f2 ok k=> ?_;split;{exact aU};.split;{refine bF (oW ((g.mono f).mono k)) λV _ ok q=> ?_;refine bF (oW (((hb.mono f).mono k).mono q)) λU _ ok K=> ?_;refine bF (AD hF (by grind[bW.mono]) (by grind[bW.mono])) λT m ok J=> ?_;split;{refine bF (gN _) λS n ok I=> ?_;exact aS (.bool _)};.exact aS (.bool _)};.exact aS (.bool _)}|_=>exact aT}|void D O=>grind[qU]|_=>exact aT}|void D a0=>{cases B with|slice r v N=>grind[qU]|void D O=>grind[qU]|_=>exact aT}|_=>exact aT}|x::y::z::l,s::E::z'::w=>{cases(cC h).1<;>first|exact aT|(cases(cC (cC h).2).1<;>exact aT)}|[],_::_=>simp at c|[_],[]=>simp at c|[_],_::_::_=>simp at c|[_,_],[]=>simp at c|[_,_],[_]=>simp at c|[_,_],_::_::_::_=>simp at c|_::_::_::_,[]=>simp at c|_::_::_::_,[_]=>simp at c|_::_::_::_,[_,_]=>simp at c
end
def EI {P α}{f:zZ->Sem α}(h:sE P (f P)):sE P (program>>=f):=j5
theorem QY {P α}{f:TypeInfo->Sem α}(h:∀i,P.info? 1000000=aA i->sE P (f i)):sE P (typeInfo 1000000>>=f):=λv a=>by show∃hl w e,Sem.runT P (Sem.bind (match P.info? 1000000 with|some i=>pure i|none=>stuck "no such type") f) v a=(.halt hl w,e)/\Fatal hl;cases hi:P.info? 1000000 with|none=>exact⟨.stuck "no such type",v,a,rfl,j1⟩|some i=>exact h i hi v a
def zAe {P}(h:∀i,P.info? 1000000=aA i->i.methods.find? (·.name== "")=aB)(n)(v):sE P (method n 1000000 v ""):=by cases n with|zero=>exact xX|succ n=>unfold method;grind[QY,xY]
theorem zAh {P}(h:∀i,P.info? 1000000=aA i->i.methods.find? (·.name== "")=aB)(z)(x):sE P (do let d<-Gi (.func (.method "") #[.iface 1000000 .nilIface] #[z]) x;invoke d.target d.args):=by
 show sE P (invoke (.fn (.method "") #[z]) (#[.iface 1000000 .nilIface]++x));unfold invoke;have e:(#[Value.iface 1000000 .nilIface]++x)[0]? =aA (.iface 1000000 .nilIface):=by grind
 rw[e];exact EI (sE.bind (zAe h _ Value.nilIface))
def xH {P α}(a:∀i,P.info? 1000000=aA i->i.methods.find? (·.name== "")=aB)(n)(v){f:Option Bool->Sem α}(h:sE P (f aB)):sE P (nilAhead n 1000000 v "">>=f):=by cases n with|zero=>exact h|succ n=>unfold nilAhead;grind[QY,sE.bind,xY]
inductive NH (Al:zF)(π:Rn):Deferred->Deferred->Prop
 |fn {f:zN} (hf:Al f) {cs cs' RS yJ:zA} (hc:bB Al π cs cs') (ha:bB Al π RS yJ) (hz:RS.size+cs.size<=20):NH Al π ⟨.fn (.func f) cs,RS⟩ ⟨.fn (.func f) cs',yJ⟩
 |nil {RS yJ:zA} (ha:bB Al π RS yJ):NH Al π ⟨.nil,RS⟩ ⟨.nil,yJ⟩
structure GH (Al:zF)(π:Rn)(d d':Deferred):Prop where
 rel:NH Al π d d'
 lets:∃f cs RS,d=⟨.fn (.func f) cs,RS⟩/\Al (900000+f)
inductive NA (Al:zF)(π:Rn):Next->Next->Prop
 |value {v v':zY} (h:bM Al π v v'):NA Al π (.value v) (.value v')
 |skip:NA Al π .skip .skip
 |enter {f:zN} (hf:Al f) {RS yJ:zA} (ha:bB Al π RS yJ) (hz:RS.size<=20):NA Al π (.enter f RS) (.enter f yJ)
 |defer {d d':Deferred} (h:GH Al π d d'):NA Al π (.defer d) (.defer d')
inductive qM (Al:zF)(π:Rn):Next->Next->Prop
 |value {v v':zY} (h:bM Al π v v'):qM Al π (.value v) (.value v')
 |skip:qM Al π .skip .skip
 |enter {f:zN} (hf:Al f) {RS yJ:zA} (ha:bB Al π RS yJ) (hz:RS.size<=20):qM Al π (.enter f RS) (.enter f yJ)
def qM.to {Al:zF}{π:Rn}{n n':Next}(h:qM Al π n n'):NA Al π n n':=by cases h<;>constructor<;>assumption
def NH.mono {Al π ρ}(h:∀b e,π b e->ρ b e){d c}(x:NH Al π d c):NH Al ρ d c:=by cases x with|fn g i a f=>exact .fn g (i.mono h) (a.mono h) f|nil a=>exact .nil (a.mono h)
def GH.mono {Al π ρ}(h:∀b c,π b c->ρ b c){d a}(x:GH Al π d a):GH Al ρ d a:=⟨x.rel.mono h,x.lets⟩
def EV (P:zZ)(b:Builtin)(ts:Array zD)(t:zD):Prop:=match b with| .append| .clear=>∀u,ts[0]? =aA u->u<P.types.size| .cap| .copy| .len| .min| .unsafeString=>True| .unsafeSliceData=>∀e,P.underlying t=aA (.pointer e)->mA P e|_=>False
def EM (P:zZ)(Al:zF):Operand->Prop
 | .tmp _=>True| .const v=>∀π,Ok P π->bM Al π v v| .global g=>g<=P.globals.size| .func f=>Al f
def yF (P:zZ)(Al:zF)(name:String):Prop:= ∀t i m,P.info? t=aA i->i.methods.find? (·.name==name)=aA m->m.path= #[]/\∃f,m.func=aA (f,aF)/\Al f
def Zi (P:zZ)(Al:zF)(ts:Array zD)(t:zD):Callee->Prop
 | .value _=>True| .builtin b=>EV P b ts t| .invoke _ m=>yF P Al m
def UQ (P:zZ)(Al:zF)(F:Kp)(o:Oper):Prop:=(∀x∈o.op.operands,EM P Al x)/\ match o.op with| .move _| .assign _| .pick .. | .box .. | .load .. | .store .. | .nilCheck _| .unOp .. | .makeInterface .. | .slice .. | .fieldAddr .. | .indexAddr .. | .index .. | .extract .. | .panic _=>True| .alloc t| .build t _| .buildSlice t _ _| .makeSlice t _ _=>t<P.types.size| .binOp op t _ _ _=>((op= .eql\/op= .neq)->EO P Op.maxDepth t)/\((F.cmp\/∀b,¬F b)\/(op≠.eql/\op≠.neq)\/Basic P t\/∃e i,P.underlying t=aA (.pointer e)/\P.info? e=aA i/\i.size≠0)| .convert s d _=>It P F s d| .makeFunc fn a b=>(a.size+b.size<=10/\match fn with| .func f=>Al f|_=>False)| .call c=>c.args.size<=10/\Zi P Al c.argTypes o.type c.callee| .defer c=>c.args.size<=10/\∃f,c.callee= .value (.func f)/\Al (900000+f)| .waits g=>g<=P.globals.size|_=>False
def UR (P:zZ)(F:Kp)(o:Oper)(e:Operand->zY):Prop:=∀op t x y u,o.op= .binOp op t x y u->(F.cmp\/∀b,¬F b)\/(op≠.eql/\op≠.neq)\/Basic P t\/vD P t (e x) (e y)
def tD (P:zZ)(F:Kp)(fr:zC):Prop:=fr.mode= .run->∀ops j rest k o,fr.todo=aN ops (j::rest)::k->ops[j]? =aA o->UR P F o fr.eval
def BY {P F}(h:∀b,¬F b){fr}:tD P F fr:=λ_ _ _ _ _ _ _ _ _ _ _ _ _ _=>aH (aI h)
def sf (Al:zF)(o:Oper)(e:Operand->zY):Prop:=∀c,o.op= .call c->c.callee= .builtin .unsafeSliceData->∀x,(c.args.map e)[0]? =aA x->∀b n s,Al (1000002+b)->x≠.slice (aA ⟨b,n,s⟩) 0 0
def rJ (Al:zF)(fr:zC):Prop:=fr.mode= .run->∀ops j rest k o,fr.todo=aN ops (j::rest)::k->ops[j]? =aA o->Region.wanted o (yielded ops fr.tmps)=aF->sf Al o fr.eval
def kM {Al}(h:∀k,¬Al (1000002+k)){fr}:rJ Al fr:=λ_ _ _ _ _ _ _ _ _ _ _ _ _ _ _ _ _ a=>absurd a (h _)
def UQ.nd {P Al F o}(h:UQ P Al F o)(a:∀f,¬Al (900000+f))(c):o.op≠.defer c:=λe=>by have:=h.2;exact ji
structure Met (P:zZ)(Al:zF)(F:Kp):Prop where
 Xc:Rl P
 VD:∀i,P.info? 1000000=aA i->i.methods.find? (·.name== "")=aB
 name:∀f fn,Al f->P.funcs[f]? =aA fn->fn.name≠ "runtime.NumGoroutine"
 sA:∀f fn,Al f->P.funcs[f]? =aA fn->fn.body=aB->Extern.findNext fn=aB/\∃e,Extern.find fn=aA e/\∀(π:Rn) RS yJ,Ok P π->bB Al π RS yJ->bY P Al F (VR Al) π (e RS) (e yJ)
section
variable {P:zZ}{Al:zF}{F:Kp}{π:Rn}{α β γ δ:Type}{A:Rn->α->β->Prop} [ok:Ok P π]
def hY {s s'}(h:bY P Al F (VR Al) π s s'):bY P Al F (qM Al) π (do pure (.value (<-s))) (do pure (.value (<-s'))):=by refine aZ _ h ?_;intro b v c ok d a;exact aS (.value a)
def vy {s s'}(h:bY P Al F ER π s s'):bY P Al F (qM Al) π (do s;pure .skip) (do s';pure .skip):=by refine aZ _ h ?_;rintro a _ _ ok b rfl;exact aS .skip
def WW (M:Rl P){b:Builtin}{ts:Array zD}{t:zD}(T:EV P b ts t)(cs:Array Bool){I D:zA}(hA:b= .unsafeSliceData->∀x,I[0]? =aA x->∀b n s,Al (1000002+b)->x≠.slice (aA ⟨b,n,s⟩) 0 0)(h:bB Al π I D): bY P Al F (qM Al) π (builtin b ts t cs I) (builtin b ts t cs D):=by cases b<;>first|exact T.elim|exact hY (by unfold Builtin.append_;cases N:ts[0]? with|none=>grind[bB.get,aT]|some t=>obtain⟨H,Q⟩|⟨x,S,H,Q,E⟩:=h.get 0;{rw[H];exact aT};obtain⟨f1,f2⟩|⟨y,y',f1,f2,v⟩:=h.get 1;{rw[H,f1];exact aT};rw[H,Q,f1,f2];refine cA (bH t) λρ u ok J V=> ?_;replace E:=E.mono J;replace v:=v.mono J;cases u with|slice e=>{have O:=M.slice t e (T t N) V;obtain⟨base,B,d,f,rfl,rfl⟩|GQ:(∃base B d f,x= .slice base d f/\S= .slice B d f)\/∀base d f,x≠.slice base d f:=by{cases E<;>grind};{refine bF (cE e) λσ size ok p=> ?_;have G:=E.mono p;replace v:=v.mono p;cases ts[1]? with|none=>refine aZ (λ_ a b=>a=aG/\b=aG) (aS ⟨rfl,rfl⟩) ?_;rintro τ z R ok g ⟨C,m⟩;subst C;subst m;refine cA (xQ (v.mono g)) λZ n ok o K=> ?_;exact oY M O d f size n ((G.mono g).mono o) aG ((v.mono g).mono o) λ_=>K|some xt=>refine cA (bH xt) λτ u ok g _=> ?_;cases u with|int k=>refine aZ (λ_ a b=>a=aF/\b=aF) (aS ⟨rfl,rfl⟩) ?_;rintro U z R ok j ⟨C,m⟩;subst C;subst m;replace v:=v.mono g;replace G:=G.mono g;refine bF (oP (v.mono j)) λZ l ok o=> ?_;by_cases hl:IntKind.i64.wrap l<0;{rw[AE hl];first|exact dI _|(rw[AE hl];exact dI _)};{(first|rw[AF hl,AF hl]|rw[AF hl]);refine cA (eS e) λφ i ok X _=> ?_;by_cases q:IntKind.i64.wrap l*i.bytes>2^48;{(first|rw[AE q,AE q]|rw[AE q]);refine bF (gN _) λY made ok W=> ?_;exact dI _};{(first|rw[AF q,AF q]|rw[AF q]);refine aZ (λ_ a b=>a=(IntKind.i64.wrap l).toNat/\b=(IntKind.i64.wrap l).toNat) (aS ⟨rfl,rfl⟩) ?_;rintro Y z R ok W ⟨C,m⟩;rw[C,m];exact oY M O d f size (IntKind.i64.wrap l).toNat O0 aF O0 ji}}|_=>refine aZ (λ_ a b=>a=aG/\b=aG) (aS ⟨rfl,rfl⟩) ?_;rintro U z R ok j ⟨C,m⟩;subst C;subst m;refine cA (xQ ((v.mono g).mono j)) λZ n ok o K=> ?_;exact oY M O d f size n (((G.mono g).mono j).mono o) aG (((v.mono g).mono j).mono o) λ_=>K};.cases x<;>first|exact aT|simp_all}|_=>exact aT)|exact hY (by unfold Builtin.clear_;cases N:ts[0]? with|none=>grind[bB.get,aT]|some t=>obtain⟨H,Q⟩|⟨x,S,H,Q,E⟩:=h.get 0;{rw[H];exact aT};rw[H,Q];refine cA (bH t) λρ u ok J V=> ?_;cases E with|lT=>cases u<;>exact aS eK|slice G n c=>{cases G with|none=>cases u<;>exact aS eK|some L=>cases n with|zero=>cases u<;>exact aS eK|succ n=>cases u with|slice e=>refine aZ _ (gM M (M.slice t e (T t N) V)) ?_;intro σ z R ok p C;refine bF (lO _ _ 0 ((L.mono J).mono p) (by rw[toArray_toList,toArray_toList];exact qO C.cells _)) λφ _ ok X=> ?_;exact aS eK|_=>exact aT}|void hV a0=>cases u<;>exact aS eK|_=>cases u<;>exact aT)|exact hY (JQ ts t h).2|exact hY (Tm ts t h)|exact hY (JQ ts t h).1|exact hY (bn ts t h)|exact hY (zAx ts t h)|exact hY (by have hAq:=(hA rfl);obtain⟨l,l',rfl,rfl,h⟩:=rL h;have w:=h.size;match l,l' with|[],[]=>exact aT|[x],[S]=>{have E:=(cC h).1;cases E with|slice G n c=>{cases G with|none=>exact aS (.pointer .none)| @some a a' L=>rw[sL,sL];by_cases N:c≠0;{simp only[AE N];exact aS (.pointer (.some L))};.simp only[AF N];refine aZ _ (sM L.1) ?_;intro ρ s s' ok J hv;cases hv with|some _=>exact aS (.pointer (.some (L.mono J)))|none=>refine cA (xR t) λσ e ok p O=> ?_;exact .view (.view ((L.mono J).mono p) e (T e O)) λY r r' _ _ hr=> .pure (.pointer (.some ⟨hr,rfl,rfl⟩))}|void hV a0=>grind|_=>exact aT}|x::y::l,S::y'::l'=>exact aT|[],_::_=>simp at w|[_],[]=>simp at w|[_],_::_::_=>simp at w|_::_::_,[]=>simp at w|_::_::_,[_]=>simp at w)
theorem AH (M:Met P Al F){f}(j:Al f){d x}(h:bB Al π d x)(hz:d.size<=20):bY P Al F (qM Al) π (callFunc f d) (callFunc f x):=by refine WM (λw i=> ?_) ?_;{obtain e|⟨a,b,k,v,u,t,s,_⟩:=i f;{exact ji};.dsimp only;rw[k,v];dsimp only;rw[u,Option.isNone_eq_false_iff.2 t,Option.isNone_eq_false_iff.2 s];rfl};rintro l p q ok i ⟨hp,m⟩;rw[hp,m];cases g:P.funcs[f]? with|none=>exact aT|some fn=>dsimp only;have k:=beq_false_of_ne (M.name f fn j g);rw[k];simp only[Dj,Dh];cases hb:fn.body with|some c=>exact aS (.enter j (h.mono i) hz)|none=>let⟨r,e,o,n⟩:=M.sA f fn j g hb;simp only[r,o];refine .mark ji ?_;exact hY (n l d x ok (h.mono i))
def SK (x){v v'}(h:bM Al π v v')(wr):bY P Al F (VR Al) π (receiverAt x (.val v) aF wr) (receiverAt x (.val v') aF wr):=by refine aZ _ (bH x) ?_;rintro d a b ok c ⟨rfl,_⟩;cases a with|pointer e=>exact aS (h.mono c)|_=>exact aT
def zBd {name:String}(k:yF P Al name)(fuel:Nat)(t:zD){v v':zY}(h:bM Al π v v'):
  bY P Al F (λπ a b=>b.1=a.1/\Al a.1/\bM Al π a.2 b.2) π (method fuel t v name) (method fuel t v' name):=by
 cases fuel with
 |zero=>exact aU
 |succ fuel=>
  refine cA (eS t) λd i ok g hi=> ?_;cases l:i.methods.find? (·.name==name)with
  |none=>exact aT
  |some m=>
   let⟨j,f,c,n⟩:=k t i m hi l;dsimp only;rw[j,c];have e:∀x,follow (zAM (#[]:Array FieldStep)) t x=pure (t,x):=λx=>by rfl
   rw[e,e];show bY P Al F _ d (do pure (f,<-receiverAt t (.val v) aF (if(#[]:Array FieldStep).isEmpty=aF then aA ((name.splitOn ".").getLastD name)else aB))) (do pure (f,<-receiverAt t (.val v') aF (if(#[]:Array FieldStep).isEmpty=aF then aA ((name.splitOn ".").getLastD name)else aB)));refine aZ _ (SK t (h.mono g) _) ?_;grind[aS]
def zDt (M:Met P Al F){name:String}(i:yF P Al name){x c:zY}(d:bM Al π x c){a b:zA}(h:bB Al π a b)(hz:a.size<=10): bY P Al F (qM Al) π (invoke (.fn (.method name) #[]) (#[x]++a)) (invoke (.fn (.method name) #[]) (#[c]++b)):=by have e:∀(x:zY)(a:zA),invoke (.fn (.method name) #[]) (#[x]++a)=callMethod x name a:=λx a=>by{have k:(#[x]++a)[0]? =aA x:=by{grind};have j:(#[x]++a).extract 1 (#[x]++a).size=a:=by{simp_all};unfold invoke;rw[k,j]};rw[e,e];cases d with|iface t f=>refine fW (λ_ _=>rfl) λl ok g=> ?_;refine aZ _ (zBd i _ t (f.mono g)) ?_;grind[AH,bB.append,bB.mono,bB.one]|nilIface=>exact jL|_=>exact aT
theorem FH (M:Met P Al F){d a}(h:NH Al π d a):bY P Al F (qM Al) π (invoke d.target d.args) (invoke a.target a.args):=by cases h with|fn c e b f=>exact AH M c (b.append e) ji|nil b=>exact jL
omit ok in
def IB {e a}(l:Array Operand)(h:∀x∈l,bM Al π (e x) (a x)):bB Al π (l.map e) (l.map a):=by refine⟨j0,λi v c d b=> ?_⟩;exact ji
def WN {x c}(d:¬∃z,x=(.func (.method "") #[.iface 1000000 .nilIface] #[z]))(e:bM Al π x c){b a}(h:bB Al π b a)(hz:b.size<=10):bY P Al F (NH Al) π (Gi x b) (Gi c a):=by cases e with|func f k j l i g=>exact aS (.fn f ⟨j,g⟩ ((bB.mk k i).append h) ji)|nilFunc=>exact aS (.nil h)|junk v _=>grind|same _ z=>grind|_=>exact aT
def zDl {x c:zY}(f:bM Al π x c):bY P Al F (VR Al) π (Instr.panic x) (Instr.panic c):=by
 cases f with
 |iface t h=>exact oO (.iface t h)
 |nilIface=>
  refine aZ ER ?_ ?_
  .unfold Instr.panicnil;refine .env λr=> ?_;refine aZ ER (aS rfl) ?_;rintro b r _ ok d rfl;cases r<;>first|exact aT|skip
   refine fW (λ_ _=>rfl) λb ok d=> ?_;exact X4
  .rintro b n _ ok d rfl;split
   .exact oO .nilIface
   .unfold Il;refine fW (λ_ _=>rfl) λo ok j=> ?_;refine cA (xR _) λm e ok i _=> ?_;refine aZ _ (xP (.agg rfl j0) e) ?_;intro l a p ok g k;exact oO (.iface _ (.pointer (.some k)))
 |_=>exact aT
def SL {x g}(l:∀i,P.info? 1000000=aA i->i.methods.find? (·.name== "")=aB)(r:bM Al π x g)(e m:Operand->zY)(o j)(y)(u:o.op= .nilCheck y)(f:j.op= .nilCheck y)(q:e y=x)(d:m y=g):bY P Al F (qM Al) π (vr e o) (vr m j):=by unfold vr;rw[u,f];dsimp only;rw[q,d];cases r with|pointer hp=>{cases hp with|none=>exact jL|some h=>exact aS (.value (.pointer (.some h)))}|nilIface=>exact jL|nilFunc=>exact jL|func v a D p C B=>exact aS (.value (.func v a D p C B))|bool b=>exact aS (.value (.bool b))|int k n=>exact aS (.value (.int k n))|string s=>exact aS (.value (.string s))|slice y n c=>exact aS (.value (.slice y n c))|void w a0=>exact aS (.value (.void w a0))|iface t i=>exact aS (.value (.iface t i))|lT=>exact aS (.value .lT)|jO=>exact aS (.value .jO)|agg a i=>exact aS (.value (.agg a i))|tuple a i=>exact aS (.value (.tuple a i))|junk E _=>exact .dead (EI (xH l _ _ xX))|same _ z=>exact .dead (EI (xH l _ _ xX))
omit ok in
def TJ {e a}(x:Option Operand)(h:∀y∈x.toArray,bM Al π (e y) (a y)):mD Al π (x.map e) (x.map a):=by cases x with|none=>exact .none|some y=>exact .some (h y j0)
omit ok in
def PQ {e a:Operand->zY}:∀(l:List (Nat×Operand)),(∀p∈l,bM Al π (e p.2) (a p.2))->xK Al π (l.map λ(i,x)=>(i,e x)) (l.map λ(i,x)=>(i,a x))
 |[],_=>trivial|p::l,h=>⟨rfl,h p (by simp),PQ l (by grind)⟩
omit ok in
def PR {e a:Operand->zY}(p:Array (Nat×Operand))(h:∀x∈(p.toList.map (·.2)).toArray,bM Al π (e x) (a x)):xK Al π (zAM (p.map λ(i,x)=>(i,e x))) (zAM (p.map λ(i,x)=>(i,a x))):=by rw[aL8,aL8];exact PQ (zAM p) ji
def FJ (M:Met P Al F){o:Oper}(ho:UQ P Al F o){e N:Operand->zY}(hq:UR P F o e)(hs:sf Al o e)(hnd:∀c,o.op≠.defer c)(he:∀x,EM P Al x->bM Al π (e x) (N x)):bY P Al F (qM Al) π (vr e o) (vr N o):=by
 obtain⟨X,p⟩:=ho;have j:∀x (_:x∈o.op.operands:=by simp[Op.operands,Call.operands]),bM Al π (e x) (N x):=by grind
 cases hk:o.op;case nilCheck x=>rw[hk]at j;exact SL M.VD (j x) e N o o x hk hk rfl rfl
 all_goals
  rw[hk]at p j
  unfold vr
  rw[hk]
 case move x=>exact aS (.value (j _))
 case assign x=>exact aS (.value (j _))
 case pick c a b=>
  refine bF (JX (j c)) λB t ok hs=> ?_
  refine aS (.value ?_)
  cases t
  .exact(j b).mono hs
  .exact(j a).mono hs
 case alloc t=>exact hY (by refine aZ _ (gM M.Xc p) ?_;intro B z G ok hs C;refine aZ _ (xP C t) ?_;intro R a U ok w H;exact aS (.pointer (.some H)))
 case box t x=>exact hY (by refine aZ _ (xP (j x) t) ?_;intro R a U ok w H;exact aS (.pointer (.some H)))
 case build t S=>exact hY (zEw M.Xc p (PR S @j))
 case buildSlice t n S=>exact hY (zDf M.Xc p n (PR S @j))
 case load t a=>
  refine hY ?_
  refine aZ _ (lN (j a)) ?_
  grind[FG]
 case store t a x=>
  refine vy ?_
  refine aZ _ (lN (j a)) ?_
  intro B y y' ok hs O
  exact SI O ((j x).mono hs) t
 case binOp op t x y u=>
  refine hY ?_
  refine bF (WU op t p.1 x y (j x) (j y)) λB _ ok hs=> ?_
  exact zEs op t p.1 (hq op t x y u hk) ((j x).mono hs) ((j y).mono hs)
 case unOp op t x=>exact hY (zFk op (j x))
 case convert a b x=>exact hY (WV p (j x))
 case makeInterface t x=>exact hY (by refine cA (bH t) λB u ok hs _=> ?_;cases u<;>first|exact aT|exact aS (.iface _ ((j x).mono hs)))
 case makeFunc fn first captured=>
  obtain⟨C,p⟩:=p
  cases fn with
  |func f=>
   have Z:=IB first λx Q=>j x (by simp[Op.operands,Q])
   have Y:=IB captured λx Q=>j x (by simp[Op.operands,Q]);exact aS (.value (.func p Z.size Y.size (by grind) Z.at' Y.at'))
  |_=>grind
 case makeSlice t l c=>exact hY (by
   have L:=M.Xc;refine cA (bH t) λB u ok hs hu=> ?_;cases u with
   |slice e=>
    refine bF (oP ((j l).mono hs)) λR n ok w=> ?_;refine bF (oP (((j c).mono hs).mono w)) λW m ok K=> ?_;refine cA (eS e) λυ i ok hs4 _=> ?_;dsimp only;have v:∀(E:Rn)(k:Nat)(z G:zA),Ok P E->bB Al E z G->bY P Al F (VR Al) E
      (do let a<-newRow e ((Mc k).map (z[·%z.size]!));pure (.slice (aA a) (IntKind.i64.wrap n).toNat (IntKind.i64.wrap m).toNat))
      (do let a<-newRow e ((Mc k).map (G[·%G.size]!));pure (.slice (aA a) (IntKind.i64.wrap n).toNat (IntKind.i64.wrap m).toNat)):=by
     intro E k z G ok C
     refine aZ _ (mK (CR C k) e) ?_
     intro V a U ok J H
     exact aS (.slice (.some H) _ _)
    split
    .split
     .exact dI _
     .split
      .exact dI _
      .refine bF (gN _) λE c ok J=> ?_;exact dI _
    .refine bF (uG _) λE _ ok J=> ?_;refine bF (cE e) λV size ok hs6=> ?_;by_cases h0:(IntKind.i64.wrap m).toNat*size=0
     .simp only[AE h0];exact v V _ #[] #[] ok .nil
     .simp only[AF h0];refine aZ _ (gM L (L.slice t e p hu)) ?_;intro ψ z G ok hs7 C;exact v ψ _ _ _ ok C.cells
   |_=>exact aT)
 case slice t x l h m=>
  exact hY (WJ t (j x) (TJ l λy O=>j y (by simp only[Op.operands];grind))
   (TJ h λy O=>j y (by simp only[Op.operands];grind)) (TJ m λy O=>j y (by simp only[Op.operands];grind)))
 case fieldAddr t x i=>exact hY (by
   refine cA (bH t) λB u ok hs _=> ?_;cases u with
   |struct fs=>
    dsimp only;cases fs[i]? with
    |none=>exact aT
    |some f=>refine aZ _ (lN ((j x).mono hs)) ?_;intro R a U ok w H;refine aZ AR ?_ ?_;{unfold fieldPlace;refine bF (cE f.type) λW n ok K=> ?_;grind[aS,bW.mono,bW.add,zDw]};{intro W b b' ok K T;exact aS (.pointer (.some T))}
   |_=>exact aT)
 case indexAddr t x i=>exact hY (WQ t (j x) (j i))
 case index t x i=>exact hY (zEx t (j x) (j i))
 case extract x i=>exact hY (WS (j x) i)
 case panic x=>exact hY (zDl (j x))
 case call c=>
  have q:bB Al π (c.args.map e) (c.args.map N):=IB c.args λx Q=>j x (by simp only[Op.operands,Call.operands,Array.mem_append];grind)
  obtain⟨C,p⟩:=p
  have I:(c.args.map e).size<=10:=by grind
  obtain⟨callee,args,ts⟩:=c
  cases callee with
  |value f=>by_cases D:∃z,e f=(.func (.method "") #[.iface 1000000 .nilIface] #[z]);{obtain⟨z,D⟩:=D;refine .dead ?_;show sE P (do let d<-Gi (e f) (args.map e);invoke d.target d.args);grind[Met.VD,zAh]};refine aZ _ (WN D (j f) q I) ?_;grind[FH]
  |builtin b=>exact WW M.Xc p _ (λT=>hs _ hk (by rw[T])) q
  |invoke r m=>exact zDt M p (j r) q I
 case defer c=>grind
 case waits g=>
  refine hY (aZ _ (fM (ok.iJ g p)) ?_)
  rintro B s _ ok hs rfl
  exact aS (.bool _)
 all_goals grind
def JR (M:Met P Al F){d a:Deferred}(h:NH Al π d a):bY P Al F (NA Al) π (invoke d.target d.args) (invoke a.target a.args):=(FH M h).weaken λ_ _ _ x=>x.to
def JV (M:Met P Al F){o:Oper}(k:UQ P Al F o){e b:Operand->zY}(r:UR P F o e)(hs:sf Al o e)(m:∀x,EM P Al x->bM Al π (e x) (b x))(t:∀f,e (.func f)= .func (.func f) #[] #[]:=by exactλ_=>rfl)(i:∀f,b (.func f)= .func (.func f) #[] #[]:=by exactλ_=>rfl):bY P Al F (NA Al) π (vr e o) (vr b o):=by
 by_cases d:∃c,o.op= .defer c
 .obtain⟨c,l⟩:=d;let⟨h,a⟩:=k;rw[l]at h a;let⟨p,f,n,s⟩:=a;let⟨callee,args,u⟩:=c;dsimp only at n p;subst n;have g:=IB args λx q=>m x (h x (by simp[Op.operands,Call.operands,q]));unfold vr;rw[l];show bY P Al F (NA Al) π (do pure (Next.defer (<-Gi (e (.func f)) (args.map e)))) (do pure (Next.defer (<-Gi (b (.func f)) (args.map b))));rw[t f,i f];have j:=h (.func f) M9;exact aS (.defer ⟨.fn j .nil ji j3,f,_,_,rfl,s⟩)
 exact(FJ M k r hs ji m).weaken λ_ _ _ x=>x.to
end
open Go.Conc (G)
def mY (P:zZ)(Al:zF)(F:Kp):Code->Prop
 | .region _ ops _=>∀o∈ops,UQ P Al F o| .seq a b=>mY P Al F a/\mY P Al F b| .cond c a b=>EM P Al c/\mY P Al F a/\mY P Al F b| .block _ b| .loop b| .scope b=>mY P Al F b| .rangeFunc .. =>False|_=>True
def mF (P:zZ)(Al:zF)(F:Kp):Item->Prop
 | .code c| .inLoop c| .inScope c=>mY P Al F c| .inBlock _=>True|aN ops _=>∀o∈ops,UQ P Al F o|_=>False
structure Lh (Al:zF)(π:Rn)(x x':PanicEntry):Prop where
 v:bM Al π x.v x'.v
 recovered:x'.recovered=x.recovered
 goexit:x'.goexit=x.goexit
inductive gZ {α:Type}(R:α->α->Prop):List α->List α->Prop
 |nil:gZ R [] []
 |cons {a a':α} {l l':List α} (h:R a a') (hl:gZ R l l'):gZ R (a::l) (a'::l')
inductive UT (Al:zF)(π:Rn):FrameMode->FrameMode->Prop
 |run:UT Al π .run .run
 |returning:UT Al π .returning .returning
 |panicking {l l':List PanicEntry} (h:gZ (Lh Al π) l l'):UT Al π (.panicking l) (.panicking l')
def gZ.imp {α:Type}{R S:α->α->Prop}(h:∀a b,R a b->S a b):∀{l c:List α},gZ R l c->gZ S l c
 |_,_,.nil=> .nil|_,_,.cons x y=> .cons (h _ _ x) (y.imp h)
def gZ.append {α:Type}{R:α->α->Prop}:∀{l b m a:List α},gZ R l b->gZ R m a->gZ R (l++m) (b++a)
 |_,_,_,_,.nil,k=>k|_,_,_,_,.cons x y,k=> .cons x (y.append k)
structure cV (P:zZ)(Al:zF)(F:Kp)(π:Rn)(fr fr':zC):Prop where
 fn:fr'.fn=fr.fn
 al:Al fr.fn
 tmps:bB Al π fr.tmps fr'.tmps
 todo:fr'.todo=fr.todo
 items:∀i∈fr.todo,mF P Al F i
 defers:gZ (GH Al π) fr.defers fr'.defers
 mode:UT Al π fr.mode fr'.mode
 kind:fr'.kind=fr.kind
 kinds:fr.kind= .normal\/fr.kind= .deferred
 round:fr.roundOf=aB
 qX:fr'.roundOf=aB
def UT.mono {Al π ρ}(h:∀b d,π b d->ρ b d){m c}(x:UT Al π m c):UT Al ρ m c:=by cases x with|run=>exact .run|returning=>exact .returning|panicking l=>exact .panicking (l.imp λa b y=>⟨y.v.mono h,y.recovered,y.goexit⟩)
def cV.mono {P:zZ}{Al:zF}{F:Kp}{π ρ:Rn}(h:∀b a,π b a->ρ b a){fr fr':zC}(x:cV P Al F π fr fr'):cV P Al F ρ fr fr':= ⟨x.fn,x.al,x.tmps.mono h,x.todo,x.items,x.defers.imp λ_ _ y=>y.mono h,x.mode.mono h,x.kind,x.kinds,x.round,x.qX⟩
structure aEz (P:zZ)(Al:zF)(F:Kp)(π:Rn)(cs cs':zL)(g g':zH)(fr fr':zC)(own own':zL):Prop where
 left:g=G fr (own++cs)
 right:g'=G fr' (own'++cs')
 frame:cV P Al F π fr fr'
 own:gZ (cV P Al F π) own own'
def GR (P:zZ)(Al:zF)(F:Kp)(π:Rn)(cs cs':zL)(g a:zH):Prop:=∃fr fr' own own',aEz P Al F π cs cs' g a fr fr' own own'
structure cN (P:zZ)(Al:zF)(F:Kp):Prop where
 met:Met P Al F
 body:∀f fn c,Al f->P.funcs[f]? =aA fn->fn.body=aA c->mY P Al F c
def Stepped (P:zZ)(Al:zF)(F:Kp)(π:Rn)(cs cs':zL)(v w:zW)(s s':GStep):Prop:=(∃o u c,s= .ended o u c)\/(∃fr own a c,s= .go (G fr (own++cs)) a c/\iy F a)\/ ∃d f a c g w1 b,s= .go f a c/\s'= .go g w1 b/\GR P Al F d cs cs' f g/\bV P Al F d a w1/\fL F π d v a w w1/\∀e∈b,pP F d e
section
variable {P:zZ}{Al:zF}{F:Kp}{π:Rn}{cs cs' own own':zL}{v w:zW}{fr fr':zC}
def cV.eval (h:cV P Al F π fr fr')(ok:Ok P π)(x)(b:EM P Al x):bM Al π (fr.eval x) (fr'.eval x):=by cases x with|tmp t=>simp only[Frame.eval];obtain⟨d,e⟩|⟨a,j,d,e,i⟩:=h.tmps.get t;{simp only[Ez,d,e];exact eK};simp_all|const c=>exact b π ok|global g=>exact .pointer (.some ⟨ok.iJ g b,rfl,rfl⟩)|func f=>exact .func b rfl rfl j0 j0 j0
theorem Stepped.same (h:bV P Al F π v w){f f'}(b:cV P Al F π f f')(a:gZ (cV P Al F π) own own'): Stepped P Al F π cs cs' v w (.go (G f (own++cs)) v) (.go (G f' (own'++cs')) w):=by exact aI (aI ⟨π,_,v,_,_,w,#[],rfl,rfl,⟨f,f',own,own',rfl,rfl,b,a⟩,h,fL.refl v w,j0⟩)
def Stepped.ended {o u es s'}:Stepped P Al F π cs cs' v w (.ended o u es) s':=aH ji
def zDz {id}:∀{k k'},exitTo id k=aA k'->∀i∈k',i∈k:=by intro k;induction k with|nil=>intro k' h;cases h|cons x k b=>intro k' h i hi;cases x with|inBlock a=>simp only[exitTo]at h;grind|_=>simp only[exitTo]at h;exact ji
def TW:∀{c l r},mY P Al F c->findLabel c l=aA r->mY P Al F r:=by intro c;induction c with|seq a b f i=>intro l r h d;simp only[findLabel]at d;split at d;{rename_i rest e;cases d;exact⟨f h.1 e,h.2⟩};{exact i h.2 d}|label g=>intro l r h d;simp only[findLabel]at d;split at d;{cases d;trivial};{cases d}|_=>intro l r h d;simp only[findLabel]at d;cases d
def Ph {l}:∀{k k'},(∀i∈k,mF P Al F i)->gotoIn l k=aA k'->∀i∈k',mF P Al F i:=by intro k;induction k with|nil=>intro k' h b;cases b|cons x k e=>intro k' h b i hi;have c:∀i∈k,mF P Al F i:=ji;cases x with|inScope body=>simp only[gotoIn]at b;split at b;{rename_i rest a;cases b;have d:=h _ (EJ);obtain rfl|hi:=Bb.1 hi;{exact TW d a};exact ji};exact ji|_=>simp only[gotoIn]at b;exact ji
end
def Rs:Nat->zY->Bool
 |0,_=>aG|n+1,v=>match v with| .bool _| .int _ _| .string _| .pointer aB| .slice aB _ _| .nilFunc| .nilIface| .map aB| .chan aB=>aF| .iface _ v=>Rs n v| .agg cs| .tuple cs=>cs.toList.all (Rs n)|_=>aG
theorem AY:∀(n:Nat)(v:zY),Rs n v=aF->Flat v
 |0,_,h=>by simp[Rs]at h|n+1,v,h=>by intro Al g;have d:∀cs:zA,cs.toList.all (Rs n)=aF->∀(i:Nat)(v j:zY),cs[i]? =aA v->cs[i]? =aA j->bM Al g v j:=λcs q i v j p o=>by{rw[p]at o;cases o;exact AY n v ji Al g};cases v with|bool b=>exact .bool b|int k n=>exact .int k n|string s=>exact .string s|pointer a=>{cases a with|none=>exact .pointer .none|some a=>simp[Rs]at h}|slice a l c=>{cases a with|none=>exact .slice .none l c|some a=>simp[Rs]at h}|nilFunc=>exact .nilFunc|nilIface=>exact .nilIface|map r=>{cases r with|none=>exact .lT|some r=>simp[Rs]at h}|chan r=>{cases r with|none=>exact .jO|some r=>simp[Rs]at h}|iface t v=>exact .iface t (AY n v j5 Al g)|agg cs=>exact .agg rfl (d cs j5)|tuple cs=>exact .tuple rfl (d cs j5)|_=>simp[Rs]at h
def Kf (P:zZ):Nat->zD->Bool
 |0,_=>aG|f+1,t=>match P.underlying t with|some (.struct a)=>a.toList.all λx=>Kf P f x.type|some .bool|some .string|some (.int _)|some (.pointer _)|some (.slice _)=>aF|_=>aG
def dz {P:zZ}:∀f t,Kf P f t=aF->∀d,EO P d t:=by intro f;induction f with|zero=>intro t h;cases h|succ f i=>intro t a d;cases d with|zero=>trivial|succ d=>unfold EO;unfold Kf at a;exact ji
def xc (op:BinOp):Bool:=match op with| .eql| .neq=>aG|_=>aF
structure Ck where
 al:zN->Bool
 uf:zD->Bool
 mt:String->Bool
 mark:Bool
section
variable(P:zZ)(C:Ck)
def Fb:Operand->Bool
 | .tmp _=>aF| .const v=>Rs 8 v| .global g=>decide (g<=P.globals.size)| .func f=>C.al f
def Ff (t:zD):Bool:=match P.underlying t with|some (.pointer e)=>C.uf e|_=>aF
def pw (e:zD):Bool:=match P.underlying e with|some (.int aQ)=>aF|_=>aG
def Fc (s d:zD):Bool:=match P.underlying s,P.underlying d with|some (.int _),aA (.int _)=>aF|some .string,aA (.slice e)|some (.slice e),aA .string=>pw P e|some (.pointer e),aA .unsafePointer|some .unsafePointer,aA (.pointer e)=>C.uf e|_,_=>aG
def xd (op:BinOp)(t:zD):Bool:=match op with| .eql| .neq=>(match P.underlying t with|some .bool|some (.int _)|some .string=>aF|some (.pointer e)=>(match P.info? e with|some i=>decide (i.size≠0)|none=>aG)|_=>aG)|_=>aF
def vR (b:Builtin)(ts:Array zD)(t:zD):Bool:=match b with| .append| .clear=>(match ts[0]? with|some u=>decide (u<P.types.size)|none=>aF)| .cap| .copy| .len| .min| .unsafeString=>aF| .unsafeSliceData=>Ff P C t|_=>aG
def ow (o:Oper):Bool:=o.op.operands.toList.all (Fb P C)&& match o.op with| .move _| .assign _| .pick .. | .box .. | .load .. | .store .. | .nilCheck _| .unOp .. | .makeInterface .. | .slice .. | .fieldAddr .. | .indexAddr .. | .index .. | .extract .. | .panic _=>aF| .alloc t| .build t _| .buildSlice t _ _| .makeSlice t _ _=>decide (t<P.types.size)| .binOp op t _ _ _=>(xc op||Kf P 9 t)&&(C.mark||xd P op t)| .convert s d _=>Fc P C s d| .makeFunc fn a b=>(decide (a.size+b.size<=10)&&match fn with| .func f=>C.al f|_=>aG)| .call c=>(decide (c.args.size<=10)&&match c.callee with| .value _=>aF| .builtin b=>vR P C b c.argTypes o.type| .invoke _ m=>C.mt m)| .defer c=>(decide (c.args.size<=10)&&match c.callee with| .value (.func f)=>C.al (900000+f)|_=>aG)| .waits g=>decide (g<=P.globals.size)|_=>aG
def pD:Code->Bool
 | .region _ ops _=>ops.toList.all (ow P C)| .seq a b=>pD a&&pD b| .cond c a b=>Fb P C c&&pD a&&pD b| .block _ b| .loop b| .scope b=>pD b| .rangeFunc .. =>aG|_=>aF
end
section
variable {P:zZ}{C:Ck}{F:Kp}(Wb:∀e,C.uf e=aF->mA P e)(hmt:∀m,C.mt m=aF->yF P (λf=>C.al f=aF) m)(Wc:C.mark=aF->∀b,¬F b)(ab:C.mark=aG->¬F.cmp)
def PV {x}(h:Fb P C x=aF):EM P (λf=>C.al f=aF) x:=by cases x with|tmp t=>trivial|const v=>exactλa _=>AY 8 v h _ a|global g=>exact(of_decide_eq_true h:g<=P.globals.size)|func f=>exact h
include Wb in
def zEy {t:zD}(h:Ff P C t=aF)(e:zD)(a:P.underlying t=aA (.pointer e)):mA P e:=by unfold Ff at h;exact ji
include Wb Wc ab in
def zFu {s d:zD}(h:Fc P C s d=aF):It P F s d:=by unfold Fc at h;have u:∀e,pw P e=aF->P.underlying e=aA (.int aQ):=λe h=>by{unfold pw at h;grind};split at h;{exact .int ‹_› ‹_›};{exact .tob ‹_› ‹_› (u _ h) ji};{exact .ofb ‹_› ‹_› (u _ h)};{exact .up ⟨Wb _ h,ji⟩};{exact .up ⟨Wb _ h,ji⟩};.exact A4
include Wb in
def TK {b:Builtin}{ts:Array zD}{t:zD}(h:vR P C b ts t=aF):EV P b ts t:=by cases b with|append|clear=>intro u a;simp only[vR,a]at h;grind|cap|copy|len|min|unsafeString=>trivial|unsafeSliceData=>exact zEy Wb h|_=>simp[vR]at h
include Wb hmt Wc ab in
def du {o:Oper}(h:ow P C o=aF):UQ P (λf=>C.al f=aF) F o:=by
 unfold ow at h;rw[De]at h;let⟨w,g⟩:=h;refine⟨λx s=>PV ji,?_⟩;cases j:o.op<;>rw[j]at g<;>dsimp only at g⊢<;>first|trivial|exact of_decide_eq_true g|exact zFu Wb Wc ab g|(cases g;done)|skip
 case binOp op t x y u=>
  rw[De]at g
  let⟨p,g⟩:=g
  refine⟨λq=>dz 9 t ?_ _,?_⟩
  .obtain rfl|rfl:=q<;>simpa [xc]using p
  rw[JJ]at g;obtain g|g:=g;{grind}
  .right;by_cases v:op≠.eql/\op≠.neq
   .exact ji
   .right;have n:(match P.underlying t with|some .bool|some (.int _)|some .string=>aF|some (.pointer e)=>(match P.info? e with|some i=>decide (i.size≠0)|none=>aG)|_=>aG)=aF:=by
     cases op<;>first|exact g|grind
    cases hu:P.underlying t with
    |none=>grind
    |some d=>
     rw[hu]at n;cases d with
     |bool=>exact aH (aH hu)
     |int k=>exact aH (aI ji)
     |string=>exact aH (aI (aI hu))
     |pointer e=>grind
     |_=>cases n
 case makeFunc fn a b=>
  exact ji
 case call c=>
  rw[De]at g
  refine⟨ji,?_⟩
  replace g:=g.2
  cases l:c.callee with
  |value f=>trivial
  |builtin b=>rw[l]at g;exact TK Wb g
  |invoke r m=>rw[l]at g;exact hmt m g
 exact ji
include Wb hmt Wc ab in
def zFq:∀{c:Code},pD P C c=aF->mY P (λf=>C.al f=aF) F c:=by
 intro c;induction c with
 |region id ops d=>exactλh o i=>du Wb hmt Wc ab (Ej.1 h o ji)
 |seq a b g hb=>intro h;rw[pD,De]at h;exact⟨g h.1,hb h.2⟩
 |cond c a b g hb=>intro h;rw[pD,De,De]at h;exact⟨PV h.1.1,g h.1.2,hb h.2⟩
 |block id b hb=>assumption
 |loop b hb=>assumption
 |scope b hb=>assumption
 |rangeFunc=>intro h;simp[pD]at h
 |_=>intro _;trivial
end
end Go.Ren
