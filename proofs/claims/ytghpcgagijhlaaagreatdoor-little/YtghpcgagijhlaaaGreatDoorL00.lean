import Derived.Conc.Own4
import Derived.Conc.Own5
set_option linter.all false
set_option maxRecDepth 100000
set_option maxHeartbeats 16000000
open Option renaming some->aA,none->aB
open Bool renaming true->aF,false->aG
open Or renaming inl->aH,inr->aI
open Go.Item renaming inRegion->aN
open Go.Obj renaming cells->aJ
open Go.IntKind renaming u64->aR,u8->aQ
open Array renaming size_extract->aD4,replicate->aD5,foldl_toList->aD6,toList_zipIdx->aD7,range->aD8,size_map->aD9
open Except renaming ok->aEa,error->aEb
open Go renaming runtimePanic->aEc,execOp->aEd
open Go.Deferred renaming ofValue->aEe
open Nat renaming le_succ->aEf,le_of_lt->aEg,min->aEh
namespace Go
abbrev zT:=Nat->Question->Nat
abbrev zS:=Frame->List Frame->World->Prop
abbrev zU:=Goroutine->World->Prop
abbrev zR:=Value->World->Prop
abbrev zX:=Exit->Act->World->Prop
abbrev zF:=FuncId->Prop
abbrev zP:=Nat->Prop
abbrev zLL:=List (List UInt8)
abbrev zII:=List (Int × Int)
abbrev zA:=Array Value
abbrev zB:=List UInt8
abbrev zO:=Option Addr
abbrev zL:=List Frame
abbrev zE:=Array Event
abbrev zG:=Array Goroutine
abbrev zV:=List Value
abbrev zQ:=Array Oper
abbrev zI:=List Item
abbrev zJ:=Array Obj
abbrev zW:=World
abbrev zY:=Value
abbrev zH:=Goroutine
abbrev zZ:=Program
abbrev zD:=TypeId
abbrev zN:=FuncId
abbrev zC:=Frame
abbrev zAa:=@Array.getElem?_eq_some_iff
abbrev zAb:=@Nat.le_refl
abbrev zAc:=@List.length_append
abbrev zAd:=@Nat.lt_of_lt_of_le
abbrev zAe:=@Array.getElem?_setIfInBounds_ne
abbrev zAf:=@List.length_cons
abbrev zAg:=@List.mem_cons
abbrev zAh:=@List.mem_append
abbrev zAi:=@List.getElem?_eq_getElem
abbrev zAj:=@Array.getElem?_eq_getElem
abbrev zAk:=@Option.some.inj
abbrev zAl:=@List.length_nil
abbrev zAm:=@List.mem_singleton
abbrev zAn:=@List.filter_cons_of_neg
abbrev zAo:=@Array.getElem?_setIfInBounds_self_of_lt
abbrev zAp:=@List.size_toArray
abbrev zAq:=@List.append_nil
abbrev zAr:=@List.not_mem_nil
abbrev zAs:=@List.mem_toArray
abbrev zAt:=@List.filter_cons_of_pos
abbrev zAu:=@Array.getD_eq_getD_getElem?
abbrev zAv:=@if_neg
abbrev zAw:=@Classical.choose_spec
abbrev zAx:=@List.mem_filter
abbrev zAy:=@List.mem_cons_self
abbrev zAz:=@if_pos
abbrev zBa:=@List.getElem?_eq_some_iff
abbrev zBb:=@Nat.le_trans
abbrev zBc:=@List.mem_cons_of_mem
abbrev zBd:=@Nat.zero_add
abbrev zBe:=@Bool.false_eq_true
abbrev zBf:=@List.length_take
abbrev zBg:=@List.eq_nil_of_length_eq_zero
abbrev zBh:=@Bool.and_eq_true
abbrev zBi:=@Option.map_some
abbrev zBj:=@Array.mem_of_getElem?
abbrev zBk:=@Array.getElem?_push
abbrev zBl:=@List.mem_map
abbrev zBm:=@Classical.byContradiction
abbrev zBn:=@List.getElem?_append_right
abbrev zBo:=@List.append_assoc
abbrev zBp:=@Option.map_eq_some_iff
abbrev zBq:=@Array.getElem?_eq_none
abbrev zBr:=@List.setIfInBounds_toArray
abbrev zBs:=@Array.getElem?_toList
abbrev zBt:=@Array.getElem?_setIfInBounds
abbrev zBu:=@Nat.zero_le
abbrev zBv:=@decide_eq_false
abbrev zBw:=@Array.size_push
abbrev zBx:=@List.cons_append
abbrev zBy:=@List.pairwise_cons
abbrev zBz:=@Array.ext_getElem?
abbrev zCa:=@List.take_append_drop
abbrev zCb:=@List.all_eq_true
abbrev zCc:=@Array.getElem?_append_right
abbrev zCd:=@or_false
abbrev zCe:=@Array.empty_append
abbrev zCf:=@List.pairwise_append
abbrev zCg:=@Array.getElem?_map
abbrev zCh:=@Nat.add_assoc
abbrev zCi:=@List.mem_range
abbrev zCj:=@List.getElem?_append_left
abbrev zCk:=@List.nil_append
abbrev zCl:=@List.length_map
abbrev zCm:=@decide_eq_true_eq
abbrev zCn:=@List.length_drop
abbrev zCo:=@Option.bind_eq_some_iff
abbrev zCp:=@List.getElem?_take
abbrev zCq:=@Array.append_empty
abbrev zCr:=@Array.getElem?_append_left
abbrev zCs:=@if_true
abbrev zCt:=@List.length_pos_iff
abbrev zCu:=@List.getElem?_cons_zero
abbrev zCv:=@Option.getD_some
abbrev zCw:=@List.pairwise_map
abbrev zCx:=@List.take_of_length_le
abbrev zCy:=@List.set_cons_succ
abbrev zCz:=@List.append_cancel_right
abbrev zDa:=@Array.size_setIfInBounds
abbrev zDb:=@beq_eq_false_iff_ne
abbrev zDc:=@Nat.lt_or_ge
abbrev zDd:=@decide_eq_true
abbrev zDe:=@if_false
abbrev zDf:=@List.mem_of_getElem?
abbrev zDg:=@List.set_cons_zero
abbrev zDh:=@Array.length_toList
abbrev zDi:=@List.getElem?_map
abbrev zDj:=@Ne.symm
abbrev zDk:=@List.map_append
abbrev zDl:=@List.filter_append
abbrev zDm:=@Array.mem_toList_iff
abbrev zDn:=@Nat.le_add_right
abbrev zDo:=@List.getElem_mem
abbrev zDp:=@List.getD_eq_getElem?_getD
abbrev zDq:=@beq_iff_eq
abbrev zDr:=@beq_false_of_ne
abbrev zDs:=@Bool.or_eq_true
abbrev zDt:=@Array.getElem?_modify
abbrev zDu:=@Std.Legacy.Range.forIn_eq_forIn_range'
abbrev zDv:=@List.filter_filter
abbrev zDw:=@Nat.mul_one
abbrev zDx:=@Array.toList_inj
abbrev zDy:=@Nat.lt_irrefl
abbrev zDz:=@List.length_eq_zero_iff
abbrev zEa:=@List.push_toArray
abbrev zEb:=@Option.bind_some
abbrev zEc:=@Array.mem_append
abbrev zEd:=@getElem!_pos
abbrev zEe:=@Nat.eq_zero_or_pos
abbrev zEf:=@List.map_cons
abbrev zEg:=@List.length_singleton
abbrev zEh:=@List.getElem?_toArray
abbrev zEi:=@List.cons.inj
abbrev zEj:=@ByteArray.data_append
abbrev zEk:=@Array.append_assoc
abbrev zEl:=@List.take_succ_eq_append_getElem
abbrev zEm:=@List.mem_of_mem_take
abbrev zEn:=@List.mem_of_mem_drop
abbrev zEo:=@Array.replicate_succ
abbrev zEp:=@Array.size_append
abbrev zEq:=@Array.setIfInBounds_comm
abbrev zEr:=@Array.getElem?_replicate
abbrev zEs:=@List.map_map
abbrev zEt:=@List.pairwise_singleton
abbrev zEu:=@List.drop_zero
abbrev zEv:=@List.getElem?_drop
abbrev zEw:=@Array.forIn_toList
abbrev zEx:=@UInt8.not_lt
abbrev zEy:=@Nat.not_lt
abbrev zEz:=@Bool.eq_false_iff
abbrev zFa:=@List.mem_erase_of_ne
abbrev zFb:=@Classical.not_forall
abbrev zFc:=@Array.mapM_eq_mapM_toList
abbrev zFd:=@beq_self_eq_true
abbrev zFe:=@List.take_succ_cons
abbrev zFf:=@List.filter_eq_self
abbrev zFg:=@List.filterMap_cons
abbrev zFh:=@List.drop_succ_cons
abbrev zFi:=@Nat.zero_mul
abbrev zFj:=@List.length_erase_of_mem
abbrev zFk:=@UInt8.toNat_ofNat'
abbrev zFl:=@List.filter_eq_nil_iff
abbrev zFm:=@List.take_zero
abbrev zFn:=@Nat.sub_self
abbrev zFo:=@List.length_filter_le
abbrev zFp:=@List.getElem?_eq_none
abbrev zFq:=@List.contains_iff_mem
abbrev zFr:=@Nat.lt_of_not_le
abbrev zFs:=@List.take_append_of_le_length
abbrev zFt:=@List.map_toArray
abbrev zFu:=@Array.toList_map
abbrev zFv:=@List.mem_append_left
abbrev zFw:=@ByteArray.ext
abbrev zFx:=@Bool.false_or
abbrev zFy:=@List.nodup_cons
abbrev zFz:=@List.map_congr_left
abbrev zGa:=@List.foldl_cons
abbrev zGb:=@Array.toList_setIfInBounds
abbrev zGc:=@Nat.add_sub_cancel
abbrev zGd:=@Nat.add_comm
abbrev zGe:=@Int.natCast_nonneg
abbrev zGf:=@List.getLast?_eq_none_iff
abbrev zGg:=@List.getLast?_eq_getElem?
abbrev zGh:=@List.drop_eq_getElem_cons
abbrev zGi:=@UInt8.le_antisymm
abbrev zGj:=@Nat.mod_lt
abbrev zGk:=@Int.toNat_natCast
abbrev zGl:=@Go.Conc.stepG_region_end
abbrev zGm:=@Go.Conc.stepG_seq
abbrev zGq:=@Go.Conc.stepG_region
abbrev zGs:=@Go.Conc.stepG_skip
abbrev zGt:=@Go.IntKind.wrap_i64
abbrev zGy:=@Go.Conc.stepG_ret'
abbrev zHb:=@Go.Conc.stepG_block
abbrev zHc:=@Go.Conc.mem_listed
abbrev zHe:=@Go.bodyPost_ret
end Go
namespace Go.Ren
abbrev Rn:=Nat->zP
def bU (π:Rn)(a a':Addr):Prop:=π a.block a'.block/\a'.off=a.off/\a'.spot=a.spot
def bU.add {π a a'}(h:bU π a a')(n):bU π (a.add n) (a'.add n):=by
 obtain⟨c,b,d⟩:=h;unfold Addr.add;split
 .exact⟨c,b,d⟩
 .exact⟨c,by simp[b],rfl⟩
inductive vF (π:Rn):zO->zO->Prop
 |none:vF π aB aB
 |some {a a':Addr} (h:bU π a a'):vF π (aA a) (aA a')
def Jk:zY->Prop
 | .float _ _| .complex _ _ _| .pointer _| .slice (aA _) _ _| .map (aA _)| .chan (aA _)| .func _ _ _=>True
 |_=>False
def Jk.cells {x}(h:Jk x):x.cells= #[x]:=by cases x<;>first|rfl|exact h.elim
def enc (a:Addr):Nat:=(a.block+a.off)*(a.block+a.off)+a.block
def Ub {a b}(h:enc a=enc b):a.block=b.block/\a.off=b.off:=by
 unfold enc at h;have k:∀s t x y:Nat,x<=s->s*s+x=t*t+y->¬s<t:=λs t x y g e bT=>by have f:(s+1)*(s+1)<=t*t:=Nat.mul_le_mul bT bT;have d:(s+1)*(s+1)=s*s+s+s+1:=by{rw[Nat.add_mul,Nat.mul_add];omega};omega
 have f:=k _ _ _ _ (zDn a.block a.off) h;have d:=k _ _ _ _ (zDn b.block b.off) h.symm;have c:a.block+a.off=b.block+b.off:=by omega
 rw[c]at h;omega
inductive bG (Al:zF)(π:Rn):zY->zY->Prop
 |bool (b:Bool):bG Al π (.bool b) (.bool b)
 |int (k:IntKind) (n:Int):bG Al π (.int k n) (.int k n)
 |string (s:ByteArray):bG Al π (.string s) (.string s)
 |pointer {a a':zO} (h:vF π a a'):bG Al π (.pointer a) (.pointer a')
 |slice {a a':zO} (h:vF π a a') (n c:Nat):bG Al π (.slice a n c) (.slice a' n c)
 |func {f:zN} (hf:Al f) {fs ss cs cs':zA} (h1:ss.size=fs.size) (h2:cs'.size=cs.size) (hz:fs.size+cs.size<=10)
   (h3:∀(i:Nat)(v v':zY),fs[i]? =aA v->ss[i]? =aA v'->bG Al π v v') (h4:∀(i:Nat)(v v':zY),cs[i]? =aA v->cs'[i]? =aA v'->bG Al π v v'):
   bG Al π (.func (.func f) fs cs) (.func (.func f) ss cs')
 |nilFunc:bG Al π .nilFunc .nilFunc
 |iface (t:zD) {v v':zY} (h:bG Al π v v'):bG Al π (.iface t v) (.iface t v')
 |nilIface:bG Al π .nilIface .nilIface
 |iT:bG Al π (.map aB) (.map aB)
 |gH:bG Al π (.chan aB) (.chan aB)
 |agg {cs cs':zA} (h1:cs'.size=cs.size) (h2:∀(i:Nat)(v v':zY),cs[i]? =aA v->cs'[i]? =aA v'->bG Al π v v'):bG Al π (.agg cs) (.agg cs')
 |tuple {cs cs':zA} (h1:cs'.size=cs.size) (h2:∀(i:Nat)(v v':zY),cs[i]? =aA v->cs'[i]? =aA v'->bG Al π v v'):bG Al π (.tuple cs) (.tuple cs')
 |junk (hJ:Al 1000000) {x:zY} (h:Jk x):bG Al π (.func (.method "") #[.iface 1000000 .nilIface] #[x]) x
 |void {vb:Nat} (hV:Al (1000002+vb)) (a:Addr):bG Al π (.slice (aA ⟨vb,enc a,a.spot⟩) 0 0) (.slice (aA a) 0 0)
 |same (hS:Al 1000001) (x:zY):bG Al π (.func (.method "") #[.iface 1000000 .nilIface] #[x]) (.func (.method "") #[.iface 1000000 .nilIface] #[x])
structure aZ (Al:zF)(π:Rn)(cs cs':zA):Prop where
 size:cs'.size=cs.size
 at':∀(i:Nat)(v v':zY),cs[i]? =aA v->cs'[i]? =aA v'->bG Al π v v'
variable {Al:zF}{π ρ:Rn}
def bU.mono (h:∀b b',π b b'->ρ b b'){a a'}(x:bU π a a'):bU ρ a a':=⟨h _ _ x.1,x.2⟩
def vF.mono (h:∀b b',π b b'->ρ b b'){a a'}(x:vF π a a'):vF ρ a a':=by
 cases x with
 |none=>exact .none
 |some y=>exact .some (y.mono h)
def bG.mono (h:∀b b',π b b'->ρ b b'){v v'}(x:bG Al π v v'):bG Al ρ v v':=by
 induction x with
 |bool b=>exact .bool b
 |int k n=>exact .int k n
 |string s=>exact .string s
 |pointer y=>exact .pointer (y.mono h)
 |slice y n c=>exact .slice (y.mono h) n c
 |func g d l f _ _ i3 i4=>exact .func g d l f i3 i4
 |nilFunc=>exact .nilFunc
 |iface t _ i=>exact .iface t i
 |nilIface=>exact .nilIface
 |iT=>exact .iT
 |gH=>exact .gH
 |agg d _ i=>exact .agg d i
 |tuple d _ i=>exact .tuple d i
 |junk e h=>exact .junk e h
 |same hb x=>exact .same hb x
 |void j a=>exact .void j a
def aZ.mono (h:∀b b',π b b'->ρ b b'){v v'}(x:aZ Al π v v'):aZ Al ρ v v':=⟨x.size,λi a b d c=>(x.at' i a b d c).mono h⟩
def aZ.get {cs cs'}(h:aZ Al π cs cs')(i:Nat):(cs[i]? =aB/\cs'[i]? =aB)\/∃v b,cs[i]? =aA v/\cs'[i]? =aA b/\bG Al π v b:=by
 by_cases hi:i<cs.size
 .have a:i<cs'.size:=by{rw[h.size];exact hi};exact aI ⟨cs[i],cs'[i],by simp[hi],by simp[a],h.at' i _ _ (by simp[hi]) (by simp[a])⟩
 .exact aH ⟨by simp;omega,by simp[h.size];omega⟩
def aZ.nil:aZ Al π #[] #[]:=⟨rfl,λi v a h=>by simp at h⟩
def aZ.of {cs cs':zA}(hs:cs'.size=cs.size)(h:∀(i:Nat)(hi:i<cs.size)(c:i<cs'.size),bG Al π cs[i] cs'[i]):aZ Al π cs cs':=
 ⟨hs,λi v f b a=>by obtain⟨e,rfl⟩:=zAa.1 b;obtain⟨d,rfl⟩:=zAa.1 a;exact h i e d⟩
def aZ.push {cs cs':zA}(h:aZ Al π cs cs'){v v':zY}(f:bG Al π v v'):aZ Al π (cs.push v) (cs'.push v'):=
 ⟨by simp[h.size],λi a b d c=>by
  rw[zBk]at d c;rw[h.size]at c;split at d;{rename_i e;simp only[e,zCs]at c;cases d;cases c;exact f}
  .rename_i e;simp only[e,zDe]at c;exact h.at' i a b d c⟩
def aZ.append {cs cs' ds d:zA}(h:aZ Al π cs cs')(k:aZ Al π ds d):aZ Al π (cs++ds) (cs'++d):=
 ⟨by simp[h.size,k.size],λi a b f c=>by
  rw[Array.getElem?_append]at f c;rw[h.size]at c;split at f;{rename_i e;simp only[e,zCs]at c;exact h.at' i a b f c}
  .rename_i e;simp only[e,zDe]at c;exact k.at' _ a b f c⟩
def aZ.one {v v'}(h:bG Al π v v'):aZ Al π #[v] #[v']:=by simpa using(aZ.nil (Al:=Al) (π:=π)).push h
def aZ.set {cs cs':zA}(h:aZ Al π cs cs'){v v':zY}(g:bG Al π v v')(k:Nat):aZ Al π (cs.setIfInBounds k v) (cs'.setIfInBounds k v'):=
 ⟨by simp[h.size],λi a b d c=>by
  rw[zBt]at d c;rw[h.size]at c;by_cases e:k=i
  .rw[zAz e]at d c;by_cases f:i<cs.size
   .simp only[e,f,zCs]at d c;cases d;cases c;exact g
   .simp[e,f]at d
  .rw[zAv e]at d c;exact h.at' i a b d c⟩
def aZ.extract {cs cs':zA}(h:aZ Al π cs cs')(i j:Nat):aZ Al π (cs.extract i j) (cs'.extract i j):=
 ⟨by rw[aD4,aD4,h.size],λk a b d c=>by
  rw[Array.getElem?_extract]at d c;rw[h.size]at c;split at d;{rename_i e;simp only[e,zCs]at c;exact h.at' _ a b d c}
  .cases d⟩
def aZ.replicate {v v':zY}(d:bG Al π v v')(n:Nat):aZ Al π (aD5 n v) (aD5 n v'):=
 ⟨by simp,λi a b h c=>by
  rw[zEr]at h c;split at h;{rename_i e;simp only[e,zCs]at c;cases h;cases c;exact d}
  .cases h⟩
def bG.cells {v v'}(h:bG Al π v v'):aZ Al π v.cells v'.cells:=by
 cases h with
 |agg d e=>exact⟨d,e⟩
 |bool b=>exact .one (.bool b)
 |int k n=>exact .one (.int k n)
 |string s=>exact .one (.string s)
 |pointer y=>exact .one (.pointer y)
 |slice y n c=>exact .one (.slice y n c)
 |func j d e g o m=>exact .one (.func j d e g o m)
 |nilFunc=>exact .one .nilFunc
 |iface t i=>exact .one (.iface t i)
 |nilIface=>exact .one .nilIface
 |iT=>exact .one .iT
 |gH=>exact .one .gH
 |tuple d i=>exact .one (.tuple d i)
 |junk f h=>rw[h.cells];exact .one (.junk f h)
 |same hb x=>exact .one (.same hb x)
 |void l a=>exact .one (.void l a)
end Go.Ren
namespace Go.Ren
structure Kp where
 keep:zP
 nR:Option Nat
 cmp:Prop
instance:CoeFun Kp λ_=>zP:=⟨Kp.keep⟩
def Kp.upto (K:Kp)(i:Nat):Prop:=∀u,K.nR=aA u->i<u
@[simp]def Fatal (hl:Halt):Prop:=(∃s,hl= .stuck s)\/∃u,hl= .unsupported u/\∀g,u≠.initOrder g
class Ok (P:zZ) (π:Rn):Prop where
 inj:∀{a a' b b':Nat},π a a'->π b b'->(a=b↔a'=b')
 base:∀{b b':Nat},π b b'->(b<=P.globals.size\/b'<=P.globals.size)->b=b'
 gK:∀b,b<=P.globals.size->π b b
def Pl (Al:zF)(F:Kp)(π:Rn)(b:Nat)(o a:Option Obj):Prop:=
 ∃c c' ty fr f,o=aA (aJ c ty fr)/\a=aA (aJ c' ty f)/\aZ Al π c c'/\(F b->fr.1=0/\c.size<=fr.2/\(∀(i:Nat) m,c[i]?≠aA (.int aQ m))/\f.2<=c.size)/\(¬F b->f=fr)/\((F.cmp/\∃x,F x)->fr.2<=c.size/\f.2<=c.size)
def jH (P:zZ)(u:zD):Prop:=∀d off x,plainCell P d u off=aA x->∀(Al:zF)(π:Rn),bG Al π x x
inductive Ow (P:zZ)(π:Rn):Obj->Obj->Prop
 |view {x x':Addr} (h:bU π x x') (u:zD) (hu:jH P u):Ow P π (.view x u) (.view x' u)
 |number {x x':Addr} (h:bU π x x') (l:Bool):Ow P π (.number x l) (.number x' l)
def Zb (P:zZ)(π:Rn)(o b:Option Obj):Prop:=∃y a,o=aA y/\b=aA a/\Ow P π y a
def Ow.mono {P π ρ}(h:∀b b',π b b'->ρ b b'){y a}(x:Ow P π y a):Ow P ρ y a:=by
 cases x with
 |view h1 u hu=>exact .view (h1.mono h) u hu
 |number h1 l=>exact .number (h1.mono h) l
def BW (o:Obj):Prop:=(∀c t f,o≠aJ c t f)/\(∀x u,o≠.view x u)/\(∀x l,o≠.number x l)/\∀c t,o≠.pending c t
structure bQ (P:zZ)(Al:zF)(F:Kp)(π:Rn)(v w:zW):Prop where
 ok:Ok P π
 blk:∀b b',π b b'->Pl Al F π b v.heap[b]? w.heap[b']?\/(b<=P.globals.size/\∃o,v.heap[b]? =aA o/\w.heap[b']? =aA o/\BW o)\/Zb P π v.heap[b]? w.heap[b']?
 tape:∀k,F.upto (v.drawn+k)->w.tape (w.drawn+k)=v.tape (v.drawn+k)
 fresh:∀b,F b->b<v.heap.size
 low:P.globals.size<v.heap.size/\P.globals.size<w.heap.size
 os:w.os=v.os
 rows:∀b,F b->∃o,v.heap[b]? =aA o/\((∃c t fr,o=aJ c t fr)\/BW o)
def Shape (P:zZ)(fs:Array Func):Prop:=∀f:Nat,fs[f]? =P.funcs[f]?\/∃a b,P.funcs[f]? =aA a/\fs[f]? =aA b/\b.name=a.name/\a.body.isSome=aF/\b.body.isSome=aF/\b.norace=a.norace
inductive bN (P:zZ)(Al:zF)(F:Kp){α β:Type}(A:Rn->α->β->Prop):Rn->Sem α->Sem β->Prop
 |pure {π:Rn} {a:α} {b:β} (h:A π a b):bN P Al F A π (.pure a) (.pure b)
 |load {π:Rn} {m:Mode} {a a':Addr} {k:zY->Sem α} {k':zY->Sem β} (h:bU π a a') (hk:∀v v',bG Al π v v'->bN P Al F A π (k v) (k' v')):bN P Al F A π (.load m a k) (.load m a' k')
 |store {π:Rn} {m:Mode} {a a':Addr} {x x':zY} {k:Sem α} {k':Sem β} (h:bU π a a') (hx:bG Al π x x') (hk:bN P Al F A π k k'):bN P Al F A π (.store m a x k) (.store m a' x' k')
 |new {π:Rn} {c c':zA} {ty:zD} {k:Nat->Sem α} {k':Nat->Sem β} (h:aZ Al π c c') (hk:∀(ρ:Rn) r r',Ok P ρ->(∀b b',π b b'->ρ b b')->ρ r r'->bN P Al F A ρ (k r) (k' r')):bN P Al F A π (.new (aJ c ty) k) (.new (aJ c' ty) k')
 |view {π:Rn} {x x':Obj} {k:Nat->Sem α} {k':Nat->Sem β} (h:Ow P π x x') (hk:∀(ρ:Rn) r r',Ok P ρ->(∀b b',π b b'->ρ b b')->ρ r r'->bN P Al F A ρ (k r) (k' r')):bN P Al F A π (.new x k) (.new x' k')
 |marked {π:Rn} {c c':zA} {ty:zD} {k:Nat->Sem α} {k':Nat->Sem β} (hC:¬F.cmp) (h:aZ Al π c c') (hk:∀(ρ:Rn) r r',Ok P ρ->(∀b b',π b b'->ρ b b')->ρ r r'->bN P Al F A ρ (k r) (k' r')):bN P Al F A π (.new (aJ c ty) λr=>markStringish ⟨r,0,aB⟩>>=λ_=>k r) (.new (aJ c' ty) λr=>markStringish ⟨r,0,aB⟩>>=λ_=>k' r)
 |getObj {π:Rn} {r r':Nat} {k:Obj->Sem α} {k':Obj->Sem β} (h:π r r') (hk:∀o o',(BW o/\o'=o)\/Zb P π (aA o) (aA o')->bN P Al F A π (k o) (k' o')):bN P Al F A π (.getObj r k) (.getObj r' k')
 |shape {π:Rn} {r r':Nat} {k:Option (zD×Nat)->Sem α} {k':Option (zD×Nat)->Sem β} (h:π r r') (hk:∀s,bN P Al F A π (k s) (k' s)):bN P Al F A π (.shape r k) (.shape r' k')
 |freeze {π:Rn} {a a':Addr} {n:Nat} {k:Sem α} {k':Sem β} (hF:∀b,¬F b) (h:bU π a a') (hk:bN P Al F A π k k'):bN P Al F A π (.freeze a n k) (.freeze a' n k')
 |frozen {π:Rn} {a a':Addr} {k:Bool->Sem α} {k':Bool->Sem β} (hF:∀b,¬F b) (h:bU π a a') (hk:∀t,bN P Al F A π (k t) (k' t)):bN P Al F A π (.frozen a k) (.frozen a' k')
 |share {π:Rn} {a a':Addr} {n:Nat} {k:ByteArray->Sem α} {k':ByteArray->Sem β} (h:bU π a a') (hk:∀s,bN P Al F A π (k s) (k' s)):bN P Al F A π (loadBytes a .empty n>>=λs=>freeze a n>>=λ_=>k s) (loadBytes a' .empty n>>=λs=>freeze a' n>>=λ_=>k' s)
 |same {π:Rn} {a a' b b':Addr} {k:Bool->Sem α} {k':Bool->Sem β} (hN:F.cmp/\∃x,F x) (h:bU π a a') (h':bU π b b') (hk:∀t,bN P Al F A π (k t) (k' t)):bN P Al F A π (sameAddr a b>>=k) (sameAddr a' b'>>=k')
 |choose {π:Rn} {q:Question} {k:Nat->Sem α} {k':Nat->Sem β} (hk:∀n,bN P Al F A π (k n) (k' n)):bN P Al F A π (.choose q k) (.choose q k')
 |program {π:Rn} {k:zZ->Sem α} {k':zZ->Sem β} (he:∀fs,Shape P fs->k' ⟨P.toTables,fs⟩=k' P) (hk:bN P Al F A π (k P) (k' P)):bN P Al F A π (.program k) (.program k')
 |env {π:Rn} {k:SysRet->Sem α} {k':SysRet->Sem β} (hk:∀r,bN P Al F A π (k r) (k' r)):bN P Al F A π (.sys .env k) (.sys .env k')
 |mark {π:Rn} {m:Mark} {k:Sem α} {k':Sem β} (hm:m= .noRoom\/∃f,m= .extern f) (hk:bN P Al F A π k k'):bN P Al F A π (.mark m k) (.mark m k')
 |panic {π:Rn} {x x':zY} (h:bG Al π x x'):bN P Al F A π (.halt (.panic x)) (.halt (.panic x'))
 |dead {π:Rn} {s:Sem α} {s':Sem β} (h:∀v es,∃hl w gp,s.runT P v es=(.halt hl w,gp)/\Fatal hl):bN P Al F A π s s'
structure iQ (F:Kp)(π ρ:Rn)(v v' w w':zW):Prop where
 sub:∀b b',π b b'->ρ b b'
 QA:v.heap.size<=v'.heap.size
 size:w.heap.size<=w'.heap.size
 still:∀b',b'<w.heap.size->(∀b,π b b'->F b)->w'.heap[b']? =w.heap[b']?
 rM:∀b b',ρ b b'->π b b'\/(v.heap.size<=b/\w.heap.size<=b'/\b'<w'.heap.size)
 tape:w'.tape=w.tape
 os:w'.os=w.os
 out:w'.output=w.output
 Ah:v'.tape=v.tape
 jd:v'.os=v.os
 Qo:v'.output=v.output
 drawn:∃k,v'.drawn=v.drawn+k/\w'.drawn=w.drawn+k
 same:v.heap.size=w.heap.size->(∀b b',π b b'->b=b')->v'.heap.size=w'.heap.size/\∀b b',ρ b b'->b=b'
 DD:∀b,b<v.heap.size->(∀b',¬π b b')->v'.heap[b]? =v.heap[b]?
 full:∀b,v.heap.size<=b->b<v'.heap.size->∃b',ρ b b'
def mC (F:Kp)(ρ:Rn)(e:Event):Prop:=
 (∃a c wr s,e=⟨.cell c,wr,s⟩/\bU ρ a c/\(wr=aF->¬F a.block))\/(e.loc= .mark .noRoom\/e.loc= .output)\/(∃f,e.loc= .mark (.extern f))\/∃r b s,e=⟨.obj b,aG,s⟩/\ρ r b
def mC.mono {F π ρ}(h:∀b b',π b b'->ρ b b'){e}(x:mC F π e):mC F ρ e:=by
 obtain⟨a,i,wr,s,d,c,g⟩|x|x|⟨r,f,s,d,c⟩:=x
 .exact aH ⟨a,i,wr,s,d,c.mono h,g⟩
 .exact aI (aH x)
 .exact aI (aI (aH x))
 .exact aI (aI (aI ⟨r,f,s,d,h _ _ c⟩))
def iQ.refl {F:Kp}{π:Rn}(v w:zW):iQ F π π v v w w:=
 ⟨λ_ _ h=>h,zAb _,zAb _,λ_ _ _=>rfl,λ_ _ h=>aH h,rfl,rfl,rfl,rfl,rfl,rfl,⟨0,rfl,rfl⟩,λh k=>⟨h,k⟩,λ_ _ _=>rfl,λb c a=>by omega⟩
def iQ.trans {F:Kp}{π ρ m:Rn}{v d f w w₁ e:zW}(h:iQ F π ρ v d w w₁)(k:iQ F ρ m d f w₁ e):iQ F π m v f w e where
 sub b c x:=k.sub _ _ (h.sub _ _ x)
 QA:=zBb h.QA k.QA
 size:=zBb h.size k.size
 still c i o:=by rw[k.still c (zAd i h.size) (λb g=> ?_),h.still c i o];obtain x|⟨_,x,_⟩:=h.rM b c g;{exact o b x};{omega}
 rM b c x:=by
  obtain y|⟨j,r,q⟩:=k.rM b c x
  .obtain z|⟨p,z2,z3⟩:=h.rM b c y
   .exact aH z
   .exact aI ⟨p,z2,zAd z3 k.size⟩
  .exact aI ⟨zBb h.QA j,zBb h.size r,q⟩
 tape:=k.tape.trans h.tape
 os:=k.os.trans h.os
 out:=k.out.trans h.out
 Ah:=k.Ah.trans h.Ah
 jd:=k.jd.trans h.jd
 Qo:=k.Qo.trans h.Qo
 drawn:=by obtain⟨a,B,a2⟩:=h.drawn;obtain⟨b,A,u⟩:=k.drawn;exact⟨a+b,by omega,by omega⟩
 same x y:=let⟨s,j⟩:=h.same x y;k.same s j
 DD b i n:=by rw[k.DD b (zAd i h.QA) (λc g=> ?_),h.DD b i n];obtain x|⟨x,_⟩:=h.rM b c g;{exact n c x};{omega}
 full b h1 t:=by obtain l|l:=zDc b d.heap.size;{obtain⟨c,i⟩:=h.full b h1 l;exact⟨c,k.sub _ _ i⟩};{exact k.full b l t}
section
variable {P:zZ}{Al:zF}{F:Kp}{π:Rn}{v w:zW}
def LZ {x a}(h:bG Al π x a):x.bytes? =aB\/a.bytes? =x.bytes? :=by cases h<;>first|exact aH rfl|exact aI rfl
def sJ {x b}(h:bG Al π x b)(bs):(x.ofBytes bs=aB\/b.ofBytes bs=x.ofBytes bs)/\∀y,x.ofBytes bs=aA y->bG Al π y y:=by
 cases h<;>refine⟨by first|exact aH rfl|exact aI rfl,λy a=> ?_⟩<;>simp only[Value.ofBytes]at a<;>first|(cases a;done)|skip
 .split at a<;>first|(cases a;exact .bool _)|cases a
 .split at a<;>first|(cases a;exact .int _ _)|cases a
def IV {p c c'}(h:aZ Al π c c')(e):∀(f x stop),(∃a,seenCells p c e f x stop= .error a)\/seenCells p c' e f x stop=seenCells p c e f x stop:=by
 intro f;induction f with
 |zero=>intro x stop;exact aI rfl
 |succ f l=>
  intro x stop;simp only[seenCells];split;{exact aI rfl}
  .split
   .exact aI rfl
   .split
    .exact aI rfl
    .rename_i i s _;obtain⟨j,g⟩|⟨y,o,j,g,m⟩:=h.get i
     .rw[j,g];exact aI rfl
     .rw[j,g];dsimp only;obtain d|d:=LZ m
      .rw[d];exact aH ⟨_,rfl⟩
      .rw[d];cases y.bytes? with
       |none=>exact aI rfl
       |some n=>
        cases n with
        |nil=>exact aI rfl
        |cons q k=>dsimp only;obtain⟨a,b⟩|b:=l (s+(q::k).length) stop;{rw[b];exact aH ⟨a,rfl⟩};{rw[b];exact aI rfl}
def Eg {x f k k'}(l:bU π x f)(o:bU π k k')(u)(m){c c' e fr fr'}
  (z:v.heap[x.block]? =aA (aJ c e fr)) (y:w.heap[f.block]? =aA (aJ c' e fr')) (s:aZ Al π c c'):
  (∃a,v.seen P x u k m= .error a)\/∃first fQ cells,v.seen P x u k m= .ok (c,e,fr,first,fQ,cells)/\w.seen P f u k' m= .ok (c',e,fr',first,fQ,cells)/\plainCell P P.depth u k.off=aA fQ:=by
 unfold World.seen;simp only[l.2.1,l.2.2,o.2.1,o.2.2,z,y];by_cases n:(k.spot.isSome||x.spot.isSome)=aF
 .left;rw[zAz n];exact⟨_,rfl⟩
 simp only[zAv n];cases A:plainCell P P.depth u k.off with
 |none=>left;exact⟨_,rfl⟩
 |some fQ=>
  have h:aA fQ=aA fQ:=rfl;dsimp only;cases hb:fQ.bytes?.map (·.length)with
  |none=>left;exact⟨_,rfl⟩
  |some size=>
   cases q:byteOfCell P P.depth u k.off with
   |none=>left;exact⟨_,rfl⟩
   |some β=>
    dsimp only;by_cases p:P.cellsOf e=0;{left;rw[zAz p];exact⟨_,rfl⟩};simp only[zAv p];cases r:byteOfCell P P.depth e (x.off%P.cellsOf e)with
    |none=>left;exact⟨_,rfl⟩
    |some b=>
     dsimp only;obtain⟨a,g⟩|g:=IV s e (size+1) (x.off/P.cellsOf e*P.bytesOf e+b+β) (x.off/P.cellsOf e*P.bytesOf e+b+β+size);{left;rw[g];exact⟨_,rfl⟩};rw[g];cases B:seenCells P c e (size+1) (x.off/P.cellsOf e*P.bytesOf e+b+β) (x.off/P.cellsOf e*P.bytesOf e+b+β+size)with
     |error a=>left;exact⟨_,rfl⟩
     |ok cells=>
      cases m with
      |false=>right;exact⟨_,fQ,cells,rfl,rfl,h⟩
      |true=>
       match cells with
       |[]=>left;exact⟨_,rfl⟩
       |[(i,t,d)]=>
        by_cases j:(decide (t≠x.off/P.cellsOf e*P.bytesOf e+b+β)||decide (d.length≠size))=aF;{left;refine⟨ "memory seen as another type: an atomic access to a part of a cell",?_⟩;show(if(decide (t≠x.off/P.cellsOf e*P.bytesOf e+b+β)||decide (d.length≠size))=aF then _ else _)=_;rw[zAz j];rfl}
        .right;refine⟨x.off/P.cellsOf e*P.bytesOf e+b+β,fQ,[(i,t,d)],?_,?_,h⟩
         .show(if(decide (t≠x.off/P.cellsOf e*P.bytesOf e+b+β)||decide (d.length≠size))=aF then _ else _)=_;rw[zAv j];rfl
         .show(if(decide (t≠x.off/P.cellsOf e*P.bytesOf e+b+β)||decide (d.length≠size))=aF then _ else _)=_;rw[zAv j];rfl
       |_::_::_=>left;exact⟨_,rfl⟩
def KE {x k}(u)(m)(h:∀c t f,v.heap[x.block]?≠aA (aJ c t f)):∃a,v.seen P x u k m= .error a:=by
 unfold World.seen;by_cases b:(k.spot.isSome||x.spot.isSome)=aF
 .rw[zAz b];exact⟨_,rfl⟩
 rw[zAv b];cases g:plainCell P P.depth u k.off with
 |none=>exact⟨_,rfl⟩
 |some fQ=>
  dsimp only;cases hb:fQ.bytes?.map (·.length)with
  |none=>exact⟨_,rfl⟩
  |some size=>
   cases d:byteOfCell P P.depth u k.off with
   |none=>exact⟨_,rfl⟩
   |some β=>
    cases e:v.heap[x.block]? with
    |none=>exact⟨_,rfl⟩
    |some o=>cases o with
     |cells c t f=>exact absurd e (h c t f)
     |_=>exact⟨_,rfl⟩
def RN (h:bQ P Al F π v w){x g k k'}(l:bU π x g)(r:bU π k k')(u)(m):
  (∃j,v.seen P x u k m= .error j)\/∃c c' e fr a first fQ cells,v.seen P x u k m= .ok (c,e,fr,first,fQ,cells)/\w.seen P g u k' m= .ok (c',e,a,first,fQ,cells)/\
   v.heap[x.block]? =aA (aJ c e fr)/\w.heap[g.block]? =aA (aJ c' e a)/\aZ Al π c c'/\plainCell P P.depth u k.off=aA fQ/\(F x.block->fr.1=0/\c.size<=fr.2/\(∀(i:Nat) m,c[i]?≠aA (.int aQ m))/\a.2<=c.size)/\(¬F x.block->a=fr)/\((F.cmp/\∃x,F x)->fr.2<=c.size/\a.2<=c.size):=by
 obtain⟨c,c',e,fr,a,d,n,b,A,s⟩|⟨_,o,q,_,p⟩|⟨z,E,d,_,b⟩:=h.blk _ _ l.1
 .obtain y|⟨first,fQ,cells,D,C,B⟩:=Eg l r u m d n b
  .exact aH y
  .exact aI ⟨c,c',e,fr,a,first,fQ,cells,D,C,d,n,b,B,A,s⟩
 .left;refine KE u m λc t f e=> ?_;rw[q]at e;cases e;exact p.1 _ _ _ rfl
 .left;refine KE u m λc t f e=> ?_;rw[d]at e;cases e;cases b
def bQ.cell (h:bQ P Al F π v w){a a'}(i:bU π a a'):
  (∃x l,v.cell? a=aA x/\w.cell? a'=aA l/\bG Al π x l)\/(v.cell? a=aB/\w.cell? a'=aB):=by
 obtain⟨c,c',ty,fr,r,k,e,j,_⟩|⟨_,e,j,q,p⟩|⟨z,A,k,e,j⟩:=h.blk _ _ i.1
 .cases g:a.spot with
  |some s=>have d:a'.spot=aA s:=by{rw[i.2.2,g]};exact aI ⟨by simp[World.cell?,k,g],by simp[World.cell?,e,d]⟩
  |none=>have d:a'.spot=aB:=by{rw[i.2.2,g]};obtain⟨n,m⟩|⟨x,l,n,m,y⟩:=j.get a.off;{exact aI ⟨by simp[World.cell?,k,g,n],by simp[World.cell?,e,d,i.2.1,m]⟩};{refine aH ⟨x,l,by simp[World.cell?,k,g,n],?_,y⟩;simp only[World.cell?,e,d,i.2.1,m];rfl}
 .have no:∀(u:zW)(b:Addr),u.heap[b.block]? =aA e->u.cell? b=aB:=λu b o=>by
   unfold World.cell?;rw[o];cases e with
   |cells c t f=>exact absurd rfl (p.1 c t f)
   |_=>rfl
  exact aI ⟨no v a j,no w a' q⟩
 .cases j<;>exact aI ⟨by simp[World.cell?,k],by simp[World.cell?,e]⟩
def tF (first:Nat)(fQ:zY)(cells:List (Nat×Nat×zB)):zB:=
 cells.flatMap λ(_,s,b)=>(b.drop (first-s)).take (first+(fQ.bytes?.map (·.length)).getD 0-max first s)
def AN {z k:Addr}{t:zD}{m:Bool}{c:zA}{e:zD}{fr:Nat×Nat}{first:Nat}{fQ:zY}{cells:List (Nat×Nat×zB)}
  (h:w.seen P z t k m= .ok (c,e,fr,first,fQ,cells)):
  w.viewLoad P z t k m=match fQ.ofBytes (tF first fQ cells)with|some x=>aEa (x,cells.map λi=>(⟨z.block,i.1,aB⟩:Addr))|none=>aEb "memory seen as another type: a bool from a byte other than 0 or 1":=by
 unfold World.viewLoad;rw[h];show(match fQ.ofBytes (tF first fQ cells)with|some v=>_|_=>_)=_;cases fQ.ofBytes (tF first fQ cells)<;>rfl
def bQ.su (h:bQ P Al F π v w){a a'}(q:bU π a a')(m):
  (∃hl,v.farLoad P a m= .error hl/\Fatal hl)\/
  ∃(x:zY)(b A:Nat)(l:List Nat),v.farLoad P a m= .ok (x,l.map λi=>⟨b,i,aB⟩)/\w.farLoad P a' m= .ok (x,l.map λi=>⟨A,i,aB⟩)/\π b A/\bG Al π x x:=by
 have no:∀o,v.heap[a.block]? =o->(∀x u,o≠aA (.view x u))->(∀c t,o≠aA (.pending c t))->∃hl,v.farLoad P a m= .error hl/\Fatal hl:=by
  intro o k D C;unfold World.farLoad;rw[k];cases o with
  |none=>exact⟨_,rfl,by simp[World.noCell,k]⟩
  |some o=>
   cases o with
   |view x u=>exact absurd rfl (D x u)
   |pending c t=>exact absurd rfl (C c t)
   |_=>exact⟨_,rfl,by simp[World.noCell,k]⟩
 obtain⟨c,c',ty,fr,n,f,s,d,_⟩|⟨_,o,d,_,r⟩|⟨p,g,f,s,d⟩:=h.blk _ _ q.1
 .exact aH (no _ f (by simp) (by simp))
 .exact aH (no _ d (λx u e=>r.2.1 x u (zAk e)) (λc t e=>r.2.2.2 c t (zAk e)))
 .cases d with
  |number _ _=>exact aH (no _ f (by simp) (by simp))
  | @view z B d t hu=>
  unfold World.farLoad;simp only[f,s];obtain⟨j,e⟩|⟨c,c',e,fr,n,first,fQ,cells,H,G,K,J,I,E,_⟩:=RN h d q t m;{left;have:v.viewLoad P z t a m= .error j:=by{unfold World.viewLoad;rw[e];rfl};rw[this];exact⟨_,rfl,by simp⟩}
  .rw[AN H,AN G];cases hb:fQ.ofBytes (tF first fQ cells)with
   |none=>left;exact⟨_,rfl,by simp⟩
   |some y=>right;exact⟨y,z.block,B.block,cells.map (·.1),by simp only[zEs];rfl,by simp only[zEs];rfl,d.1,(sJ (hu _ _ _ E Al π) _).2 y hb⟩
def bO {h:zJ}{b i}(f:Obj->Obj)(a:b≠i):(h.modify b f)[i]? =h[i]? :=by rw[zDt];simp[a]
def bS {h:zJ}{b}(f:Obj->Obj):(h.modify b f)[b]? =(h[b]?).map f:=by rw[zDt];simp
def bQ.BO (h:bQ P Al F π v w){b b'}(u:π b b'){f f'}
  (r:∀o,(∃c t fr c' fr',o=aJ c t fr/\f o=aJ c' t fr'/\c'.size=c.size)\/f o=o)
  (j:∀o,(∃c t fr c' fr',o=aJ c t fr/\f' o=aJ c' t fr'/\c'.size=c.size)\/f' o=o)
  (G:∀o C,Pl Al F π b (aA o) (aA C)->Pl Al F π b (aA (f o)) (aA (f' C))):
  bQ P Al F π {v with heap:=v.heap.modify b f} {w with heap:=w.heap.modify b' f'}:=by
 have i:∀(g:Obj->Obj) y,(∀c t f,y≠aJ c t f)->(∀o,(∃c t fr c' fr',o=aJ c t fr/\g o=aJ c' t fr'/\c'.size=c.size)\/g o=o)->g y=y:=λg y E p=>by obtain⟨c,t,fr,c',fr',e,_⟩|e:=p y;{exact absurd e (E c t fr)};{exact e}
 refine⟨h.ok,λx D a=> ?_,h.tape,λx a=>by simpa using h.fresh x a,by simpa using h.low,h.os,λx a=> ?_⟩;rotate_left
 .obtain⟨o,s,k⟩:=h.rows x a;by_cases e:b=x
  .subst e;obtain⟨c1,t1,L,c2,K,O,M,N⟩|e:=r o
   .exact⟨_,by rw[bS,s,zBi,M],aH ⟨_,_,_,rfl⟩⟩
   .exact⟨o,by rw[bS,s,zBi,e],k⟩
  .exact⟨o,by rw[bO f e];exact s,k⟩
 by_cases e:b=x
 .have l:=(h.ok.inj u a).1 e;subst e;subst l;obtain y|⟨n,o,m,d,B⟩|⟨z,A,n,m,d⟩:=h.blk _ _ u
  .left;obtain⟨c,c',ty,fr,fr',J,I,H⟩:=y;have:=G (aJ c ty fr) (aJ c' ty fr') ⟨c,c',ty,fr,fr',rfl,rfl,H⟩;simp only[bS,J,I,zBi];exact this
  .right;left;have k:∀(g:Obj->Obj),(∀o,(∃c t fr c' fr',o=aJ c t fr/\g o=aJ c' t fr'/\c'.size=c.size)\/g o=o)->g o=o:=λg p=>by
    obtain⟨c,t,fr,c',fr',e,_⟩|e:=p o;{exact absurd e (B.1 c t fr)};{exact e}
   exact⟨n,o,by rw[bS,m,zBi,k f r],by rw[bS,d,zBi,k f' j],B⟩
  .right;right;refine⟨z,A,?_,?_,d⟩
   .rw[bS,n,zBi,i f z (by cases d<;>simp) r]
   .rw[bS,m,zBi,i f' A (by cases d<;>simp) j]
 .have l:b'≠D:=λq=>e ((h.ok.inj u a).2 q);obtain y|y|y:=h.blk _ _ a
  .left;simp only[bO f e,bO f' l];exact y
  .right;left;simp only[bO f e,bO f' l];exact y
  .right;right;simp only[bO f e,bO f' l];exact y
def bQ.setCell (h:bQ P Al F π v w){a a'}(b:bU π a a')(hF:¬F a.block){x e}(j:bG Al π x e):bQ P Al F π (v.setCell a x) (w.setCell a' e):=by
 refine h.BO b.1 (λo=> ?_) (λo=> ?_) (λo p l=> ?_)
 .cases o<;>first|exact aI rfl|skip
  rename_i c t fr;exact aH ⟨c,t,fr,_,fr,rfl,rfl,by split<;>simp⟩
 .cases o<;>first|exact aI rfl|skip
  rename_i c t fr;exact aH ⟨c,t,fr,_,fr,rfl,rfl,by split<;>simp⟩
 .obtain⟨c,c',ty,fr,f,n,m,i,q,g⟩:=l;cases n;cases m;refine⟨_,_,ty,fr,f,rfl,rfl,?_,λd=>absurd d hF,g.1,λk=> ?_⟩
  .rw[b.2.2,b.2.1];split
   .exact i
   .exact i.set j _
  .have:=g.2 k;split
   .exact this
   .simpa using this
def bQ.frozen (h:bQ P Al F π v w){a a'}(i:bU π a a')(hF:¬F a.block):w.frozen? a'=v.frozen? a:=by
 obtain⟨c,c',ty,fr,m,g,d,e,j,l⟩|⟨_,o,d,e,j⟩|⟨_,_,g,d,e⟩:=h.blk _ _ i.1
 .have:=l.1 hF;subst this;simp only[World.frozen?,g,d,i.2.1]
 .have no:∀(u:zW)(b:Addr),u.heap[b.block]? =aA o->u.frozen? b=aG:=λu b k=>by
   unfold World.frozen?;rw[k];cases o with
   |cells c t f=>exact absurd rfl (j.1 c t f)
   |_=>rfl
  rw[no v _ d,no w _ e]
 .cases e<;>simp only[World.frozen?,g,d]
def bQ.Bp (h:bQ P Al F π v w){a a'}(j:bU π a a')(hF:F a.block){x}(b:v.cell? a=aA x):v.frozen? a=aF:=by
 obtain⟨c,c',ty,fr,k,d,i,g,e,n⟩|⟨_,o,i,g,e⟩|⟨_,_,d,i,g⟩:=h.blk _ _ j.1
 .obtain⟨lo,hi⟩:=fr;obtain⟨m,l,_⟩:=e hF;simp only[World.cell?,d]at b;split at b
  .cases b
  .obtain⟨bT,_⟩:=zAa.1 b;simp only[World.frozen?,d,zBh,zCm];simp only at m l;omega
 .unfold World.cell? at b;rw[i]at b;cases o with
  |cells c t f=>exact absurd rfl (e.1 c t f)
  |_=>cases b
 .cases g<;>(simp only[World.cell?,d]at b;cases b)
def bQ.freeze (h:bQ P Al F π v w)(hF:∀b,¬F b){a a'}(d:bU π a a')(n):bQ P Al F π (v.freeze a n) (w.freeze a' n):=by
 unfold World.freeze;split
 .exact h
 .refine h.BO d.1 (λo=> ?_) (λo=> ?_) (λo m f=> ?_)
  .cases o<;>first|exact aI rfl|skip
   rename_i c t fr;exact aH ⟨c,t,fr,_,_,rfl,rfl,rfl⟩
  .cases o<;>first|exact aI rfl|skip
   rename_i c t fr;exact aH ⟨c,t,fr,_,_,rfl,rfl,rfl⟩
  .obtain⟨c,c',ty,fr,l,k,j,i,p,g⟩:=f;cases k;cases j;have:=g.1 (hF _);subst this;refine⟨_,_,ty,_,_,rfl,rfl,i,λx=>absurd x (hF _),λ_=> ?_,λ⟨_,x,e⟩=>absurd e (hF x)⟩;rw[d.2.1]
def bQ.TZ (h:bQ P Al F π v w){a a'}(A:bU π a a'){n}(M:∀c t fr,v.heap[a.block]? =aA (aJ c t fr)->a.off+n<=c.size)(hF:n≠0->¬F a.block):bQ P Al F π (v.freeze a n) (w.freeze a' n):=by
 unfold World.freeze;split
 .exact h
 .rename_i J;replace hF:=hF J;have hcut:∀(g:Nat×Nat)(m:Nat),g.2<=m->a.off+n<=m->(if g.1==g.2 then(a.off,a.off+n)else(min g.1 a.off,max g.2 (a.off+n))).2<=m:=by
   intro g m S O;split;{exact O};{skip;omega}
  obtain⟨k,p,d,l,B,E,R,Q,g4,g5⟩|z|z:=h.blk _ _ A.1
  .have s:=M k d l E;refine⟨h.ok,λx H j=> ?_,h.tape,λx j=>by simpa using h.fresh x j,by simpa using h.low,h.os,λx j=> ?_⟩;rotate_left
   .obtain⟨o,L,z⟩:=h.rows x j;have:a.block≠x:=λq=>hF (q▸j);exact⟨o,by rw[bO _ this];exact L,z⟩
   by_cases e:a.block=x;{have C:=(h.ok.inj A.1 j).1 e;subst e;subst C;left;have:=g5.1 hF;subst this;refine⟨k,p,d,_,_,by rw[bS,E];rfl,by rw[bS,R];rfl,Q,λq=>absurd q hF,λ_=>by rw[A.2.1],λN=> ?_⟩;have:=g5.2 N;rw[A.2.1];exact⟨hcut _ _ this.1 s,hcut _ _ this.2 s⟩};{have C:a'.block≠H:=λq=>e ((h.ok.inj A.1 j).2 q);have:=h.blk _ _ j;simpa only[bO _ e,bO _ C]using this}
  all_goals
   have same:∀(u:zW)(b:Addr)(o:Obj)(f:Obj->Obj),u.heap[b.block]? =aA o->f o=o->u.heap.modify b.block f=u.heap:=λu b o f I D=>by apply zBz;intro i;rw[zDt];by_cases hi:b.block=i;{subst hi;simp[I,D]};{simp[hi]}
  .obtain⟨_,o,k1,k2,r⟩:=z;have D:∀(g:Obj->Obj),(∀o,BW o->g o=o)->g o=o:=λg K=>K o r;rw[same v a o _ k1 (by cases o<;>first|rfl|exact absurd rfl (r.1 _ _ _)),same w a' o _ k2 (by cases o<;>first|rfl|exact absurd rfl (r.1 _ _ _))];exact h
  .obtain⟨y,G,k1,k2,r⟩:=z;rw[same v a y _ k1 (by cases r<;>rfl),same w a' G _ k2 (by cases r<;>rfl)];exact h
def more (π:Rn)(r r':Nat):Rn:=λb a=>π b a\/(b=r/\a=r')
def bQ.lt (h:bQ P Al F π v w){b b'}(e:π b b'):b<v.heap.size/\b'<w.heap.size:=by
 obtain⟨c,c',ty,fr,f,a,d,_⟩|⟨a,_⟩|⟨_,_,a,d,_⟩:=h.blk _ _ e
 .exact⟨(zAa.1 a).1,(zAa.1 d).1⟩
 .have:=h.ok.base e (aH a);have:=h.low;omega
 .exact⟨(zAa.1 a).1,(zAa.1 d).1⟩
def bQ.XN (h:bQ P Al F π v w)(o g)
  (s:Pl Al F (more π v.heap.size w.heap.size) v.heap.size (aA o) (aA g)\/Zb P (more π v.heap.size w.heap.size) (aA o) (aA g)):
  bQ P Al F (more π v.heap.size w.heap.size) {v with heap:=v.heap.push o} {w with heap:=w.heap.push g}:=by
 have c:∀b f,π b f->more π v.heap.size w.heap.size b f:=λ_ _ x=>aH x;refine⟨⟨?_,?_,λb e=>aH (h.ok.gK b e)⟩,?_,h.tape,λb e=>by have:=h.fresh b e;simp;omega,by have:=h.low;simp;omega,h.os,λb e=>let⟨i,A,u⟩:=h.rows b e;⟨i,by rw[zBk,zAv (by have:=h.fresh b e;omega)];exact A,u⟩⟩
 .rintro a H b f (x|⟨rfl,rfl⟩) (y|⟨rfl,rfl⟩)
  .exact h.ok.inj x y
  .have:=h.lt x;omega
  .have:=h.lt y;omega
  .simp
 .rintro b f (x|⟨rfl,rfl⟩) e
  .exact h.ok.base x e
  .have:=h.low;omega
 .rintro b f (x|⟨rfl,rfl⟩)
  .have hl:=h.lt x;have k:(v.heap.push o)[b]? =v.heap[b]? :=by{rw[zBk,zAv (by omega)]};have j:(w.heap.push g)[f]? =w.heap[f]? :=by{rw[zBk,zAv (by omega)]};obtain⟨d,G,t,fr,p,E,D,C,B⟩|⟨n,o,m,l,r⟩|⟨z,q,n,m,l⟩:=h.blk _ _ x;{left;exact⟨d,G,t,fr,p,by rw[k];exact E,by rw[j];exact D,C.mono c,B⟩};{right;left;exact⟨n,o,by rw[k];exact m,by rw[j];exact l,r⟩};{right;right;exact⟨z,q,by rw[k];exact n,by rw[j];exact m,l.mono c⟩}
  .have k:(v.heap.push o)[v.heap.size]? =aA o:=by{simp};have j:(w.heap.push g)[w.heap.size]? =aA g:=by{simp};simp only[k,j];obtain y|y:=s;{exact aH y};{exact aI (aI y)}
def bQ.push (h:bQ P Al F π v w){c c':zA}(a:aZ Al π c c')(ty:zD):
  bQ P Al F (more π v.heap.size w.heap.size) {v with heap:=v.heap.push (aJ c ty)} {w with heap:=w.heap.push (aJ c' ty)}:=
 h.XN _ _ (aH ⟨c,c',ty,(0,0),(0,0),rfl,rfl,a.mono (λ_ _ x=>aH x),λhF=>absurd (h.fresh _ hF) (by omega),λ_=>rfl,λ_=>⟨zBu _,zBu _⟩⟩)
def bQ.qL (h:bQ P Al F π v w)(b:¬F.cmp){c c':zA}(a:aZ Al π c c')(ty:zD):
  bQ P Al F (more π v.heap.size w.heap.size) {v with heap:=v.heap.push (aJ c ty (c.size,c.size+1))} {w with heap:=w.heap.push (aJ c' ty (c'.size,c'.size+1))}:=
 h.XN _ _ (aH ⟨c,c',ty,(c.size,c.size+1),(c'.size,c'.size+1),rfl,rfl,a.mono (λ_ _ x=>aH x),λhF=>absurd (h.fresh _ hF) (by omega),λ_=>by rw[a.size],λx=>absurd x.1 b⟩)
def nQ {α}(Q)(c)(ty)(k:Nat->Sem α)(u)(es):
  (Sem.new (aJ c ty) λr=>markStringish ⟨r,0,aB⟩>>=λ_=>k r).runT Q u es=(k u.heap.size).runT Q {u with heap:=u.heap.push (aJ c ty (c.size,c.size+1))} es:=by
 have b:(u.heap.push (aJ c ty))[u.heap.size]? =aA (aJ c ty):=by simp
 have a:({u with heap:=u.heap.push (aJ c ty)}:zW).shape? u.heap.size=aA (ty,c.size):=by simp only[World.shape?,b]
 have e:(({u with heap:=u.heap.push (aJ c ty)}:zW).freeze ⟨u.heap.size,c.size,aB⟩ 1)={u with heap:=u.heap.push (aJ c ty (c.size,c.size+1))}:=by unfold World.freeze;simp only[Nat.one_ne_zero,zDe];congr 1;apply zBz;intro i;by_cases hi:u.heap.size=i;{subst hi;rw[bS];simp};{rw[bO _ hi,zBk,zBk,zAv (zDj hi),zAv (zDj hi)]}
 simp only[Sem.runT];show(Sem.shape u.heap.size _).runT Q _ es=_;simp only[Sem.runT,a];show(Sem.freeze ⟨u.heap.size,c.size,aB⟩ 1 _).runT Q _ es=_;simp only[Sem.runT,e];rfl
def bQ.wR (h:bQ P Al F π v w){x a:Obj}(b:Ow P π x a):
  bQ P Al F (more π v.heap.size w.heap.size) {v with heap:=v.heap.push x} {w with heap:=w.heap.push a}:=
 h.XN _ _ (aI ⟨x,a,rfl,rfl,b.mono (λ_ _ x=>aH x)⟩)
def bQ.shape (h:bQ P Al F π v w){b b'}(f:π b b'):w.shape? b'=v.shape? b:=by
 obtain⟨c,c',ty,fr,g,e,d,a,_⟩|⟨_,o,d,a,_⟩|⟨_,_,e,d,a⟩:=h.blk _ _ f
 .simp only[World.shape?,e,d,a.size]
 .simp only[World.shape?,d,a]
 .cases a<;>simp only[World.shape?,e,d]
def kF (first n:Nat)(bytes:zB)(fr:Nat×Nat)(c:zA)(x:Nat×Nat×zB):Except String (zA):=
 if(decide (x.2.1<first)||decide (x.2.1+x.2.2.length>first+n))=aF then .error "memory seen as another type: a part of a cell written"
 else if(decide (fr.1<=x.1)&&decide (x.1<fr.2))=aF then .error "a write to bytes that a string shares"
 else match c[x.1]? with
  |none=> .error "memory seen as another type: no such cell"
  |some old=>match old.ofBytes ((bytes.drop (x.2.1-first)).take x.2.2.length)with
   |none=> .error "memory seen as another type: a bool from a byte other than 0 or 1"
   |some new=> .ok (c.setIfInBounds x.1 new)
def qC {z k:Addr}{t:zD}{m:Bool}{c:zA}{e:zD}{fr:Nat×Nat}{first:Nat}{fQ y:zY}{cells:List (Nat×Nat×zB)}
  (h:w.seen P z t k m= .ok (c,e,fr,first,fQ,cells)):
  w.viewStore P z t k y m=if(!tight P P.depth t)=aF then aEb "memory seen as another type: a store through a type with padding" else match y.bytes? with
   |none=>aEb "memory seen as another type: a value that is no plain data"
   |some bytes=>if aA bytes.length≠fQ.bytes?.map (·.length)then aEb "memory seen as another type: a value of another size" else
    match cells.foldlM (kF first bytes.length bytes fr) c with
    | .error a=> .error a
    | .ok c1=>aEa ({w with heap:=w.heap.setIfInBounds z.block (aJ c1 e fr)},cells.map λi=>(⟨z.block,i.1,aB⟩:Addr)):=by
 unfold World.viewStore;by_cases b:(!tight P P.depth t)=aF
 .rw[zAz b,zAz b];rfl
 .rw[zAv b,zAv b,h];show(match y.bytes? with|some bytes=>_|_=>_)=_;cases l:y.bytes? with
  |none=>rfl
  |some bytes=>
   dsimp only;by_cases d:aA bytes.length≠fQ.bytes?.map (·.length);{rw[zAz d,zAz d];rfl}
   .rw[zAv d,zAv d];have f:∀(g:zA->Nat×Nat×zB->Except String (zA)),g=kF first bytes.length bytes fr->
      (Bind.bind (List.foldlM g c cells) λc1=>(Pure.pure ({w with heap:=w.heap.setIfInBounds z.block (aJ c1 e fr)},cells.map λi=>(⟨z.block,i.1,aB⟩:Addr)):Except String (zW×List Addr)))=
       match cells.foldlM (kF first bytes.length bytes fr) c with
       | .error a=> .error a
       | .ok c1=>aEa ({w with heap:=w.heap.setIfInBounds z.block (aJ c1 e fr)},cells.map λi=>(⟨z.block,i.1,aB⟩:Addr)):=by
     rintro g rfl
     cases cells.foldlM (kF first bytes.length bytes fr) c<;>rfl
    refine f _ ?_;funext c x;obtain⟨i,s,j⟩:=x;unfold kF;dsimp only;split;{rfl}
    .split
     .rfl
     .cases c[i]? with
      |none=>rfl
      |some old=>dsimp only;cases old.ofBytes ((bytes.drop (s-first)).take j.length)<;>rfl
def Mz {first n bytes fr}:∀(cells:List (Nat×Nat×zB)){c c'},aZ Al π c c'->
  (∃b,cells.foldlM (kF first n bytes fr) c= .error b)\/∃c1 a,cells.foldlM (kF first n bytes fr) c= .ok c1/\cells.foldlM (kF first n bytes fr) c'= .ok a/\aZ Al π c1 a/\c1.size=c.size:=by
 intro cells;induction cells with
 |nil=>intro c c' h;exact aI ⟨c,c',rfl,rfl,h,rfl⟩
 |cons x cells j=>
  intro c c' h;simp only[List.foldlM_cons];unfold kF;split;{left;exact⟨_,rfl⟩}
  .split
   .left;exact⟨_,rfl⟩
   .obtain⟨f,i⟩|⟨y,k,f,i,g⟩:=h.get x.1
    .rw[f];left;exact⟨_,rfl⟩
    .rw[f,i];dsimp only;obtain d|d:=(sJ g ((bytes.drop (x.2.1-first)).take x.2.2.length)).1
     .rw[d];left;exact⟨_,rfl⟩
     rw[d];cases hb:y.ofBytes ((bytes.drop (x.2.1-first)).take x.2.2.length)with
     |none=>left;exact⟨_,rfl⟩
     |some new=>obtain⟨b,e⟩|⟨c1,a,f1,f2,f3,f4⟩:=j (h.set ((sJ g _).2 new hb) x.1);{left;exact⟨b,e⟩};{right;exact⟨c1,a,f1,f2,f3,by rw[f4];simp⟩}
def UB {first n bytes fr}(cells){c}(b:fr.1=0)(d:c.size<=fr.2):
  (∃a,cells.foldlM (kF first n bytes fr) c= .error a)\/cells=[]:=by
 cases cells with
 |nil=>exact aI rfl
 |cons x cells=>
  left;simp only[List.foldlM_cons];unfold kF;split;{exact⟨_,rfl⟩}
  .split
   .exact⟨_,rfl⟩
   .rename_i h;have:c[x.1]? =aB:=by
     rw[Array.getElem?_eq_none_iff];simp only[b,zBh,zCm]at h;omega
    rw[this];exact⟨_,rfl⟩
def fM {h:zJ}{b o}(e:h[b]? =aA o):h.setIfInBounds b o=h:=by
 apply zBz;intro i;rw[zBt];by_cases hi:b=i
 .subst hi;have:=(zAa.1 e).1;rw[zAz rfl,zAz this,e]
 .simp[hi]
def yL (c1:zA)(e:zD)(fr:Nat×Nat):Obj->Obj
 |aJ d t g=>if d.size=c1.size/\t=e then aJ c1 e fr else aJ d t g
 |o=>o
def KJ (c1)(e)(fr:Nat×Nat)(o):(∃c t f c' a,o=aJ c t f/\yL c1 e fr o=aJ c' t a/\c'.size=c.size)\/yL c1 e fr o=o:=by
 cases o with
 |cells d t g=>unfold yL;dsimp only;by_cases h:d.size=c1.size/\t=e;{left;exact⟨d,t,g,c1,fr,rfl,by rw[zAz h,h.2],h.1.symm⟩};{right;rw[zAv h]}
 |_=>exact aI rfl
def EG {h:zJ}{b c t fr}(c1)(hs:c1.size=c.size)(e:h[b]? =aA (aJ c t fr)):
  h.setIfInBounds b (aJ c1 t fr)=h.modify b (yL c1 t fr):=by
 apply zBz;intro i;rw[zBt,zDt];have:=(zAa.1 e).1;by_cases hi:b=i
 .subst hi;rw[zAz rfl,zAz this,zAz rfl,e];simp[yL,hs]
 .simp[hi]
def bQ.farStore (h:bQ P Al F π v w){a a'}(R:bU π a a'){y O}(hy:bG Al π y O)(m):
  (∃hl,v.farStore P a y m= .error hl/\Fatal hl)\/
  ∃(J w1:zW)(b H:Nat)(l:List Nat),v.farStore P a y m= .ok (J,l.map λi=>⟨b,i,aB⟩)/\w.farStore P a' O m= .ok (w1,l.map λi=>⟨H,i,aB⟩)/\π b H/\
   bQ P Al F π J w1/\iQ F π π v J w w1/\(F b->l=[]):=by
 have no:∀o,v.heap[a.block]? =o->(∀x u,o≠aA (.view x u))->(∀c t,o≠aA (.pending c t))->∃hl,v.farStore P a y m= .error hl/\Fatal hl:=by
  intro o M hn hp;unfold World.farStore;rw[M];cases o with
  |none=>exact⟨_,rfl,by simp[World.noCell,M]⟩
  |some o=>
   cases o with
   |view x u=>exact absurd rfl (hn x u)
   |pending c t=>exact absurd rfl (hp c t)
   |_=>exact⟨_,rfl,by simp[World.noCell,M]⟩
 obtain⟨c,c',ty,fr,j,E,G,n,_⟩|⟨_,o,n,_,S⟩|⟨N,I,E,G,n⟩:=h.blk _ _ R.1
 .exact aH (no _ E (by simp) (by simp))
 .exact aH (no _ n (λx u e=>S.2.1 x u (zAk e)) (λc t e=>S.2.2.2 c t (zAk e)))
 .cases n with
  |number _ _=>exact aH (no _ E (by simp) (by simp))
  | @view z B n t hu=>
  unfold World.farStore;simp only[E,G];obtain⟨k,e⟩|⟨c,c',e,fr,j,first,fQ,cells,e1,e2,X,W,V,e6,U,T⟩:=RN h n R t m
  .left;have:∃k,v.viewStore P z t a y m= .error k:=by
    unfold World.viewStore;by_cases r:(!tight P P.depth t)=aF;{rw[zAz r];exact⟨_,rfl⟩};{rw[zAv r,e];exact⟨_,rfl⟩}
   obtain⟨k,hw⟩:=this;rw[hw];exact⟨_,rfl,by simp⟩
  .rw[qC e1,qC e2];obtain s|s:=LZ hy
   .rw[s];by_cases r:(!tight P P.depth t)=aF
    .rw[zAz r];left;exact⟨_,rfl,by simp⟩
    .rw[zAv r];left;exact⟨_,rfl,by simp⟩
   rw[s];by_cases r:(!tight P P.depth t)=aF;{rw[zAz r];left;exact⟨_,rfl,by simp⟩};simp only[zAv r];cases hb:y.bytes? with
   |none=>left;exact⟨_,rfl,by simp⟩
   |some bytes=>
    dsimp only;by_cases Q:aA bytes.length≠fQ.bytes?.map (·.length);{rw[zAz Q];left;exact⟨_,rfl,by simp⟩};simp only[zAv Q];by_cases hF:F z.block
    .obtain⟨k,f⟩|f:=UB cells (U hF).1 (U hF).2.1
     .rw[f];left;exact⟨_,rfl,by simp⟩
     .subst f;right;refine⟨v,w,z.block,B.block,[],?_,?_,n.1,h,iQ.refl v w,λ_=>rfl⟩
      .simp only[List.foldlM_nil];show aEa (({v with heap:=v.heap.setIfInBounds z.block (aJ c e fr)}:zW),_)=_;rw[fM X];rfl
      .simp only[List.foldlM_nil];show aEa (({w with heap:=w.heap.setIfInBounds B.block (aJ c' e j)}:zW),_)=_;rw[fM W];rfl
    .have:=T.1 hF;subst this;obtain⟨k,f⟩|⟨c1,p,f1,f2,f3,f4⟩:=Mz cells V
     .rw[f];left;exact⟨_,rfl,by simp⟩
     .rw[f1,f2];right;have C:=f4;have L:p.size=c'.size:=by{rw[f3.size,f4,V.size]};refine⟨_,_,z.block,B.block,cells.map (·.1),by simp only[zEs];rfl,by simp only[zEs];rfl,n.1,?_,?_,λx=>absurd x hF⟩
      .have:=h.BO n.1 (KJ c1 e j) (KJ p e j) ?_
       .rw[<-EG c1 C X,<-EG p L W]at this;exact this
       .rintro o o' ⟨d,d',ty,g,g',q1,q2,K,Z,Y⟩;cases q1;cases q2;unfold yL;dsimp only;by_cases D:d.size=c1.size/\ty=e
        .rw[zAz D,zAz ⟨by rw[K.size,D.1,f3.size],D.2⟩];exact⟨c1,p,e,j,j,rfl,rfl,f3,λx=>absurd x hF,λ_=>rfl,λhN=>by have:=T.2 hN;rw[C];exact this⟩
        .rw[zAv D,zAv (λx=>D ⟨by rw[<-K.size,x.1,f3.size],x.2⟩)];exact⟨d,d',ty,g,g',rfl,rfl,K,Z,Y⟩
      .refine⟨λ_ _ x=>x,by simp,by simp,λH _ A=> ?_,λ_ _ x=>aH x,rfl,rfl,rfl,rfl,rfl,rfl,⟨0,rfl,rfl⟩,λx y=>⟨by simpa using x,y⟩,λb _ A=> ?_,λb E G=>by simp at G;omega⟩
       .have:B.block≠H:=λq=>hF (A z.block (q▸n.1));simp only[zAe this]
       .have:z.block≠b:=λq=>A B.block (q▸n.1);simp only[zAe this]
end
section
variable {P:zZ}{Al:zF}{F:Kp}{α β:Type}{A:Rn->α->β->Prop}
def Rv {α:Type}:Result α×zE->zW
 |(.ok _ w,_)=>w
 |(.halt _ w,_)=>w
def Ul (F:Kp)(u:zW):Prop:=∃n,F.nR=aA n/\n<u.drawn
def Form {α β:Type}(A:Rn->α->β->Prop)(r:Result α×zE):Prop:=
 (∃(a:α)(b:β)(d:Rn)(c:zW)(e:zE),r=(.ok a c,e)/\A d a b)\/∃(x:zY)(c:zW)(e:zE),r=(.halt (.panic x) c,e)
def fB (P:zZ)(Al:zF)(F:Kp)(A:Rn->α->β->Prop)(π:Rn)(v w:zW)(g:zE)(r:Result α×zE)(r':Result β×zE):Prop:=
 ((∃hl j c,r=(.halt hl j,c)/\Fatal hl)\/(Ul F (Rv r)/\Form A r))\/
 ∃(f:Rn)(h w1:zW)(c:zE)(d:zE),bQ P Al F f h w1/\iQ F π f v h w w1/\(∀e∈d,mC F f e)/\
  ((∃a b,r=(.ok a h,c)/\r'=(.ok b w1,g++d)/\A f a b)\/(∃x i,r=(.halt (.panic x) h,c)/\r'=(.halt (.panic i) w1,g++d)/\bG Al f x i))
def fB.step {π ρ v v1 w w1 a d r r'}
  (g:iQ F π ρ v v1 w w1) (j:∀e∈d,mC F ρ e) (h:fB P Al F A ρ v1 w1 (a++d) r r'):fB P Al F A π v w a r r':=by
 obtain h|⟨f,v2,w2,b,d2,h1,c,l,k⟩:=h
 .exact aH h
 .refine aI ⟨f,v2,w2,b,d++d2,h1,g.trans c,λe i=> ?_,?_⟩
  .obtain x|x:=zEc.1 i
   .exact(j e x).mono c.sub
   .exact l e x
  .rw[<-zEk];exact k
def mO (es)(e:Event):es++ #[e]=es.push e:=by simp
end
section
variable {P:zZ}{α β γ:Type}
def bD {s:Sem α}{f:α->Sem β}(v:zW)(es:zE):(s>>=f).runT P v es=match s.runT P v es with|(.ok a w,e)=>(f a).runT P w e|(.halt h w,e)=>(.halt h w,e):=by
 show(s.bind f).runT P v es=_;induction s generalizing v es with
 |pure a=>rfl
 |load m a k i=>
  simp only[Sem.bind,Sem.runT];split;{exact i _ _ _}
  .split
   .exact i _ _ _
   .rfl
 |store m a x k i=>cases x<;>simp only[Sem.bind,Sem.runT]<;>(repeat' split)<;>first|rfl|exact i _ _|(simp_all;done)
 |new o k i=>simp only[Sem.bind,Sem.runT];exact i _ _ _
 |shape r k i=>simp only[Sem.bind,Sem.runT];exact i _ _ _
 |freeze a n k i=>simp only[Sem.bind,Sem.runT];exact i _ _
 |frozen a k i=>simp only[Sem.bind,Sem.runT];exact i _ _ _
 |getObj r k i=>simp only[Sem.bind,Sem.runT];split<;>first|rfl|exact i _ _ _
 |setObj r o k i=>simp only[Sem.bind,Sem.runT];split<;>first|rfl|exact i _ _
 |choose q k i=>simp only[Sem.bind,Sem.runT];split<;>exact i _ _ _
 |sys c k i=>simp only[Sem.bind,Sem.runT];exact i _ _ _
 |program k i=>simp only[Sem.bind,Sem.runT];exact i _ _ _
 |mark m k i=>simp only[Sem.bind,Sem.runT];exact i _ _
 |halt h=>rfl
def bind_assoc' {s}{f:α->Sem β}{g:β->Sem γ}:(s>>=f)>>=g=s>>=λa=>f a>>=g:=by
 show(s.bind f).bind g=s.bind λa=>(f a).bind g
 induction s with
 |pure a=>rfl
 |load m a k i=>simp only[Sem.bind,i]
 |store m a x k i=>simp only[Sem.bind,i]
 |new o k i=>simp only[Sem.bind,i]
 |shape r k i=>simp only[Sem.bind,i]
 |freeze a n k i=>simp only[Sem.bind,i]
 |frozen a k i=>simp only[Sem.bind,i]
 |getObj r k i=>simp only[Sem.bind,i]
 |setObj r o k i=>simp only[Sem.bind,i]
 |choose q k i=>simp only[Sem.bind,i]
 |sys c k i=>simp only[Sem.bind,i]
 |program k i=>simp only[Sem.bind,i]
 |mark m k i=>simp only[Sem.bind,i]
 |halt h=>rfl
end
section
variable {P:zZ}{Al:zF}{F:Kp}{π:Rn}{v w:zW}
def xA (a:Addr)(acc:ByteArray)(n:Nat)(x:zY):Sem ByteArray:=
 match x with| .int aQ b=>loadBytes (a.add 1) (acc.push b.toNat.toUInt8) n|_=>stuck "a byte variable that holds no byte"
def uL (M:bQ P Al F π v w):∀(n){a z}(acc)(r j),bU π a z->
  (∃hl g,(loadBytes a acc n).runT P v r=(.halt hl v,g)/\Fatal hl)\/
  ∃s g d,(loadBytes a acc n).runT P v r=(.ok s v,g)/\(loadBytes z acc n).runT P w j=(.ok s w,j++d)/\(∀e∈d,mC F π e)/\
   (n≠0->(∀c t fr,v.heap[a.block]? =aA (aJ c t fr)->a.off+n<=c.size)/\¬F a.block):=by
 intro n;induction n with
 |zero=>intro a z acc r j h;exact aI ⟨acc,r,#[],rfl,by simp[loadBytes,pure,Sem.runT],by simp,λh=>absurd rfl h⟩
 |succ n Z=>
  intro a z acc r j h;have H:∀(x G:zY)(d:zE)(u:zE),bG Al π x G->(∀e∈d,mC F π e)->
    (loadBytes a acc (n+1)).runT P v r=(xA a acc n x).runT P v u->
    (loadBytes z acc (n+1)).runT P w j=(xA z acc n G).runT P w (j++d)->
    (∀m,x= .int aQ m->(∀c t fr,v.heap[a.block]? =aA (aJ c t fr)->a.off+1<=c.size/\a.spot=aB)/\¬F a.block)->
    (∃hl g,(loadBytes a acc (n+1)).runT P v r=(.halt hl v,g)/\Fatal hl)\/
    ∃s g d,(loadBytes a acc (n+1)).runT P v r=(.ok s v,g)/\(loadBytes z acc (n+1)).runT P w j=(.ok s w,j++d)/\(∀e∈d,mC F π e)/\
     (n+1≠0->(∀c t fr,v.heap[a.block]? =aA (aJ c t fr)->a.off+(n+1)<=c.size)/\¬F a.block):=by
   intro x G d u hx E p K hb
   rw[p,K]
   have no:xA a acc n x=stuck "a byte variable that holds no byte"->
     ∃hl g,(xA a acc n x).runT P v u=(.halt hl v,g)/\Fatal hl:=λe=>by rw[e];exact⟨_,_,rfl,by simp⟩
   cases hx with
   |int k m=>
    cases k<;>first|exact aH (no rfl)|skip
    obtain⟨R,Q⟩:=hb m rfl;show(∃hl g,(loadBytes (a.add 1) (acc.push m.toNat.toUInt8) n).runT P v u=(.halt hl v,g)/\Fatal hl)\/∃s g L,(loadBytes (a.add 1) (acc.push m.toNat.toUInt8) n).runT P v u=(.ok s v,g)/\(loadBytes (z.add 1) (acc.push m.toNat.toUInt8) n).runT P w (j++d)=(.ok s w,j++L)/\_;obtain y|⟨s,g,d2,Y,X,W,V⟩:=Z (acc.push m.toNat.toUInt8) u (j++d) (h.add 1);{exact aH y}
    .refine aI ⟨s,g,d++d2,Y,by rw[X,zEk],λe D=> ?_,λ_=>⟨λc t fr B=> ?_,Q⟩⟩
     .obtain q|q:=zEc.1 D
      .exact E e q
      .exact W e q
     .have q1:=R c t fr B;by_cases hn:n=0
      .omega
      .have:=(V hn).1 c t fr (by simpa [Addr.add]using B);simp[Addr.add]at this;omega
   |_=>exact aH (no rfl)
  obtain⟨x,G,p,K,C⟩|⟨p,K⟩:=M.cell h
  .refine H x G #[⟨.cell z,aG,aG⟩] (r.push ⟨.cell a,aG,aG⟩) C (λe D=> ?_) ?_ ?_ ?_
   .simp only[zAs,zAm]at D;subst D;exact aH ⟨a,z,aG,_,rfl,h,by simp⟩
   .show(Sem.load .plain a _).runT P v r=_;simp only[Sem.runT,p];rfl
   .show(Sem.load .plain z _).runT P w j=_;rw[mO];simp only[Sem.runT,K];rfl
   .intro m T;subst T;refine⟨λc t fr B=> ?_,λhF=> ?_⟩
    .simp only[World.cell?,B]at p;split at p
     .cases p
     .rename_i O;have:=(zAa.1 p).1;exact⟨by omega,by simpa using O⟩
    .obtain⟨c,c',ty,fr,fr',J,g2,N,g4,g5⟩|⟨_,o,J,_,N⟩|⟨y,y',J,_,N⟩:=M.blk _ _ h.1
     .simp only[World.cell?,J]at p;split at p
      .cases p
      .exact(g4 hF).2.2.1 _ _ p
     .unfold World.cell? at p;rw[J]at p;cases o with
      |cells c t f=>exact absurd rfl (N.1 c t f)
      |_=>cases p
     .unfold World.cell? at p;rw[J]at p;cases N<;>cases p
  .obtain⟨hl,C,S⟩|⟨x,b,U,l,C,S,e5,e6⟩:=M.su h aG
   .left;refine⟨hl,r,?_,S⟩;show(Sem.load .plain a _).runT P v r=_;simp only[Sem.runT,p];rw[show((Mode.plain==Mode.atomic):Bool)=aG from rfl,C]
   .refine H x x ((l.map λi=>(⟨U,i,aB⟩:Addr)).toArray.map λa=>(⟨.cell a,aG,aG⟩:Event)) (r++(l.map λi=>(⟨b,i,aB⟩:Addr)).toArray.map λa=>(⟨.cell a,aG,aG⟩:Event)) e6 (λe D=> ?_) ?_ ?_ ?_
    .simp only[zFt,zEs,zAs,zBl]at D;obtain⟨i,_,rfl⟩:=D;exact aH ⟨⟨b,i,aB⟩,⟨U,i,aB⟩,aG,_,rfl,⟨e5,rfl,rfl⟩,by simp⟩
    .show(Sem.load .plain a _).runT P v r=_;simp only[Sem.runT,p];rw[show((Mode.plain==Mode.atomic):Bool)=aG from rfl,C];rfl
    .show(Sem.load .plain z _).runT P w j=_;simp only[Sem.runT,K];rw[show((Mode.plain==Mode.atomic):Bool)=aG from rfl,S];rfl
    .intro m T;have I:∀c t fr,v.heap[a.block]?≠aA (aJ c t fr):=λc t fr B=>by
      unfold World.farLoad at C;rw[B]at C;cases C
     exact⟨λc t fr B=>absurd B (I c t fr),λhF=>by
      obtain⟨o,B,⟨c,t,fr,rfl⟩|E⟩:=M.rows _ hF;{exact I c t fr B}
      .unfold World.farLoad at C;rw[B]at C;cases o<;>first|(cases C;done)|exact absurd rfl (E.2.1 _ _)|exact absurd rfl (E.2.2.1 _ _)|exact absurd rfl (E.2.2.2 _ _)|exact absurd rfl (E.1 _ _ _)⟩
def qP (B:bQ P Al F π v w){a a'}(h:bU π a a')(es j):
  (∃hl n,(noView a).runT P v es=(.halt hl v,n)/\Fatal hl)\/
  ∃n d,(noView a).runT P v es=(.ok () v,n)/\(noView a').runT P w j=(.ok () w,j++d)/\∀e∈d,mC F π e:=by
 have i:∀(u:zW)(b:Addr) c t fr (es:zE),u.heap[b.block]? =aA (aJ c t fr)->(noView b).runT P u es=(.ok () u,es):=λu b c t fr es p=>by have:u.shape? b.block=aA (t,c.size):=by{simp only[World.shape?,p]};show(Sem.shape b.block _).runT P u es=_;simp only[Sem.runT,this];rfl
 have g:∀(u:zW)(b:Addr) o (es:zE),u.heap[b.block]? =aA o->(∀c t f,o≠aJ c t f)->(∀x t,o≠.view x t)->(noView b).runT P u es=(.ok () u,es.push ⟨.obj b.block,aG,o.isChan⟩):=λu b o es p s C=>by
  have:u.shape? b.block=aB:=by
   simp only[World.shape?,p];cases o with
   |cells c t f=>exact absurd rfl (s c t f)
   |_=>rfl
  show(Sem.shape b.block _).runT P u es=_;simp only[Sem.runT,this];show(Sem.getObj b.block _).runT P u es=_;simp only[Sem.runT,p];cases o with
  |cells c t f=>exact absurd rfl (s c t f)
  |view x t=>exact absurd rfl (C x t)
  |_=>rfl
 obtain⟨c,c',ty,fr,D,m,r,k,g4,g5⟩|⟨_,o,m,r,k⟩|⟨y,E,m,r,k⟩:=B.blk _ _ h.1
 .exact aI ⟨es,#[],i v a _ _ _ es m,by rw[i w a' _ _ _ j r,zCq],by simp⟩
 .refine aI ⟨_,#[⟨.obj a'.block,aG,o.isChan⟩],g v a o es m k.1 k.2.1,by rw[g w a' o j r k.1 k.2.1,mO],λe q=> ?_⟩;simp only[zAs,zAm]at q;subst q;exact aI (aI (aI ⟨a.block,a'.block,_,rfl,h.1⟩))
 .cases k with
  |view z u p=>left;refine⟨.unsupported (.unsafePointer "memory seen as another type"),es.push ⟨.obj a.block,aG,aG⟩,?_,by simp⟩;have:v.shape? a.block=aB:=by{simp only[World.shape?,m]};show(Sem.shape a.block _).runT P v es=_;simp only[Sem.runT,this];show(Sem.getObj a.block _).runT P v es=_;simp only[Sem.runT,m];rfl
  |number z l=>refine aI ⟨_,#[⟨.obj a'.block,aG,aG⟩],g v a _ es m (by simp) (by simp),by rw[g w a' _ j r (by simp) (by simp),mO];rfl,λe q=> ?_⟩;simp only[zAs,zAm]at q;subst q;exact aI (aI (aI ⟨a.block,a'.block,_,rfl,h.1⟩))
def BN (u:zW)(a:Addr):Prop:=∀c t fr,u.heap[a.block]? =aA (aJ c t fr)->fr.2<=c.size
def uF {u a}(h:BN u a)(es):(stringish a).runT P u es=(.ok (u.frozen? a) u,es):=by
 show(Sem.frozen a _).runT P u es=_;simp only[Sem.runT];cases d:u.frozen? a with
 |true=>rfl
 |false=>
  show(Sem.shape a.block _).runT P u es=_;simp only[Sem.runT];cases hu:u.heap[a.block]? with
  |none=>simp only[World.shape?,hu];rfl
  |some o=>
   cases o with
   |cells c t fr=>
    simp only[World.shape?,hu];show(Sem.frozen {block:=a.block,off:=c.size} _).runT P u es=_;have:u.frozen? {block:=a.block,off:=c.size}=aG:=by obtain⟨lo,hi⟩:=fr;have:=h c t (lo,hi) hu;simp only[World.frozen?,hu];simp only at this;have b:¬c.size<hi:=by{omega};simp[b]
    simp only[Sem.runT,this]
   |_=>simp only[World.shape?,hu];rfl
def xB {u a b}(e:BN u a)(d:BN u b)(es):(mayBeOne a b).runT P u es=(.ok (u.frozen? a&&u.frozen? b) u,es):=by
 have pos:∀(x:Addr),BN u x->u.frozen? x=aF->(u.shape? x.block matches aA (_,0))=aG:=λx f h=>by
  unfold World.frozen? at h;unfold World.shape?;cases hu:u.heap[x.block]? with
  |none=>rfl
  |some o=>
   cases o with
   |cells c t fr=>
    obtain⟨lo,hi⟩:=fr;rw[hu]at h;have:=f c t (lo,hi) hu;simp only[zBh,zCm]at h;simp only at this;cases g:c.size with
    |zero=>omega
    |succ n=>simp[g]
   |_=>rfl
 unfold mayBeOne;rw[bD,uF e];dsimp only;rw[bD,uF d];show(Sem.shape a.block _).runT P u es=_;simp only[Sem.runT];show(Sem.shape b.block _).runT P u es=_;simp only[Sem.runT];show(Result.ok ((u.frozen? a&&u.frozen? b)||(u.frozen? a&&(u.shape? a.block matches aA (_,0)))||(u.frozen? b&&(u.shape? b.block matches aA (_,0)))) u,es)=_;have j:(u.frozen? a&&(u.shape? a.block matches aA (_,0)))=aG:=by
  cases h1:u.frozen? a with
  |false=>rfl
  |true=>rw[Bool.true_and];exact pos a e h1
 have i:(u.frozen? b&&(u.shape? b.block matches aA (_,0)))=aG:=by
  cases h1:u.frozen? b with
  |false=>rfl
  |true=>rw[Bool.true_and];exact pos b d h1
 rw[j,i,Bool.or_false,Bool.or_false]
def LN (m:bQ P Al F π v w){a a'}(h:bU π a a')(q:F.cmp/\∃x,F x):BN v a/\BN w a'/\(w.frozen? a'=aF->v.frozen? a=aF):=by
 obtain⟨c,c',ty,fr,l,j,i,g,g4,g5⟩|⟨_,o,j,i,g⟩|⟨y,u,j,i,g⟩:=m.blk _ _ h.1
 .have k:=g5.2 q;refine⟨λc1 t1 e b=> ?_,λc1 t1 e b=> ?_,λd=> ?_⟩
  .rw[j]at b;cases b;exact k.1
  .rw[i]at b;cases b;rw[g.size];exact k.2
  .by_cases hF:F a.block
   .obtain⟨s,r,_⟩:=g4 hF;obtain⟨lo,hi⟩:=fr;obtain⟨n,p⟩:=l;simp only[World.frozen?,i,zBh,zCm]at d;simp only[World.frozen?,j,zBh,zCm];simp only at s r k;rw[h.2.1]at d;omega
   .rw[m.frozen h hF]at d;exact d
 .refine⟨λc1 t1 e b=> ?_,λc1 t1 e b=> ?_,λd=> ?_⟩
  .rw[j]at b;cases b;exact absurd rfl (g.1 _ _ _)
  .rw[i]at b;cases b;exact absurd rfl (g.1 _ _ _)
  .unfold World.frozen? at d;rw[i]at d;cases o with
   |cells c t f=>exact absurd rfl (g.1 c t f)
   |_=>cases d
 .refine⟨λc1 t1 e b=> ?_,λc1 t1 e b=> ?_,λd=> ?_⟩
  .rw[j]at b;cases b;cases g
  .rw[i]at b;cases b;cases g
  .unfold World.frozen? at d;rw[i]at d;cases g<;>cases d
def RO (s:bQ P Al F π v w)(H:F.cmp/\∃x,F x){a a' b b'}(h:bU π a a')(k:bU π b b')(es i):
  (∃hl f,(sameAddr a b).runT P v es=(.halt hl v,f)/\Fatal hl)\/
  ∃t f d,(sameAddr a b).runT P v es=(.ok t v,f)/\(sameAddr a' b').runT P w i=(.ok t w,i++d)/\∀e∈d,mC F π e:=by
 have j:=s.ok.inj h.1 k.1;obtain⟨G,o,M⟩:=LN s h H;obtain⟨E,m,L⟩:=LN s k H;by_cases e:a.block=b.block
 .have D:=j.1 e;refine aI ⟨a==b,es,#[],?_,?_,by simp⟩
  .unfold sameAddr;simp only[e,BEq.rfl,zCs];rfl
  .unfold sameAddr;have:(a'==b')=(a==b):=by
    obtain⟨_,I,Q⟩:=h;obtain⟨_,k2,O⟩:=k;by_cases l:a=b;{subst l;have:a'=b':=by{cases a';cases b';simp_all};simp[this]};{have:a'≠b':=λq=>l (by cases a;cases b;cases a';cases b';simp_all);rw[zDr l,zDr this]}
   simp only[D,BEq.rfl,zCs,this,zCq];rfl
 .have D:a'.block≠b'.block:=λq=>e (j.2 q);have run:∀(u:zW)(c d:Addr)(es:zE),c.block≠d.block->BN u c->BN u d->(sameAddr c d).runT P u es=
    if(u.frozen? c&&u.frozen? d)=aF then(.halt (.unsupported .addressObserved) u,es)else
     match(noView c).runT P u es with
     |(.ok _ u1,f)=>match(noView d).runT P u1 f with
      |(.ok _ u2,g)=>((mayBeOne c d)>>=λt=>if t=aF then(choose (.extern "sameAddr.stringBytes" 2)>>=λn=>pure (n==1))else pure aG).runT P u2 g
      |(.halt h u2,g)=>(.halt h u2,g)
     |(.halt h u1,f)=>(.halt h u1,f):=by
   intro u c d es C N nd
   unfold sameAddr
   rw[zDr C]
   simp only[zBe,zDe]
   show(Sem.frozen c _).runT P u es=_
   simp only[Sem.runT]
   show(Sem.frozen d _).runT P u es=_
   simp only[Sem.runT]
   show Sem.runT P (if(u.frozen? c&&u.frozen? d)=aF then _ else _) u es=_
   cases(u.frozen? c&&u.frozen? d)with
   |true=>rfl
   |false=>
    simp only[zBe,zDe];rw[bD];cases(noView c).runT P u es with
    |mk r f=>
     cases r with
     |halt h u1=>rfl
     |ok _ u1=>
      dsimp only;rw[bD];cases(noView d).runT P u1 f with
      |mk r g=>cases r<;>rfl
  rw[run v a b es e G E,run w a' b' i D o m];cases B:(v.frozen? a&&v.frozen? b)with
  |true=>exact aH ⟨_,_,rfl,by simp⟩
  |false=>
   have p:(w.frozen? a'&&w.frozen? b')=aG:=by
    cases h1:w.frozen? a' with
    |false=>rfl
    |true=>
     cases I:w.frozen? b' with
     |false=>rfl
     |true=>rw[M h1,L I]at B;cases B
   rw[p];simp only[zBe,zDe];obtain⟨hl,f,z,y⟩|⟨f,d,z,y,J⟩:=qP s h es i;{rw[z];exact aH ⟨hl,f,rfl,y⟩};rw[z,y];dsimp only;obtain⟨hl,g,r1,r2⟩|⟨g,d2,r1,r2,r3⟩:=qP s k f (i++d);{rw[r1];exact aH ⟨hl,g,rfl,r2⟩};rw[r1,r2];dsimp only;rw[bD,xB G E,bD,xB o m,B,p];refine aI ⟨aG,g,d++d2,rfl,by rw[<-zEk];rfl,λx K=> ?_⟩;obtain q|q:=zEc.1 K;{exact J x q};{exact r3 x q}
end
section
variable {P:zZ}{Al:zF}{F:Kp}{α β:Type}{A:Rn->α->β->Prop}
def Hw {γ}:∀(a:Ask γ)(u:zW),u.drawn<=(u.ask a).2.drawn:=by
 intro a;induction a with
 |done x=>intro u;exact zAb _
 |ask b range k i=>intro u;unfold World.ask;dsimp only;split;{exact i _ u};{exact zBb (aEf _) (i _ {u with drawn:=u.drawn+1})}
def Dj (u:zW)(c:Sys):u.drawn<=(u.sys c).2.drawn:=by
 have:=Hw (Kernel.perform c u.os) u;unfold World.sys;split
 .exact zAb _
 .rename_i h;rw[h]at this;exact this
def XC {γ}:∀(s:Sem γ)(u)(b),u.drawn<=(Rv (s.runT P u b)).drawn:=by
 intro s;induction s with
 |pure a=>intro u b;exact zAb _
 |load m a k i=>
  intro u b;simp only[Sem.runT];split;{exact i _ _ _}
  .split
   .exact i _ _ _
   .exact zAb _
 |store m a x k i=>
  intro u b;have C:(u.setCell a x).drawn=u.drawn:=rfl;have j:∀y p l,u.farStore P a y (m== .atomic)= .ok (p,l)->p.drawn=u.drawn:=by
   intro y p l h;unfold World.farStore at h;cases hb:u.heap[a.block]? with
   |none=>rw[hb]at h;cases h
   |some o=>
    rw[hb]at h;cases o with
    |view at_ t=>
     dsimp only at h;cases d:u.viewStore P at_ t a y (m== .atomic)with
     |error f=>rw[d]at h;cases h
     |ok r=>
      rw[d]at h;cases h;cases g:u.seen P at_ t a (m== .atomic)with
      |error f=>
       have:∃f,u.viewStore P at_ t a y (m== .atomic)= .error f:=by unfold World.viewStore;by_cases B:(!tight P P.depth t)=aF;{rw[zAz B];exact⟨_,rfl⟩};{rw[zAv B,g];exact⟨_,rfl⟩}
       obtain⟨f,E⟩:=this;rw[E]at d;cases d
      |ok z=>
       obtain⟨c,e,fr,first,fQ,cells⟩:=z;rw[qC g]at d;split at d;{cases d}
       .split at d
        .cases d
        .split at d
         .cases d
         .split at d
          .cases d
          .cases d;rfl
    |_=>cases h
  cases x<;>simp only[Sem.runT]<;>first|exact zAb _|skip
  all_goals
   split
   .split
    .exact zAb _
    .refine zBb ?_ (i _ _);exact zAb _
   .split
    .rename_i h;rw[<-j _ _ _ h];exact i _ _
    .exact zAb _
 |new o k i=>intro u b;exact i _ {u with heap:=u.heap.push o} b
 |shape r k i=>intro u b;exact i _ u b
 |freeze a n k i=>intro u b;have:(u.freeze a n).drawn=u.drawn:=by{unfold World.freeze;split<;>rfl};have D:=i (u.freeze a n) b;rw[this]at D;exact D
 |frozen a k i=>intro u b;exact i _ u b
 |getObj r k i=>intro u b;simp only[Sem.runT];split<;>first|exact zAb _|exact i _ _ _
 |setObj r o k i=>intro u b;simp only[Sem.runT];split<;>first|exact zAb _|exact i {u with heap:=u.heap.setIfInBounds r o} _
 |choose q k i=>intro u b;simp only[Sem.runT];split;{exact i _ _ _};{exact zBb (aEf _) (i _ {u with drawn:=u.drawn+1} b)}
 |sys c k i=>intro u b;exact zBb (Dj u c) (i _ _ _)
 |program k i=>intro u b;exact i _ u b
 |mark m k i=>intro u b;exact i u _
 |halt h=>intro u b;exact zAb _
def bN.runT {π s s'}(h:bN P Al F A π s s'):∀(v w)(p g),bQ P Al F π v w->fB P Al F A π v w g (s.runT P v p) (s'.runT P w g):=by
 induction h with
 |pure h=>intro v w p g j;exact aI ⟨_,v,w,p,#[],j,iQ.refl v w,by simp,aH ⟨_,_,rfl,by simp[Sem.runT],h⟩⟩
 | @load π m a D k L h O B=>
  intro v w p g j;obtain⟨x,R,I,K,Q⟩|⟨I,K⟩:=j.cell h;{simp only[Sem.runT,I,K];have:=B x R Q v w (p.push ⟨.cell a,aG,m== .atomic⟩) (g.push ⟨.cell D,aG,m== .atomic⟩) j;refine fB.step (iQ.refl v w) (λe J=> ?_) (by rw[mO];exact this);simp only[zAs,zAm]at J;subst J;exact aH ⟨a,D,aG,_,rfl,h,by simp⟩}
  .obtain⟨hl,Q,S⟩|⟨x,b,E,l,Q,S,e5,e6⟩:=j.su h (m== .atomic)
   .left;left;refine⟨hl,v,p,?_,S⟩;simp only[Sem.runT,I,Q]
   .simp only[Sem.runT,I,K,Q,S];refine fB.step (iQ.refl v w) (λe J=> ?_) (B x x e6 v w _ _ j);simp only[zFt,zEs,zAs,zBl]at J;obtain⟨i,_,rfl⟩:=J;exact aH ⟨⟨b,i,aB⟩,⟨E,i,aB⟩,aG,_,rfl,⟨e5,rfl,rfl⟩,by simp⟩
 | @store π m a D x R k L h hx O B=>
  intro v w p g j;have W:(∀(cs:zA),x≠.agg cs)->(∀(cs:zA),x≠.tuple cs)->(∀(cs:zA),R≠.agg cs)->(∀(cs:zA),R≠.tuple cs)->fB P Al F A π v w g ((Sem.store m a x k).runT P v p) ((Sem.store m D R L).runT P w g):=by
   intro n1 n2 n3 n4;rw[Sem.runT.eq_5 _ _ _ _ _ _ _ (λcs h=>n1 cs h) (λcs h=>n2 cs h),Sem.runT.eq_5 _ _ _ _ _ _ _ (λcs h=>n3 cs h) (λcs h=>n4 cs h)];obtain⟨y,y',I,K,Q⟩|⟨I,K⟩:=j.cell h
   .simp only[I,K];by_cases hF:F a.block
    .left;left;rw[j.Bp h hF I];exact⟨_,_,_,rfl,by simp⟩
    .rw[j.frozen h hF];cases hf:v.frozen? a with
     |true=>left;left;exact⟨_,_,_,rfl,by simp⟩
     |false=>have:=B (v.setCell a x) (w.setCell D R) (p.push ⟨.cell a,aF,m== .atomic⟩) (g.push ⟨.cell D,aF,m== .atomic⟩) (j.setCell h hF hx);refine fB.step (ρ:=π) (v1:=v.setCell a x) (w1:=w.setCell D R) ⟨λ_ _ z=>z,by simp[World.setCell],by simp[World.setCell],λE _ G=> ?_,λ_ _ z=>aH z,rfl,rfl,rfl,rfl,rfl,rfl,⟨0,rfl,rfl⟩,λx y=>⟨by simpa [World.setCell]using x,y⟩,λb _ G=> ?_,λb N M=>by simp[World.setCell]at M;omega⟩ (λe J=> ?_) (by rw[mO];exact this);{have:D.block≠E:=λq=>hF (G a.block (q▸h.1));simp only[World.setCell,bO _ this]};{have:a.block≠b:=λq=>G D.block (q▸h.1);simp only[World.setCell,bO _ this]};{simp only[zAs,zAm]at J;subst J;exact aH ⟨a,D,aF,_,rfl,h,λ_=>hF⟩}
   .simp only[I,K];obtain⟨hl,Q,S⟩|⟨v1,w1,b,E,l,Q,S,e5,e6,e7,e8⟩:=j.farStore h hx (m== .atomic)
    .left;left;exact⟨hl,v,p,by simp only[Q],S⟩
    .simp only[Q,S];refine fB.step e7 (λe J=> ?_) (B v1 w1 _ _ e6);simp only[zFt,zEs,zAs,zBl]at J;obtain⟨i,hi,rfl⟩:=J;exact aH ⟨⟨b,i,aB⟩,⟨E,i,aB⟩,aF,_,rfl,⟨e5,rfl,rfl⟩,λ_ hF=>by rw[e8 hF]at hi;cases hi⟩
  cases hx with
  |agg _ _=>left;left;exact⟨_,_,_,rfl,by simp⟩
  |tuple _ _=>left;left;exact⟨_,_,_,rfl,by simp⟩
  |junk vb hj=>exact W (by simp) (by simp) (λcs e=>by rw[e]at hj;exact hj) (λcs e=>by rw[e]at hj;exact hj)
  |_=>exact W (by simp) (by simp) (by simp) (by simp)
 | @new π c c' ty k L h O B=>
  intro v w p g j;have:=B (more π v.heap.size w.heap.size) v.heap.size w.heap.size (j.push h ty).ok (λ_ _ x=>aH x) (aI ⟨rfl,rfl⟩) _ _ p g (j.push h ty);simp only[Sem.runT];refine fB.step (ρ:=more π v.heap.size w.heap.size) (v1:={v with heap:=v.heap.push (aJ c ty)}) (w1:={w with heap:=w.heap.push (aJ c' ty)}) (d:= #[]) ⟨λ_ _ x=>aH x,by simp only[zBw];omega,by simp only[zBw];omega,λE Z _=> ?_,λb E x=> ?_,rfl,rfl,rfl,rfl,rfl,rfl,⟨0,rfl,rfl⟩,λx y=>⟨by simp only[zBw];omega,λb E z=> ?_⟩,λb Z _=> ?_,λb N M=>⟨w.heap.size,aI ⟨by simp only[zBw]at M;omega,rfl⟩⟩⟩ (by simp) (by rw[zCq];exact this);{show(w.heap.push _)[E]? =_;rw[zBk,zAv (by omega)]}
  .obtain x|⟨rfl,rfl⟩:=x
   .exact aH x
   .exact aI ⟨zAb _,zAb _,by show _<(w.heap.push _).size;rw[zBw];omega⟩
  .obtain z|⟨rfl,rfl⟩:=z
   .exact y _ _ z
   .exact x
  .show(v.heap.push _)[b]? =_;rw[zBk,zAv (by omega)]
 | @marked π c c' ty k L hC h O B=>
  intro v w p g j;have:=B (more π v.heap.size w.heap.size) v.heap.size w.heap.size (j.qL hC h ty).ok (λ_ _ x=>aH x) (aI ⟨rfl,rfl⟩) _ _ p g (j.qL hC h ty);rw[nQ,nQ];refine fB.step (ρ:=more π v.heap.size w.heap.size) (v1:={v with heap:=v.heap.push (aJ c ty (c.size,c.size+1))}) (w1:={w with heap:=w.heap.push (aJ c' ty (c'.size,c'.size+1))}) (d:= #[]) ⟨λ_ _ x=>aH x,by simp only[zBw];omega,by simp only[zBw];omega,λE Z _=> ?_,λb E x=> ?_,rfl,rfl,rfl,rfl,rfl,rfl,⟨0,rfl,rfl⟩,λx y=>⟨by simp only[zBw];omega,λb E z=> ?_⟩,λb Z _=> ?_,λb N M=>⟨w.heap.size,aI ⟨by simp only[zBw]at M;omega,rfl⟩⟩⟩ (by simp) (by rw[zCq];exact this);{show(w.heap.push _)[E]? =_;rw[zBk,zAv (by omega)]}
  .obtain x|⟨rfl,rfl⟩:=x
   .exact aH x
   .exact aI ⟨zAb _,zAb _,by show _<(w.heap.push _).size;rw[zBw];omega⟩
  .obtain z|⟨rfl,rfl⟩:=z
   .exact y _ _ z
   .exact x
  .show(v.heap.push _)[b]? =_;rw[zBk,zAv (by omega)]
 | @view π x R k L h O B=>
  intro v w p g j;have:=B (more π v.heap.size w.heap.size) v.heap.size w.heap.size (j.wR h).ok (λ_ _ x=>aH x) (aI ⟨rfl,rfl⟩) _ _ p g (j.wR h);simp only[Sem.runT];refine fB.step (ρ:=more π v.heap.size w.heap.size) (v1:={v with heap:=v.heap.push x}) (w1:={w with heap:=w.heap.push R}) (d:= #[]) ⟨λ_ _ x=>aH x,by simp only[zBw];omega,by simp only[zBw];omega,λE Z _=> ?_,λb E x=> ?_,rfl,rfl,rfl,rfl,rfl,rfl,⟨0,rfl,rfl⟩,λx y=>⟨by simp only[zBw];omega,λb E z=> ?_⟩,λb Z _=> ?_,λb N M=>⟨w.heap.size,aI ⟨by simp only[zBw]at M;omega,rfl⟩⟩⟩ (by simp) (by rw[zCq];exact this);{show(w.heap.push _)[E]? =_;rw[zBk,zAv (by omega)]}
  .obtain x|⟨rfl,rfl⟩:=x
   .exact aH x
   .exact aI ⟨zAb _,zAb _,by show _<(w.heap.push _).size;rw[zBw];omega⟩
  .obtain z|⟨rfl,rfl⟩:=z
   .exact y _ _ z
   .exact x
  .show(v.heap.push _)[b]? =_;rw[zBk,zAv (by omega)]
 | @getObj π r T k L h O B=>
  intro v w p g j;have Y:∀(t:Bool)(e:Event),e∈#[(⟨.obj T,aG,t⟩:Event)]->mC F π e:=λt e J=>by simp only[zAs,zAm]at J;subst J;exact aI (aI (aI ⟨r,T,t,rfl,h⟩))
  obtain⟨c,c',ty,fr,fr',N,M,_⟩|⟨_,o,N,M,U⟩|⟨x,R,N,M,U⟩:=j.blk _ _ h;{left;left;exact⟨.stuck "getObj: a row of cells",v,p,by simp only[Sem.runT,N],by simp⟩}
  .have I:(Sem.getObj r k).runT P v p=(k o).runT P v (p.push ⟨.obj r,aG,o.isChan⟩):=by
    simp only[Sem.runT,N];cases o with
    |cells c t f=>exact absurd rfl (U.1 c t f)
    |_=>rfl
   have K:(Sem.getObj T L).runT P w g=(L o).runT P w (g.push ⟨.obj T,aG,o.isChan⟩):=by
    simp only[Sem.runT,M];cases o with
    |cells c t f=>exact absurd rfl (U.1 c t f)
    |_=>rfl
   rw[I,K];exact fB.step (iQ.refl v w) (d:= #[⟨.obj T,aG,o.isChan⟩]) (Y _) (by rw[mO];exact B o o (aH ⟨U,rfl⟩) v w _ _ j)
  .have I:(Sem.getObj r k).runT P v p=(k x).runT P v (p.push ⟨.obj r,aG,aG⟩):=by
    simp only[Sem.runT,N];cases U<;>rfl
   have K:(Sem.getObj T L).runT P w g=(L R).runT P w (g.push ⟨.obj T,aG,aG⟩):=by simp only[Sem.runT,M];cases U<;>rfl
   rw[I,K];exact fB.step (iQ.refl v w) (d:= #[⟨.obj T,aG,aG⟩]) (Y _) (by rw[mO];exact B _ _ (aI ⟨x,R,rfl,rfl,U⟩) v w _ _ j)
 | @shape π r T k L h O B=>intro v w p g j;simp only[Sem.runT,j.shape h];exact B _ v w p g j
 | @freeze π a D n k L hF h O B=>
  intro v w p g j;have:=B (v.freeze a n) (w.freeze D n) p g (j.freeze hF h n);simp only[Sem.runT];have C:∀(u:zW)(x:Addr),(u.freeze x n).heap.size=u.heap.size/\(u.freeze x n).tape=u.tape/\(u.freeze x n).os=u.os/\(u.freeze x n).output=u.output/\(u.freeze x n).drawn=u.drawn:=λu x=>by{unfold World.freeze;split<;>simp};refine fB.step (d:= #[]) ⟨λ_ _ x=>x,by rw[(C v a).1];exact zAb _,by rw[(C w D).1];exact zAb _,λE _ G=> ?_,λb E x=>aH x,(C _ _).2.1,(C _ _).2.2.1,(C _ _).2.2.2.1,(C _ _).2.1,(C _ _).2.2.1,(C _ _).2.2.2.1,⟨0,(C v a).2.2.2.2,(C w D).2.2.2.2⟩,λx y=>⟨by rw[(C v a).1,(C w D).1];exact x,y⟩,λb _ G=> ?_,λb N M=>by rw[(C v a).1]at M;omega⟩ (by simp) (by rw[zCq];exact this)
  .have:D.block≠E:=λq=>hF _ (G a.block (q▸h.1));unfold World.freeze;split
   .rfl
   .simp only[bO _ this]
  .have:a.block≠b:=λq=>G D.block (q▸h.1);unfold World.freeze;split
   .rfl
   .simp only[bO _ this]
 | @frozen π a D k L hF h O B=>intro v w p g j;simp only[Sem.runT,j.frozen h (hF _)];exact B _ v w p g j
 | @share π a D n k L h O B=>
  intro v w p g j;rw[bD,bD];obtain⟨hl,H,I,K⟩|⟨s,H,d,I,K,Q,S⟩:=uL j n .empty p g h;{rw[I];exact aH (aH ⟨hl,v,H,rfl,K⟩)}
  .rw[I,K];show fB P Al F A π v w g ((Sem.freeze a n (k s)).runT P v H) ((Sem.freeze D n (L s)).runT P w (g++d));simp only[Sem.runT];have C:∀(u:zW)(x:Addr),(u.freeze x n).heap.size=u.heap.size/\(u.freeze x n).tape=u.tape/\(u.freeze x n).os=u.os/\(u.freeze x n).output=u.output/\(u.freeze x n).drawn=u.drawn:=λu x=>by unfold World.freeze;split<;>simp
   have hW:bQ P Al F π (v.freeze a n) (w.freeze D n):=by by_cases X:n=0;{subst X;exact j};{exact j.TZ h (S X).1 λ_=>(S X).2}
   refine fB.step (v1:=v.freeze a n) (w1:=w.freeze D n) ⟨λ_ _ x=>x,by rw[(C v a).1];exact zAb _,by rw[(C w D).1];exact zAb _,λE _ G=> ?_,λb E x=>aH x,(C _ _).2.1,(C _ _).2.2.1,(C _ _).2.2.2.1,(C _ _).2.1,(C _ _).2.2.1,(C _ _).2.2.2.1,⟨0,(C v a).2.2.2.2,(C w D).2.2.2.2⟩,λx y=>⟨by rw[(C v a).1,(C w D).1];exact x,y⟩,λb _ G=> ?_,λb N M=>by rw[(C v a).1]at M;omega⟩ Q (B s _ _ _ _ hW)
   .unfold World.freeze;split
    .rfl
    .rename_i X;have:D.block≠E:=λq=>(S X).2 (G a.block (q▸h.1));simp only[bO _ this]
   .have:a.block≠b:=λq=>G D.block (q▸h.1);unfold World.freeze;split
    .rfl
    .simp only[bO _ this]
 | @same π a D b E k L hN h h' O B=>intro v w p g j;rw[bD,bD];obtain⟨hl,H,I,K⟩|⟨t,H,d,I,K,Q⟩:=RO j hN h h' p g;{rw[I];exact aH (aH ⟨hl,v,H,rfl,K⟩)};{rw[I,K];exact fB.step (iQ.refl v w) Q (B t v w _ _ j)}
 | @choose π q k L O B=>
  intro v w p g j;simp only[Sem.runT];split;{exact B 0 v w p g j}
  .by_cases hl:F.upto v.drawn
   .have e0:w.tape w.drawn=v.tape v.drawn:=j.tape 0 hl;have I:q.cut (w.tape w.drawn q)=q.cut (v.tape v.drawn q):=by{rw[e0]};rw[I];have:=B (q.cut (v.tape v.drawn q)) {v with drawn:=v.drawn+1} {w with drawn:=w.drawn+1} p g ⟨j.ok,j.blk,λk O=>by have:=j.tape (k+1) (by rw[zGd k 1,<-zCh];exact O);rw[zGd k 1,<-zCh,<-zCh]at this;exact this,j.fresh,j.low,j.os,j.rows⟩;exact fB.step (v1:={v with drawn:=v.drawn+1}) (w1:={w with drawn:=w.drawn+1}) (d:= #[]) ⟨λ_ _ x=>x,zAb _,zAb _,λ_ _ _=>rfl,λ_ _ x=>aH x,rfl,rfl,rfl,rfl,rfl,rfl,⟨1,rfl,rfl⟩,λx y=>⟨x,y⟩,λ_ _ _=>rfl,λb N M=>absurd M (zEy.2 N)⟩ (by simp) (by rw[zCq];exact this)
   .obtain⟨u,hu⟩:=zFb.1 hl;obtain⟨hu1,hu2⟩:=Classical.not_imp.1 hu;have hov:Ul F (Rv ((k (q.cut (v.tape v.drawn q))).runT P {v with drawn:=v.drawn+1} p)):=
     ⟨u,hu1,zAd (show u<v.drawn+1 by omega) (XC (k (q.cut (v.tape v.drawn q))) {v with drawn:=v.drawn+1} p)⟩
    have:=B (q.cut (v.tape v.drawn q)) {v with drawn:=v.drawn+1} {w with drawn:=v.drawn+1,tape:=v.tape} p g ⟨j.ok,j.blk,λ_ _=>rfl,j.fresh,j.low,j.os,j.rows⟩;obtain(N|N)|⟨V,v1,w1,H,d,g1,g2,g3,g4⟩:=this;{exact aH (aH N)};{exact aH (aI N)}
    .refine aH (aI ⟨hov,?_⟩);obtain⟨a,b,r1,r2,ag⟩|⟨x,R,r1,r2,hx⟩:=g4
     .exact aH ⟨a,b,V,v1,H,r1,ag⟩
     .exact aI ⟨x,v1,H,r1⟩
 | @program π k L J O B=>intro v w p g j;simp only[Sem.runT];exact B v w p g j
 | @mark π m k L hm O B=>intro v w p g j;simp only[Sem.runT];have:=B v w (p.push ⟨.mark m,aG,aF⟩) (g.push ⟨.mark m,aG,aF⟩) j;refine fB.step (iQ.refl v w) (d:= #[⟨.mark m,aG,aF⟩]) (λe J=> ?_) (by rw[mO];exact this);simp only[zAs,zAm]at J;subst J;obtain rfl|⟨f,rfl⟩:=hm;{exact aI (aH (aH rfl))};{exact aI (aI (aH ⟨f,rfl⟩))}
 | @env π k L O B=>intro v w p g j;have C:∀(u:zW),u.sys .env=(.strings u.os.env,u):=λu=>rfl;simp only[Sem.runT,C,j.os];have:=B (.strings v.os.env) v w (p.push ⟨.output,aF,aG⟩) (g.push ⟨.output,aF,aG⟩) j;refine fB.step (iQ.refl v w) (d:= #[⟨.output,aF,aG⟩]) (λe J=> ?_) (by rw[mO];exact this);simp only[zAs,zAm]at J;subst J;exact aI (aH (aI rfl))
 |panic h=>intro v w p g j;exact aI ⟨_,v,w,p,#[],j,iQ.refl v w,by simp,aI ⟨_,_,rfl,by simp[Sem.runT],h⟩⟩
 |dead h=>intro v w p g j;obtain⟨hl,w1,H,e,K⟩:=h v p;exact aH (aH ⟨hl,w1,H,e,K⟩)
end
section
variable {P:zZ}{Al:zF}{F:Kp}{α β γ δ:Type}
def EJ {s:Sem α}{f:α->Sem β}(v)(es){hl w e}(h:s.runT P v es=(.halt hl w,e)):(s.bind f).runT P v es=(.halt hl w,e):=by
 have b:∀(s:Sem α)(v:zW)(es:zE),(s.bind f).runT P v es=match s.runT P v es with|(.ok a w,e)=>(f a).runT P w e|(.halt h w,e)=>(.halt h w,e):=by
  intro s;induction s with
  |pure a=>intro v es;rfl
  |load m a k i=>
   intro v es;simp only[Sem.bind,Sem.runT];split;{exact i _ _ _}
   .split
    .exact i _ _ _
    .rfl
  |store m a x k i=>intro v es;cases x<;>simp only[Sem.bind,Sem.runT]<;>(repeat' split)<;>first|rfl|exact i _ _|(simp_all;done)
  |new o k i=>intro v es;simp only[Sem.bind,Sem.runT];exact i _ _ _
  |shape r k i=>intro v es;simp only[Sem.bind,Sem.runT];exact i _ _ _
  |freeze a n k i=>intro v es;simp only[Sem.bind,Sem.runT];exact i _ _
  |frozen a k i=>intro v es;simp only[Sem.bind,Sem.runT];exact i _ _ _
  |getObj r k i=>intro v es;simp only[Sem.bind,Sem.runT];split<;>first|rfl|exact i _ _ _
  |setObj r o k i=>intro v es;simp only[Sem.bind,Sem.runT];split<;>first|rfl|exact i _ _
  |choose q k i=>intro v es;simp only[Sem.bind,Sem.runT];split<;>exact i _ _ _
  |sys c k i=>intro v es;simp only[Sem.bind,Sem.runT];exact i _ _ _
  |program k i=>intro v es;simp only[Sem.bind,Sem.runT];exact i _ _ _
  |mark m k i=>intro v es;simp only[Sem.bind,Sem.runT];exact i _ _
  |halt h=>intro v es;rfl
 rw[b,h]
def bN.bind {A:Rn->α->β->Prop}{B:Rn->γ->δ->Prop}{π:Rn}{s:Sem α}{s':Sem β}{f:α->Sem γ}{f':β->Sem δ}(ok:Ok P π)(h:bN P Al F A π s s')
  (g:∀(ρ:Rn) a b,Ok P ρ->(∀x y,π x y->ρ x y)->A ρ a b->bN P Al F B ρ (f a) (f' b)):bN P Al F B π (s.bind f) (s'.bind f'):=by
 induction h with
 |pure h=>exact g _ _ _ ok (λ_ _ x=>x) h
 |load h hk i=>exact .load h λv K N=>i v K N ok g
 |store h M hk i=>exact .store h M (i ok g)
 |new h hk i=>exact .new h λρ r D d p E=>i ρ r D d p E d λC a b j m=>g C a b j λx y l=>m _ _ (p _ _ l)
 | @marked π c c' ty k q hC h hk i=>
  have G:(Sem.new (aJ c ty) λr=>markStringish ⟨r,0,aB⟩>>=λ_=>k r).bind f= .new (aJ c ty) λr=>markStringish ⟨r,0,aB⟩>>=λ_=>(k r).bind f:=by show Sem.new _ _=Sem.new _ _;congr 1;funext r;exact bind_assoc'
  have u:(Sem.new (aJ c' ty) λr=>markStringish ⟨r,0,aB⟩>>=λ_=>q r).bind f'= .new (aJ c' ty) λr=>markStringish ⟨r,0,aB⟩>>=λ_=>(q r).bind f':=by show Sem.new _ _=Sem.new _ _;congr 1;funext r;exact bind_assoc'
  rw[G,u];exact .marked hC h λρ r D d p E=>i ρ r D d p E d λC a b j m=>g C a b j λx y l=>m _ _ (p _ _ l)
 |view h hk i=>exact .view h λρ r D d p E=>i ρ r D d p E d λC a b j m=>g C a b j λx y l=>m _ _ (p _ _ l)
 |getObj h hk i=>exact .getObj h λo L O=>i o L O ok g
 |shape h hk i=>exact .shape h λs=>i s ok g
 |freeze hF h hk i=>exact .freeze hF h (i ok g)
 |frozen hF h hk i=>exact .frozen hF h λt=>i t ok g
 | @share π a z n k q h hk i=>have G:(loadBytes a .empty n>>=λs=>Go.freeze a n>>=λ_=>k s).bind f=loadBytes a .empty n>>=λs=>Go.freeze a n>>=λ_=>(k s).bind f:=bind_assoc';have u:(loadBytes z .empty n>>=λs=>Go.freeze z n>>=λ_=>q s).bind f'=loadBytes z .empty n>>=λs=>Go.freeze z n>>=λ_=>(q s).bind f':=bind_assoc';rw[G,u];exact .share h λs=>i s ok g
 | @same π a z b J k q Q h R hk i=>have G:(sameAddr a b>>=k).bind f=sameAddr a b>>=λt=>(k t).bind f:=bind_assoc';have u:(sameAddr z J>>=q).bind f'=sameAddr z J>>=λt=>(q t).bind f':=bind_assoc';rw[G,u];exact .same Q h R λt=>i t ok g
 |choose hk i=>exact .choose λn=>i n ok g
 | @program π k q he hk i=>exact .program (λS p=>congrArg (λs:Sem β=>s.bind f') (he S p)) (i ok g)
 |mark hm hk i=>exact .mark hm (i ok g)
 |env hk i=>exact .env λr=>i r ok g
 |panic h=>exact .panic h
 |dead h=>exact .dead λv I=>let⟨hl,w,H,e,u⟩:=h v I;⟨hl,w,H,EJ v I e,u⟩
end
def Flat (v:zY):Prop:=∀(Al:zF)(π:Rn),bG Al π v v
structure IE (P:zZ):Prop where
 zero:∀t i z,t<P.types.size->P.info? t=aA i->i.zero=aA z->Flat z
 slice:∀t e,t<P.types.size->P.underlying t=aA (.slice e)->e<P.types.size
 array:∀t n e,t<P.types.size->P.underlying t=aA (.array n e)->e<P.types.size
 pointer:∀t e,t<P.types.size->P.underlying t=aA (.pointer e)->e<P.types.size
abbrev ER {α:Type}:Rn->α->α->Prop:=λ_ a b=>a=b
abbrev VR (Al:zF):Rn->zY->zY->Prop:=λπ a b=>bG Al π a b
abbrev aj (Al:zF):Rn->zA->zA->Prop:=λπ a b=>aZ Al π a b
abbrev AR:Rn->Addr->Addr->Prop:=λπ a b=>bU π a b
section
variable {P:zZ}{Al:zF}{F:Kp}{π:Rn}{α β γ δ:Type}{A:Rn->α->β->Prop} [ok:Ok P π]
def aS {B:Rn->γ->δ->Prop}(A:Rn->α->β->Prop){s:Sem α}{s':Sem β}{f:α->Sem γ}{f':β->Sem δ}(h:bN P Al F A π s s')
  (c:∀(ρ:Rn) a b,Ok P ρ->(∀x y,π x y->ρ x y)->A ρ a b->bN P Al F B ρ (f a) (f' b)):bN P Al F B π (s>>=f) (s'>>=f'):=bN.bind ok h c
def QZ {hl s'}(h:Fatal hl):bN P Al F A π (.halt hl) s':= .dead λv e=>⟨hl,v,e,rfl,h⟩
def aU {w s'}:bN P Al F A π (stuck w) s':=QZ (by simp)
def aV {u:Unsupported}{s':Sem β}(h:∀g,u≠.initOrder g:=by simp):bN P Al F A π (unsupported u) s':=QZ (aI ⟨u,rfl,h⟩)
def aT {a b}(h:A π a b):bN P Al F A π (Pure.pure a) (Pure.pure b):= .pure h
def mU {x a}(h:bG Al π x a):bN P Al F A π (goPanic x) (goPanic a):= .panic h
def fU (q):bN P Al F ER π (choose q) (choose q):= .choose λ_=> .pure rfl
def dN {B:Rn->γ->δ->Prop}{k:zZ->Sem γ}{k':zZ->Sem δ}(a:∀fs,Shape P fs->k' ⟨P.toTables,fs⟩=k' P)
  (h:∀(ρ:Rn)(p q:zZ),Ok P ρ->(∀x y,π x y->ρ x y)->(p=P/\q=P)->bN P Al F B ρ (k p) (k' q)):bN P Al F B π (program>>=k) (program>>=k'):=
 .program a (h π P P ok (λ_ _ x=>x) ⟨rfl,rfl⟩)
def Jw {s s'}(h:∀v es,∃hl w e,s.runT P v es=(.halt hl w,e)/\Fatal hl):bN P Al F A π s s':= .dead h
def bB (t):bN P Al F (λ_ a b=>a=b/\P.underlying t=aA a) π (underlying t) (underlying t):=by
 refine dN (λ_ _=>rfl) ?_;rintro f p q ok g ⟨e,c⟩;rw[e,c];cases h:P.underlying t with
 |none=>exact aU
 |some d=>exact aT ⟨rfl,rfl⟩
def eG (t):bN P Al F (λ_ a b=>a=b/\P.info? t=aA a) π (typeInfo t) (typeInfo t):=by
 refine dN (λ_ _=>rfl) ?_;rintro f p q ok g ⟨e,c⟩;rw[e,c];cases h:P.info? t with
 |none=>exact aU
 |some d=>exact aT ⟨rfl,rfl⟩
def bV (t):bN P Al F ER π (sizeOf t) (sizeOf t):=by refine aS _ (eG t) ?_;rintro b a _ ok h ⟨rfl,_⟩;exact aT rfl
def KD (t):bN P Al F ER π (isAgg t) (isAgg t):=by refine aS _ (bB t) ?_;rintro b a _ ok h ⟨rfl,_⟩;cases a<;>exact aT rfl
def fT (d:IE P){t:zD}(c:t<P.types.size):bN P Al F (VR Al) π (zeroValue t) (zeroValue t):=by
 refine aS _ (eG t) ?_;rintro b a _ ok e ⟨rfl,hi⟩;cases h:a.zero with
 |none=>exact aV
 |some z=>exact aT (d.zero t a z c hi h Al b)
def QX {a a'}(h:bU π a a')(m):bN P Al F (VR Al) π (load a m) (load a' m):= .load h λ_ _ b=> .pure b
def wE {a a'}(h:bU π a a')(n):∀(i){acc b},aZ Al π acc b->bN P Al F (aj Al) π (loadCellsFrom a i n acc) (loadCellsFrom a' i n b):=by
 induction n with
 |zero=>intro i acc b c;exact aT c
 |succ n d=>intro i acc b c;exact .load (h.add i) λv f e=>d (i+1) (c.push e)
def pA {a a'}(h:bU π a a')(n):bN P Al F (aj Al) π (loadCells a n) (loadCells a' n):=wE h n 0 .nil
def bX {x a:zY}{l c:zV}(h:aZ Al π (x::l).toArray (a::c).toArray):bG Al π x a/\aZ Al π l.toArray c.toArray:=
 ⟨h.at' 0 x a (by simp) (by simp),by have:=h.size;simp at this⊢;exact this,λi v d e b=>h.at' (i+1) v d (by simpa using e) (by simpa using b)⟩
def kE:∀(l b){a d}(i),bU π a d->aZ Al π l.toArray b.toArray->bN P Al F ER π (storeCells a l i) (storeCells d b i):=by
 intro l;induction l with
 |nil=>
  intro b a d i h c;have:=c.size;cases b with
  |nil=>exact aT rfl
  |cons _ _=>simp at this
 |cons x l e=>
  intro b a d i h c;cases b with
  |nil=>have:=c.size;simp at this
  |cons j b=>obtain⟨g,f⟩:=bX c;exact .store (h.add i) g (e b (i+1) h f)
def AU {a a'}(h:bU π a a')(t):bN P Al F (VR Al) π (loadVar t a) (loadVar t a'):=by
 refine aS _ (KD t) ?_;rintro k b _ ok e rfl;cases b with
 |false=>exact QX (h.mono e) _
 |true=>refine aS _ (bV t) ?_;rintro j n _ ok d rfl;refine aS _ (pA ((h.mono e).mono d) n) ?_;intro i c c' ok g f;exact aT (.agg f.size f.at')
def toArray_toList (c:zA):c.toList.toArray=c:=by simp
def MX {a a'}(h:bU π a a'){x b}(f:bG Al π x b)(t):bN P Al F ER π (storeVar t a x) (storeVar t a' b):=by
 have d:=f.cells;refine aS _ (bV t) ?_;rintro g n _ ok c rfl;rw[d.size];by_cases e:x.cells.size=n
 .simp only[e,ne_eq,not_true_eq_false,zDe];exact kE _ _ 0 (h.mono c) (by rw[toArray_toList,toArray_toList];exact d.mono c)
 .simp only[e,ne_eq,not_false_eq_true,zCs];exact aU
def kT {c c'}(h:aZ Al π c c')(ty):bN P Al F AR π (newRow ty c) (newRow ty c'):= .new h λ_ _ _ _ _ a=> .pure ⟨a,rfl,rfl⟩
def uV {x a}(h:bG Al π x a)(ty):bN P Al F AR π (newVar ty x) (newVar ty a):=kT h.cells ty
def iY {c c'}(h:aZ Al π c c')(t)(off):bN P Al F (VR Al) π (part t c off) (part t c' off):=by
 refine aS _ (KD t) ?_;rintro j b _ ok d rfl;cases b with
 |true=>refine aS _ (bV t) ?_;rintro i n _ ok a rfl;have:=((h.mono d).mono a).extract off (off+n);exact aT (.agg this.size this.at')
 |false=>obtain⟨e,_⟩|⟨x,k,e,g,f⟩:=h.get off;{simp only[e];exact aU};{simp only[e,g];exact aT (f.mono d)}
def dU:bG Al π (.tuple #[]) (.tuple #[]):= .tuple rfl (by simp)
def lL {x a}(h:bG Al π x a):bN P Al F ER π (asIntOf x) (asIntOf a):=by
 cases h with
 |int k n=>exact aT rfl
 |pointer b=>cases b with
  |none=>exact aU
  |some _=>exact aV
 |_=>exact aU
def mV {x b}(h:bG Al π x b):bN P Al F ER π (asInt x) (asInt b):=by refine aS _ (lL h) ?_;rintro c a _ ok d rfl;exact aT rfl
def EB {x a}(h:bG Al π x a):bN P Al F ER π (asBool x) (asBool a):=by
 cases h with
 |bool b=>exact aT rfl
 |_=>exact aU
def Dz {x a}(h:bG Al π x a):bN P Al F (aj Al) π (asAgg x) (asAgg a):=by
 cases h with
 |agg h1 b=>exact aT ⟨h1,b⟩
 |_=>exact aU
def kD {x a}(h:bG Al π x a):bN P Al F AR π (Instr.sureAddr x) (Instr.sureAddr a):=by
 cases h with
 |pointer b=>cases b with
  |none=>exact aU
  |some h=>exact aT h
 |_=>exact aU
def iJ {s:Rn->α->β->Prop}:bN P Al F s π (aEc .nilDeref) (aEc .nilDeref):=by refine dN (λ_ _=>rfl) ?_;rintro b p q ok c ⟨a,h⟩;rw[a,h];exact mU (.iface _ (.string _))
def cW (m){s:Rn->α->β->Prop}:bN P Al F s π (aEc (.error m)) (aEc (.error m)):=by refine dN (λ_ _=>rfl) ?_;rintro b p q ok c ⟨a,h⟩;rw[a,h];exact mU (.iface _ (.string _))
def vZ (x y)(t)(c:BoundsCode){s:Rn->α->β->Prop}:bN P Al F s π (aEc (.bounds x y t c)) (aEc (.bounds x y t c)):=by
 refine dN (λ_ _=>rfl) ?_;rintro g p q ok j ⟨f,d⟩;rw[f,d];refine mU (.iface _ (.agg rfl ?_));intro i v b a h;have e:v=b:=by rw[a]at h;exact zAk h
 subst e;have:i=0\/i=1\/i=2\/i=3:=by have:=(zAa.1 a).1;simp at this;omega
 obtain rfl|rfl|rfl|rfl:=this<;>simp at a<;>subst a<;>constructor
def eN (k:IntKind)(x y)(c:BoundsCode){s:Rn->α->β->Prop}:bN P Al F s π (boundsPanic k x y c) (boundsPanic k x y c):=by
 unfold boundsPanic;split
 .refine aS ER ?_ ?_
  .skip;refine aS ER (fU _) ?_;rintro b a _ ok h rfl;exact aT rfl
  .rintro b a _ ok h rfl;exact vZ _ _ _ _
 .refine aS ER (aT rfl) ?_;rintro b a _ ok h rfl;exact vZ _ _ _ _
def EC {x a}(h:bG Al π x a):bN P Al F AR π (asAddr x) (asAddr a):=by
 cases h with
 |pointer b=>cases b with
  |none=>exact iJ
  |some h=>exact aT h
 |_=>exact aU
end
section
variable(P:zZ)(fs:Array Func)
def iX:∀(d:Nat)(t:zD)(off:Nat),byteOfCell ⟨P.toTables,fs⟩ d t off=byteOfCell P d t off
 |0,_,_=>rfl
 |d+1,t,off=>by unfold byteOfCell;simp only[iX d];rfl
def uE:∀(d:Nat)(t:zD)(off:Nat),cellOfByte ⟨P.toTables,fs⟩ d t off=cellOfByte P d t off
 |0,_,_=>rfl
 |d+1,t,off=>by unfold cellOfByte;simp only[uE d];rfl
def rZ (d)(e)(c o)(b):cellAtBytes ⟨P.toTables,fs⟩ d e c o b=cellAtBytes P d e c o b:=by unfold cellAtBytes;simp only[iX,uE];rfl
def QO:∀(d:Nat)(t u:zD),Program.alikeButTags ⟨P.toTables,fs⟩ d t u=P.alikeButTags d t u
 |0,_,_=>rfl
 |d+1,t,u=>by unfold Program.alikeButTags;simp only[QO d]
def MU (t):Program.stoodInAs ⟨P.toTables,fs⟩ t=P.stoodInAs t:=by unfold Program.stoodInAs;simp only[QO];rfl
def kB (t):Program.stoodInHeld ⟨P.toTables,fs⟩ t=P.stoodInHeld t:=by unfold Program.stoodInHeld;rw[MU]
def rH:∀(d:Nat)(t:zD),Program.holdsStoodIn ⟨P.toTables,fs⟩ d t=P.holdsStoodIn d t
 |0,_=>rfl
 |d+1,t=>by unfold Program.holdsStoodIn;simp only[rH d,kB];rfl
def rX:∀(d:Nat)(t:zD),Program.eqGuardType ⟨P.toTables,fs⟩ d t=P.eqGuardType d t
 |0,_=>rfl
 |d+1,t=>by unfold Program.eqGuardType;simp only[rX d];rfl
def QM (fits:zD->Bool):∀(d:Nat)(e:zD)(c o n:Nat),rowAt ⟨P.toTables,fs⟩ fits d e c o n=rowAt P fits d e c o n
 |0,_,_,_,_=>rfl
 |d+1,e,c,o,n=>by unfold rowAt;simp only[QM fits d,kB];rfl
def uD:∀(d:Nat)(t u:zD),sameLayout ⟨P.toTables,fs⟩ d t u=sameLayout P d t u
 |0,_,_=>rfl
 |d+1,t,u=>by unfold sameLayout;simp only[uD d,kB];rfl
def KB:∀(d:Nat)(e:zD)(c o:Nat)(u:zD)(n:Nat),liesAt ⟨P.toTables,fs⟩ d e c o u n=liesAt P d e c o u n
 |0,_,_,_,_,_=>rfl
 |d+1,e,c,o,u,n=>by unfold liesAt;simp only[KB d,QM,uD];rfl
end
section
variable {P:zZ}{Al:zF}{F:Kp}{π:Rn}{α β γ δ:Type}{A:Rn->α->β->Prop} [ok:Ok P π]
def eU {r r'}(h:π r r'):bN P Al F ER π (shape r) (shape r'):= .shape h λ_=> .pure rfl
def kU (hF:∀b,¬F b){a a'}(h:bU π a a'):bN P Al F ER π (frozen a) (frozen a'):= .frozen hF h λ_=> .pure rfl
def WV (hF:∀b,¬F b){a a'}(h:bU π a a')(n):bN P Al F ER π (freeze a n) (freeze a' n):= .freeze hF h (.pure rfl)
def sD (n):bN P Al F ER π (askRoom n) (askRoom n):=by
 unfold askRoom;split
 .exact .mark (aH rfl) (.pure rfl)
 .exact .pure rfl
inductive Pp (π:Rn):Option (Addr×zD)->Option (Addr×zD)->Prop
 |none:Pp π aB aB
 |some {a a':Addr} {t:zD} (h:bU π a a'):Pp π (aA (a,t)) (aA (a',t))
def qG {r r'}(h:π r r'):bN P Al F Pp π (viewAt r) (viewAt r'):=by
 refine aS _ (eU h) ?_;rintro d s _ ok b rfl;cases s with
 |some x=>exact aT .none
 |none=>
  refine .getObj (b _ _ h) ?_;rintro o f (⟨h1,a⟩|⟨x,e,h1,a,c⟩)
  .rw[a];cases o with
   |view x u=>exact absurd rfl (h1.2.1 x u)
   |_=>exact .pure .none
  .cases h1;cases a;cases c with
   |view h u _=>exact .pure (.some h)
   |number h l=>exact .pure .none
def nF {a a'}(h:bU π a a'):bN P Al F ER π (noView a) (noView a'):=by
 refine aS _ (qG h.1) ?_;intro c s d ok e b;cases b with
 |none=>exact aT rfl
 |some _=>exact aV
def uH (hF:∀b,¬F b){a a'}(h:bU π a a'):bN P Al F ER π (stringish a) (stringish a'):=by
 refine aS _ (kU hF h) ?_;rintro f b _ ok d rfl;cases b with
 |true=>exact aT rfl
 |false=>
  refine aS _ (eU (d _ _ h.1)) ?_;rintro e s _ ok c rfl;cases s with
  |none=>exact aT rfl
  |some x=>exact kU hF ⟨c _ _ (d _ _ h.1),rfl,rfl⟩
def wC (hF:∀b,¬F b){a a' b b'}(h:bU π a a')(k:bU π b b'):bN P Al F ER π (mayBeOne a b) (mayBeOne a' b'):=by
 have n:∀(d:Rn)(x f:Addr),Ok P d->bU d x f->bN P Al F ER d (do pure ((<-shape x.block) matches aA (_,0))) (do pure ((<-shape f.block) matches aA (_,0))):=by intro d x f ok m;refine aS _ (eU m.1) ?_;rintro i s _ ok u rfl;exact aT rfl
 refine aS _ (uH hF h) ?_;rintro d s1 _ ok c rfl;refine aS _ (uH hF (k.mono c)) ?_;rintro i s2 _ ok e rfl;have p:=(h.mono c).mono e;have l:=(k.mono c).mono e;refine aS ER (n i _ _ ok p) ?_;rintro j t _ ok g rfl;refine aS ER (n j _ _ ok (l.mono g)) ?_;rintro q r _ ok o rfl;exact aT rfl
def addr_eq (ok:Ok P π){a a' b b'}(h:bU π a a')(k:bU π b b'):(a'=b'↔a=b):=by
 have:=ok.inj h.1 k.1;obtain⟨_,f,d⟩:=h;obtain⟨_,k2,c⟩:=k;constructor
 .intro e;cases a;cases b;cases a';cases b';cases e;simp_all
 .intro e;cases a;cases b;cases a';cases b';cases e;simp_all
end
section
variable {P:zZ}{Al:zF}{F:Kp}{π:Rn}{α β γ δ:Type}{A:Rn->α->β->Prop} [ok:Ok P π]
inductive Pq (π:Rn):Option (Addr×Bool)->Option (Addr×Bool)->Prop
 |none:Pq π aB aB
 |some {a a':Addr} {t:Bool} (h:bU π a a'):Pq π (aA (a,t)) (aA (a',t))
def wB {r r'}(h:π r r'):bN P Al F Pq π (numberAt r) (numberAt r'):=by
 refine aS _ (eU h) ?_;rintro d s _ ok b rfl;cases s with
 |some x=>exact aT .none
 |none=>
  refine .getObj (b _ _ h) ?_;rintro o f (⟨h1,a⟩|⟨x,e,h1,a,c⟩)
  .rw[a];cases o with
   |number x u=>exact absurd rfl (h1.2.2.1 x u)
   |_=>exact .pure .none
  .cases h1;cases a;cases c with
   |view h u _=>exact .pure .none
   |number h l=>exact .pure (.some h)
def eV {a a'}(h:bU π a a'):bN P Al F (λb (x y:Addr×Bool)=>bU b x.1 y.1/\x.2=y.2) π (behindNumber a) (behindNumber a'):=by
 refine aS _ (wB h.1) ?_;intro b s e ok d c;cases c with
 |none=>exact aT ⟨h.mono d,rfl⟩
 |some h=>exact aT ⟨h,rfl⟩
def wI {a a':Addr}(h:bU π a a')(l:Bool):bN P Al F (VR Al) π (asNumber a l) (asNumber a' l):=
 .view (.number h l) λc r d _ _ b=> .pure (.pointer (.some ⟨b,rfl,rfl⟩))
def tS (ok:Ok P π){a a' b b'}(h:bU π a a')(k:bU π b b'):(a'.block==b'.block)=(a.block==b.block):=by
 have:=ok.inj h.1 k.1;by_cases e:a.block=b.block
 .simp[e,this.1 e]
 .have c:a'.block≠b'.block:=λq=>e (this.2 q);rw[zDr e,zDr c]
def xW (ok:Ok P π){a a' b b'}(h:bU π a a')(k:bU π b b'):(a'==b')=(a==b):=by
 have:=addr_eq ok h k;by_cases e:a=b
 .have c:=this.2 e;simp[e,c]
 .have c:a'≠b':=λq=>e (this.1 q);rw[zDr e,zDr c]
def IS (hF:∀b,¬F b){a a' b b'}(h:bU π a a')(k:bU π b b'):bN P Al F ER π (sameAddr a b) (sameAddr a' b'):=by
 unfold sameAddr;rw[tS ok h k,xW ok h k];split
 .exact aT rfl
 .refine aS _ (kU hF h) ?_;rintro s s1 _ ok d rfl;refine aS _ (kU hF (k.mono d)) ?_;rintro r s2 _ ok f rfl;have i:=(h.mono d).mono f;have g:=(k.mono d).mono f;split
  .exact aV
  .refine aS _ (nF i) ?_;rintro q _ _ ok c rfl;refine aS _ (nF (g.mono c)) ?_;rintro p _ _ ok e rfl;refine aS _ (wC hF ((i.mono c).mono e) ((g.mono c).mono e)) ?_;rintro o t _ ok l rfl;split
   .refine aS _ (fU _) ?_;rintro m n _ ok j rfl;exact aT rfl
   .exact aT rfl
def vY (g:F.cmp\/∀b,¬F b){a a' b b'}(h:bU π a a')(k:bU π b b'):bN P Al F ER π (sameAddr a b) (sameAddr a' b'):=by
 by_cases f:F.cmp/\∃x,F x
 .have:=bN.same (P:=P) (Al:=Al) (A:=ER) (k':=λt=> .pure t) f h k (λt=> .pure rfl);have e:∀(s:Sem Bool),(s>>=λt=> .pure t)=s:=λs=>by
   show s.bind _=s;induction s with
   |pure a=>rfl
   |load m a k i=>simp only[Sem.bind,i]
   |store m a x k i=>simp only[Sem.bind,i]
   |new o k i=>simp only[Sem.bind,i]
   |shape r k i=>simp only[Sem.bind,i]
   |freeze a n k i=>simp only[Sem.bind,i]
   |frozen a k i=>simp only[Sem.bind,i]
   |getObj r k i=>simp only[Sem.bind,i]
   |setObj r o k i=>simp only[Sem.bind,i]
   |choose q k i=>simp only[Sem.bind,i]
   |sys c k i=>simp only[Sem.bind,i]
   |program k i=>simp only[Sem.bind,i]
   |mark m k i=>simp only[Sem.bind,i]
   |halt h=>rfl
  rwa [e,e]at this
 .exact IS (λb d=>g.elim (λc=>f ⟨c,b,d⟩) λc=>c b d) h k
omit ok in
def bN.weaken {A B:Rn->α->β->Prop}{s:Sem α}{s':Sem β}(h:bN P Al F A π s s')(d:∀ρ a b,A ρ a b->B ρ a b):bN P Al F B π s s':=by
 induction h with
 |pure h=>exact .pure (d _ _ _ h)
 |load h _ i=>exact .load h i
 |store h c _ i=>exact .store h c i
 |new h _ i=>exact .new h i
 |marked hC h _ i=>exact .marked hC h i
 |view h _ i=>exact .view h i
 |getObj h _ i=>exact .getObj h i
 |shape h _ i=>exact .shape h i
 |freeze hF h _ i=>exact .freeze hF h i
 |frozen hF h _ i=>exact .frozen hF h i
 |share h _ i=>exact .share h i
 |same e h f _ i=>exact .same e h f i
 |choose _ i=>exact .choose i
 |program he _ i=>exact .program he i
 |mark hm _ i=>exact .mark hm i
 |env _ i=>exact .env i
 |panic h=>exact .panic h
 |dead h=>exact .dead h
def gZ {m S}(G:∀(ρ e) s s',(∀x y,ρ x y->e x y)->S ρ s s'->S e s s'):∀(l c:List γ)(E:Rn->γ->γ->Prop),(∀(ρ e) s s',(∀x y,ρ x y->e x y)->E ρ s s'->E e s s')->c.length=l.length->(∀(i:Nat) a b,l[i]? =aA a->c[i]? =aA b->E π a b)->∀(s s':m)(f j:γ->m->Sem (ForInStep m)),S π s s'->
  (∀(ρ) a b t k,Ok P ρ->(∀x y,π x y->ρ x y)->E ρ a b->S ρ t k->bN P Al F (λρ x y=>(∃u d,x= .yield u/\y= .yield d/\S ρ u d)\/(∃u d,x= .done u/\y= .done d/\S ρ u d)) ρ (f a t) (j b k))->
  bN P Al F S π (forIn l s f) (forIn c s' j):=by
 intro l;induction l generalizing π with
 |nil=>
  intro c E v hl r s s' f j p q;cases c with
  |nil=>exact aT p
  |cons _ _=>simp at hl
 |cons a l z=>
  intro c E v hl r s s' f j p q;cases c with
  |nil=>simp at hl
  |cons b c=>rw[List.forIn_cons,List.forIn_cons];refine aS _ (q π a b s s' ok (λ_ _ x=>x) (r 0 a b (by simp) (by simp)) p) ?_;intro ρ x y w h g;obtain⟨u,d,rfl,rfl,n⟩|⟨u,d,rfl,rfl,n⟩:=g;{exact z c E v (by simpa using hl) (λi a b C B=>v π ρ a b h (r (i+1) a b (by simpa using C) (by simpa using B))) u d f j n λe a b t k o D=>q e a b t k o λx y g=>D _ _ (h _ _ g)};{exact aT n}
def wF (op:BinOp)(k:IntKind)(x y):bN P Al F (VR Al) π (Op.intArith op k x y) (Op.intArith op k x y):=by unfold Op.intArith;cases op<;>first|exact aT (.int _ _)|exact aU
def WT (op:BinOp)(k:IntKind)(x y):bN P Al F (VR Al) π (Op.intDiv op k x y) (Op.intDiv op k x y):=by
 unfold Op.intDiv;split
 .exact cW _
 .cases op<;>first|exact aT (.int _ _)|exact aU
def AW (op:BinOp)(k:IntKind)(x y):bN P Al F (VR Al) π (Op.intBits op k x y) (Op.intBits op k x y):=by unfold Op.intBits;cases op<;>first|exact aT (.int _ _)|exact aU
def Ds (op:BinOp)(k:IntKind)(x)(a:IntKind)(y):bN P Al F (VR Al) π (Op.shift op k x a y) (Op.shift op k x a y):=by
 unfold Op.shift;split
 .exact cW _
 .cases op<;>first|exact aT (.int _ _)|exact aU
def WU (op:BinOp)(x y):bN P Al F (VR Al) π (Op.intCmp op x y) (Op.intCmp op x y):=by unfold Op.intCmp;cases op<;>first|exact aT (.bool _)|exact aU
def vX (op:BinOp)(x y):bN P Al F (VR Al) π (Op.stringOp op x y) (Op.stringOp op x y):=by
 unfold Op.stringOp;cases op<;>dsimp only<;>first|exact aT (.bool _)|exact aU|skip
 by_cases h:((x.size+y.size:Nat):Int)>IntKind.i64.max
 .rw[zAz h];exact aV
 .rw[zAv h];exact aT (.string _)
def eY {a a'}(h:bU π a a'):bN P Al F ER π (byteOf a) (byteOf a'):=by
 unfold byteOf;rw[h.2.2];cases d:a.spot with
 |some s=>exact aT rfl
 |none=>
  refine dN (λm _=>by simp only[iX];rfl) ?_;rintro l p q ok d ⟨i,g⟩;rw[i,g];refine aS _ (nF (h.mono d)) ?_;rintro k _ _ ok c rfl;refine aS _ (eU (c _ _ (d _ _ h.1))) ?_;rintro j s _ ok f rfl;cases s with
  |none=>exact aU
  |some x=>
   obtain⟨e,n⟩:=x;dsimp only;rw[h.2.1];split;{exact aT rfl}
   .cases byteOfCell P P.depth e (a.off%P.cellsOf e)with
    |none=>exact aU
    |some b=>exact aT rfl
def BQ {c}(l:Array γ)(s:c)(f f':γ->c->Sem (ForInStep c))
  (g:∀(ρ) a t,Ok P ρ->(∀x y,π x y->ρ x y)->bN P Al F ER ρ (f a t) (f' a t)):bN P Al F ER π (forIn l s f) (forIn l s f'):=by
 rw[<-zEw,<-zEw];refine gZ (λ_ _ _ _ _ h=>h) l.toList l.toList ER (λ_ _ _ _ _ h=>h) rfl (λi a b j d=>by rw[j]at d;exact zAk d) s s f f' rfl ?_;rintro ρ a _ t _ ok e rfl rfl;have:=g ρ a t ok e;exact bN.weaken this λc x y h=>by subst h;cases x with
  |yield u=>exact aH ⟨u,u,rfl,rfl,rfl⟩
  |done u=>exact aI ⟨u,u,rfl,rfl,rfl⟩
def yJ {c}(l:Array γ)(s:c)(f f':γ->c->Sem (ForInStep c))
  (j:∀(ρ) a t,a∈l.toList->Ok P ρ->(∀x y,π x y->ρ x y)->bN P Al F ER ρ (f a t) (f' a t)):bN P Al F ER π (forIn l s f) (forIn l s f'):=by
 rw[<-zEw,<-zEw];refine gZ (λ_ _ _ _ _ h=>h) l.toList l.toList (λ_ a b=>a=b/\a∈l.toList) (λ_ _ _ _ _ h=>h) rfl (λi a b e d=>by rw[e]at d;exact⟨zAk d,zDf e⟩) s s f f' rfl ?_;rintro ρ a _ t _ ok g ⟨rfl,hm⟩ rfl;have:=j ρ a t hm ok g;exact bN.weaken this λc x y h=>by subst h;cases x with
  |yield u=>exact aH ⟨u,u,rfl,rfl,rfl⟩
  |done u=>exact aI ⟨u,u,rfl,rfl,rfl⟩
def WS (t:zD){a a' b b':Addr}(c:bU π a a')(d:bU π b b'):bN P Al F ER π
  (do
   let(a,b):=((<-behindNumber a).1,(<-behindNumber b).1)
   if a.block==b.block&&a.block<(<-program).globals.size then return(<-byteOf a)==(<-byteOf b)
   let .named "sync.copyChecker" _:=(<-typeInfo t).desc|unsupported .addressObserved
   if a==b then pure aF else unsupported .addressObserved)
  (do
   let(a,b):=((<-behindNumber a').1,(<-behindNumber b').1)
   if a.block==b.block&&a.block<(<-program).globals.size then return(<-byteOf a)==(<-byteOf b)
   let .named "sync.copyChecker" _:=(<-typeInfo t).desc|unsupported .addressObserved
   if a==b then pure aF else unsupported .addressObserved):=by
 refine aS _ (eV c) ?_;rintro y ⟨a,q⟩ ⟨a',_⟩ ok o ⟨c,rfl⟩;refine aS _ (eV (d.mono o)) ?_;rintro x ⟨b,q⟩ ⟨b',_⟩ ok g ⟨d,rfl⟩;replace c:=c.mono g;dsimp only at c d⊢;refine dN (λ_ _=>rfl) ?_;rintro w p q ok f ⟨s,r⟩;rw[s,r];replace c:=c.mono f;replace d:=d.mono f;have u:decide (a'.block<P.globals.size)=decide (a.block<P.globals.size):=by
  by_cases h:a.block<P.globals.size;{have:=ok.base c.1 (aH (aEg h));simp[<-this]}
  .by_cases j:a'.block<P.globals.size
   .have:=ok.base c.1 (aI (aEg j));simp[<-this]
   .simp[h,j]
 rw[tS ok c d,xW ok c d,u];split
 .refine aS _ (eY c) ?_;rintro k n _ ok e rfl;refine aS _ (eY (d.mono e)) ?_;rintro v m _ ok l rfl;exact aT rfl
 .refine aS _ (eG t) ?_;rintro k i _ ok e ⟨rfl,_⟩;split
  .split
   .exact aT rfl
   .exact aV
  .exact aV
def Basic (P:zZ)(t:zD):Prop:=P.underlying t=aA .bool\/(∃k,P.underlying t=aA (.int k))\/P.underlying t=aA .string
def tB (P:zZ)(t:zD)(x y:zY):Prop:=(∃e,P.underlying t=aA (.pointer e))/\∀a b,x= .pointer (aA a)->y= .pointer (aA b)->a.block=b.block
def QU [ok:Ok P π] {a a' b b'}(h:bU π a a')(k:bU π b b')(e:a.block=b.block):bN P Al F ER π (sameAddr a b) (sameAddr a' b'):=by have c:=(ok.inj h.1 k.1).1 e;unfold sameAddr;simp only[e,c,BEq.rfl,zCs];rw[xW ok h k];exact aT rfl
def GZ (P:zZ):Nat->zD->Prop
 |0,_=>True
 |d+1,t=>match P.underlying t with
  |some (.func _ _ _)=>False
  |some (.struct a)=>∀f∈a.toList,GZ P d f.type
  |some (.array _ e)=>GZ P d e
  |some (.interface _)=>False
  |_=>True
def AY:∀(d){π} [Ok P π] (t){x T y S},GZ P d t->((F.cmp\/∀b,¬F b)\/Basic P t\/tB P t x y)->bG Al π x T->bG Al π y S->bN P Al F ER π (Op.equalIn d t x y) (Op.equalIn d t T S):=by
 intro d;induction d with
 |zero=>intro π ok t x T y S J V o j;exact aV
 |succ d Y=>
  intro π ok t x T y S J V o j;refine aS _ (bB t) ?_;rintro ρ u _ ok Z ⟨rfl,hu⟩;unfold GZ at J;rw[hu]at J;replace o:=o.mono Z;replace j:=j.mono Z;have I:u≠.bool->(∀k,u≠.int k)->u≠.string->(∀e,u≠.pointer e)->F.cmp\/∀b,¬F b:=λQ O N M=>V.resolve_right λh=>by obtain(h|⟨k,h⟩|h)|⟨⟨e,h⟩,_⟩:=h;{exact Q (zAk (hu.symm.trans h))};{exact O k (zAk (hu.symm.trans h))};{exact N (zAk (hu.symm.trans h))};{exact M e (zAk (hu.symm.trans h))}
  cases u with
  |bool=>cases o<;>first|exact aU|(cases j<;>first|exact aU|exact aT rfl)
  |string=>cases o<;>first|exact aU|(cases j<;>first|exact aU|exact aT rfl)
  |float k=>cases o<;>exact aU
  |complex k=>cases o<;>exact aU
  |int k=>
   cases o with
   |int k a=>
    cases j with
    |int k' b=>dsimp only;split<;>first|exact aT rfl|exact aU
    |pointer B=>
     cases B with
     |none=>exact aV
     |some _=>
      by_cases W:a=0;{subst W;exact aT rfl}
      .rename_i b b' _;have e1:∀(z:Addr),(match TypeDesc.int k,Value.int k a,Value.pointer (aA z)with| .int _,.int _ 0,.pointer (aA _)=>(0:Nat)|_,_,_=>1)=1:=by
        intro z;cases a with
        |ofNat n=>cases n with
         |zero=>exact absurd rfl W
         |succ n=>rfl
        |negSucc n=>rfl
       cases a with
       |ofNat n=>cases n with
        |zero=>exact absurd rfl W
        |succ n=>exact aV
       |negSucc n=>exact aV
    |_=>exact aU
   |pointer B=>
    cases B with
    |none=>cases j<;>exact aV
    |some s=>
     cases j with
     |pointer w=>
      cases w with
      |none=>exact aV
      |some l=>exact WS t s l
     |int k' b=>
      cases b with
      |ofNat n=>cases n with
       |zero=>exact aT rfl
       |succ n=>exact aV
      |negSucc n=>exact aV
     |_=>exact aV
   |_=>cases j<;>first|exact aU|exact aV
  |pointer e=>
   have g:(F.cmp\/∀b,¬F b)\/tB P t x y:=V.imp id λh=>h.resolve_left λh=>by obtain h|⟨k,h⟩|h:=h;{cases zAk (hu.symm.trans h)};{cases zAk (hu.symm.trans h)};{cases zAk (hu.symm.trans h)}
   cases o with
   |pointer B=>
    cases j with
    |pointer w=>
     cases B with
     |none=>cases w<;>exact aT rfl
     |some s=>
      cases w with
      |none=>exact aT rfl
      |some l=>
       refine aS _ (bV e) ?_;rintro X n _ ok K rfl;replace s:=s.mono K;replace l:=l.mono K;rw[xW ok s l];split
       .obtain g|g:=g
        .exact vY g s l
        .exact QU s l (g.2 _ _ rfl rfl)
       .split
        .exact aT rfl
        .refine aS _ (fU _) ?_;rintro R n _ ok C rfl;exact aT rfl
    |_=>cases B<;>exact aU
   |_=>exact aU
  |unsafePointer=>
   have g:=I (by simp) (by simp) (by simp) (by simp);cases o with
   |pointer B=>
    cases j with
    |pointer w=>
     cases B with
     |none=>cases w<;>exact aT rfl
     |some s=>
      cases w with
      |none=>exact aT rfl
      |some l=>exact vY g s l
    |_=>exact aU
   |_=>exact aU
  |chan dr e=>cases o<;>first|exact aU|(cases j<;>first|exact aU|exact aT rfl)
  |interface ms=>exact J.elim
  |struct fs=>
   have g:=I (by simp) (by simp) (by simp) (by simp);cases o with
   |agg Q O=>
    cases j with
    |agg N M=>
     refine dN (λfs _=>by simp only[kB]) ?_;rintro X p q ok C ⟨B,w⟩;rw[B,w];split;{exact aV}
     .refine aS ER (yJ fs _ _ _ ?_) ?_
      .intro R f st L ok v;have E:=((aZ.mk Q O).mono C).mono v;have D:=((aZ.mk N M).mono C).mono v;split
       .refine aS _ (iY E f.type f.offset) ?_;intro υ a a' ok H s;refine aS _ (iY (D.mono H) f.type f.offset) ?_;intro φ b b' ok G l;refine aS _ (Y f.type (J f L) (aH g) (s.mono G) l) ?_;rintro χ r _ ok U rfl;split
        .exact aT rfl
        .exact aT rfl
       .exact aT rfl
      .rintro R r _ ok v rfl;dsimp only;split<;>exact aT rfl
    |_=>exact aU
   |_=>exact aU
  |array n e=>
   have g:=I (by simp) (by simp) (by simp) (by simp);cases o with
   |agg Q O=>
    cases j with
    |agg N M=>
     refine aS _ (bV e) ?_;rintro X k _ ok C rfl;rw[zDu,zDu];refine aS ER (bN.weaken (gZ (λ_ _ _ _ _ h=>h) _ _ ER (λ_ _ _ _ _ h=>h) rfl (λi a b s l=>by rw[s]at l;exact zAk l) _ _ _ _ rfl ?_) (λ_ _ _ h=>h)) ?_
     .rintro R i _ st _ ok v rfl rfl;have E:=((aZ.mk Q O).mono C).mono v;have D:=((aZ.mk N M).mono C).mono v;refine aS _ (iY E e (i*k)) ?_;intro υ a a' ok H s;refine aS _ (iY (D.mono H) e (i*k)) ?_;intro φ b b' ok G l;refine aS _ (Y e J (aH g) (s.mono G) l) ?_;rintro χ r _ ok U rfl;split
      .exact aT (aI ⟨_,_,rfl,rfl,rfl⟩)
      .exact aT (aH ⟨_,_,rfl,rfl,rfl⟩)
     .rintro R r _ ok v rfl;dsimp only;split<;>exact aT rfl
    |_=>exact aU
   |_=>exact aU
  |slice e=>
   cases o with
   |slice B n c=>
    cases j with
    |slice w m c'=>
     cases B with
     |none=>cases w<;>exact aT rfl
     |some s=>
      cases w with
      |none=>exact aT rfl
      |some l=>exact aU
    |void=>cases B<;>first|exact aT rfl|exact aU
    |_=>cases B<;>exact aU
   |void=>
    cases j with
    |slice w m c'=>cases w<;>first|exact aT rfl|exact aU
    |_=>exact aU
   |_=>exact aU
  |map a b=>cases o<;>first|exact aU|(cases j<;>first|exact aU|exact aT rfl)
  |func a b c=>exact J.elim
  |_=>cases o<;>first|exact aU|(cases j<;>exact aU)
end
def Rs {P α t d}(h:P.underlying t=aA d)(f:TypeDesc->Sem α)(v)(es):(underlying t>>=f).runT P v es=(f d).runT P v es:=by show Sem.runT P (Sem.bind (match P.underlying t with|some d=>pure d|none=>stuck "no such type") f) v es=_;rw[h];rfl
def Rr {P α t}(h:P.underlying t=aB)(f:TypeDesc->Sem α)(v)(es):(underlying t>>=f).runT P v es=(.halt (.stuck "no such type") v,es):=by show Sem.runT P (Sem.bind (match P.underlying t with|some d=>pure d|none=>stuck "no such type") f) v es=_;rw[h];rfl
def mD {α:Type}(P:zZ)(s:Sem α):Prop:=∀v a,∃hl w e,s.runT P v a=(.halt hl w,e)/\Fatal hl
def sU {P α t}{f:TypeDesc->Sem α}(h:∀d,mD P (f d)):mD P (underlying t>>=f):=λv e=>by
 cases hu:P.underlying t with
 |none=>rw[Rr hu];exact⟨_,_,_,rfl,aH ⟨_,rfl⟩⟩
 |some d=>rw[Rs hu];exact h d v e
def nW {P α w}:mD P (stuck w:Sem α):=λ_ _=>⟨_,_,_,rfl,aH ⟨_,rfl⟩⟩
def qV {P:zZ}{α:Type}{u:Unsupported}(h:∀g,u≠.initOrder g:=by simp):mD P (unsupported u:Sem α):=λ_ _=>⟨_,_,_,rfl,aI ⟨u,rfl,h⟩⟩
def sG {P α γ t d}(h:P.underlying t=aA d)(f:TypeDesc->Sem α)(k:α->Sem γ)(v)(es):((underlying t>>=f)>>=k).runT P v es=(f d>>=k).runT P v es:=by show Sem.runT P (Sem.bind (Sem.bind (match P.underlying t with|some d=>pure d|none=>stuck "no such type") f) k) v es=_;rw[h];rfl
def BZ {P α γ t}(h:P.underlying t=aB)(f:TypeDesc->Sem α)(k:α->Sem γ)(v)(es):((underlying t>>=f)>>=k).runT P v es=(.halt (.stuck "no such type") v,es):=by show Sem.runT P (Sem.bind (Sem.bind (match P.underlying t with|some d=>pure d|none=>stuck "no such type") f) k) v es=_;rw[h];rfl
def ZG {P γ t}(h:GZ P Op.maxDepth t)(z y)(k:Bool->Sem γ)(v)(es):∃hl w e,((Op.equal t (.func (.method "") #[.iface 1000000 .nilIface] #[z]) y)>>=k).runT P v es=(.halt hl w,e)/\Fatal hl:=by
 obtain⟨m,a⟩:∃m,Op.maxDepth=m+1:=⟨Op.maxDepth-1,rfl⟩;unfold Op.equal;rw[a]at h⊢;unfold GZ at h;unfold Op.equalIn;cases hu:P.underlying t with
 |none=>rw[BZ hu];exact⟨_,_,_,rfl,aH ⟨_,rfl⟩⟩
 |some d=>rw[sG hu];rw[hu]at h;cases d<;>first|exact h.elim|exact⟨_,_,_,rfl,by simp⟩|(cases y<;>first|exact⟨_,_,_,rfl,by simp⟩|(rename_i q;cases q<;>exact⟨_,_,_,rfl,by simp⟩))
def WX {P Al F π γ β A t}(h:GZ P Op.maxDepth t)(z y)(k:Bool->Sem γ){s':Sem β}:bN P Al F A π ((Op.equal t (.func (.method "") #[.iface 1000000 .nilIface] #[z]) y)>>=k) s':= .dead λv e=>ZG h z y k v e
section
variable {P:zZ}{Al:zF}{F:Kp}{π:Rn}{α β γ δ:Type}{A:Rn->α->β->Prop} [ok:Ok P π]
def uI:∀(d){π} [Ok P π] (t){x l y j},bG Al π x l->bG Al π y j->bN P Al F ER π (Op.eqGuardIn d t x y) (Op.eqGuardIn d t l j):=by
 intro d;induction d with
 |zero=>intro π ok t x l y j v o;exact aV
 |succ d I=>
  intro π ok t x l y j v o;refine aS _ (bB t) ?_;rintro S u _ ok J ⟨rfl,hu⟩;replace v:=v.mono J;replace o:=o.mono J;cases u with
  |interface ms=>
   cases v with
   |junk _ g=>cases l<;>first|exact g.elim|exact aT rfl
   |nilIface=>
    cases o with
    |junk _ g=>cases j<;>first|exact g.elim|exact aT rfl
    |_=>exact aT rfl
   |_=>first|exact aT rfl|(cases o<;>exact aT rfl)
  |struct N=>
   cases v with
   |agg h1 H=>
    cases o with
    |agg G E=>
     refine aS ER (BQ N _ _ _ ?_) ?_
     .intro C f st ok c;have p:=(aZ.mk h1 H).mono c;have m:=(aZ.mk G E).mono c;split
      .refine aS _ (iY p f.type f.offset) ?_;intro M a Q ok s B;refine aS _ (iY (m.mono s) f.type f.offset) ?_;intro L b O ok q w;refine aS _ (I f.type (B.mono q) w) ?_;rintro K r _ ok D rfl;split
       .exact aT rfl
       .exact aT rfl
      .exact aT rfl
     .rintro C r _ ok c rfl;dsimp only;split<;>exact aT rfl
    |junk _ g=>cases j<;>first|exact g.elim|exact aT rfl
    |_=>exact aT rfl
   |junk _ g=>cases l<;>first|exact g.elim|exact aT rfl
   |_=>exact aT rfl
  |array n e=>
   cases v with
   |agg h1 H=>
    cases o with
    |agg G E=>
     refine aS _ (bV e) ?_;rintro R k _ ok z rfl;rw[zDu,zDu];refine aS ER (bN.weaken (gZ (λ_ _ _ _ _ h=>h) _ _ ER (λ_ _ _ _ _ h=>h) rfl (λi a b B w=>by rw[B]at w;exact zAk w) _ _ _ _ rfl ?_) (λ_ _ _ h=>h)) ?_
     .rintro C i _ st _ ok c rfl rfl;have p:=((aZ.mk h1 H).mono z).mono c;have m:=((aZ.mk G E).mono z).mono c;refine aS _ (iY p e (i*k)) ?_;intro M a Q ok s B;refine aS _ (iY (m.mono s) e (i*k)) ?_;intro L b O ok q w;refine aS _ (I e (B.mono q) w) ?_;rintro K r _ ok D rfl;split
      .exact aT (aI ⟨_,_,rfl,rfl,rfl⟩)
      .exact aT (aH ⟨_,_,rfl,rfl,rfl⟩)
     .rintro C r _ ok c rfl;dsimp only;split<;>exact aT rfl
    |junk _ g=>cases j<;>first|exact g.elim|exact aT rfl
    |_=>exact aT rfl
   |junk _ g=>cases l<;>first|exact g.elim|exact aT rfl
   |_=>exact aT rfl
  |_=>exact aT rfl
def RD (op:BinOp)(t)(x y){a a' b b'}(o:bG Al π a a')(n:bG Al π b b'):bN P Al F ER π (eqGuard op t x y a b) (eqGuard op t x y a' b'):=by
 have main:bN P Al F ER π (eqGuard .eql t x y a b) (eqGuard .eql t x y a' b'):=by
  cases o;case junk _ g=>cases a'<;>first|exact g.elim|exact aT rfl
  all_goals first
   |exact aT rfl
   |(cases n
     case junk _ g=>cases b'<;>first|exact g.elim|exact aT rfl
     all_goals first|exact aT rfl|skip)
  .have k:bN P Al F ER π (do if<-Op.eqGuardIn Op.maxDepth t .nilIface .nilIface then unsupported (.noEntry "binop/eql: two nil values of an interface type with methods, neither of them the literal nil")) (do if<-Op.eqGuardIn Op.maxDepth t .nilIface .nilIface then unsupported (.noEntry "binop/eql: two nil values of an interface type with methods, neither of them the literal nil")):=by
    refine aS _ (uI _ t .nilIface .nilIface) ?_;rintro i r _ ok d rfl;split;{exact aV};{exact aT rfl}
   cases x<;>cases y<;>first|exact aT rfl|exact k
  .rename_i w v _ _ u s;refine dN (λE _=>by simp only[rX]) ?_;rintro i p q ok d ⟨m,l⟩;rw[m,l];refine dN (λ_ _=>rfl) ?_;rintro B D C ok c ⟨f,e⟩;rw[f,e];split
   .exact aT rfl
   .refine aS _ (uI _ t ((bG.agg w v).mono λ_ _ h=>c _ _ (d _ _ h)) ((bG.agg u s).mono λ_ _ h=>c _ _ (d _ _ h))) ?_;rintro z r _ ok j rfl;split
    .exact aV
    .exact aT rfl
 cases op with
 |eql=>exact main
 |neq=>exact main
 |_=>exact aT rfl
def YH (ok:Ok P π){b b'}(h:π b b'):(b'≥P.globals.size↔b≥P.globals.size):=by
 constructor
 .intro c;obtain a|a:=zDc b P.globals.size
  .have:=ok.base h (aH (aEg a));omega
  .exact a
 .intro c;obtain a|a:=zDc b' P.globals.size
  .have:=ok.base h (aI (aEg a));omega
  .exact a
def uG {a a' b b'}(h:bU π a a')(c:bU π b b'):bN P Al F ER π (Op.twoPlaces a b) (Op.twoPlaces a' b'):=by
 refine dN (λ_ _=>rfl) ?_;rintro s p q ok e ⟨i,g⟩;rw[i,g];replace h:=h.mono e;replace c:=c.mono e;have l:(a'.block !=b'.block||decide (a'.block≥P.globals.size))=(a.block !=b.block||decide (a.block≥P.globals.size)):=by have k:=tS ok h c;have j:decide (a'.block≥P.globals.size)=decide (a.block≥P.globals.size):=by{simp only[YH ok h.1]};unfold bne;rw[k,j]
 rw[l];split
 .exact aV
 .refine aS _ (eY h) ?_;rintro r n _ ok d rfl;refine aS _ (eY (c.mono d)) ?_;rintro o m _ ok f rfl;exact aT rfl
def RI (k:IntKind){a a' b b'}(c:bU π a a')(h:bU π b b'):bN P Al F (VR Al) π (Op.addrSub k a b) (Op.addrSub k a' b'):=by refine aS _ (uG c h) ?_;rintro d x _ ok e rfl;exact aT (.int _ _)
def RJ (op:BinOp){a a' b b'}(c:bU π a a')(h:bU π b b'):bN P Al F (VR Al) π (Op.addrCmp op a b) (Op.addrCmp op a' b'):=by refine aS _ (uG c h) ?_;rintro d x _ ok e rfl;cases op<;>first|exact aT (.bool _)|exact aV
def sE (k:IntKind){a a'}(b:bU π a a')(n):bN P Al F (VR Al) π (Op.addrMod k a n) (Op.addrMod k a' n):=by
 refine aS _ (eU b.1) ?_;rintro j s _ ok d rfl;cases s with
 |none=>exact aV
 |some x=>obtain⟨e,m⟩:=x;dsimp only;refine aS _ (eG e) ?_;rintro g i _ ok h ⟨rfl,_⟩;split;{exact aV};{refine aS _ (eY ((b.mono d).mono h)) ?_;rintro f n _ ok c rfl;exact aT (.int _ _)}
def tj (ρ:Rn)(v v':zY):Prop:=∃p a,v= .pointer p/\v'= .pointer a/\vF ρ p a
def sB (at_)(t){x k y j}(v:bG Al π x k)(l:bG Al π y j):bN P Al F tj π (Builtin.unsafeAdd_ at_ t #[x,y]) (Builtin.unsafeAdd_ at_ t #[k,j]):=by
 cases v with
 |pointer i=>
  cases i with
  |none=>
   refine aS _ (mV l) ?_;rintro u n _ ok f rfl;by_cases b:n=0;{rw[zAz b];exact aV}
   .rw[zAv b];by_cases d:n<0
    .rw[zAz d];exact aV
    .rw[zAv d];exact aV
  | @some a G c=>
   refine aS _ (mV l) ?_;rintro u n _ ok f rfl;by_cases b:n=0
   .rw[zAz b,zAz b];refine aS _ (qG (f _ _ c.1)) ?_;intro r s D ok h w;cases w with
    |none=>exact aT ⟨_,_,rfl,rfl,.some ((c.mono f).mono h)⟩
    |some _=>exact aV
   .rw[zAv b,zAv b];by_cases d:n<0
    .rw[zAz d];exact aV
    .rw[zAv d,zAv d];refine aS _ (eU (f _ _ c.1)) ?_;rintro r s _ ok h rfl;cases s with
     |none=>exact aV
     |some z=>
      obtain⟨e,m⟩:=z;refine dN (λE _=>by simp only[rZ];rfl) ?_;rintro C p q ok g ⟨i,B⟩;rw[i,B,c.2.1];cases cellAtBytes P P.depth e (m/P.cellsOf e) a.off n with
      |none=>exact aV
      |some o=>exact aT ⟨_,_,rfl,rfl,.some ⟨g _ _ (h _ _ (f _ _ c.1)),rfl,c.2.2⟩⟩
 |_=>exact aU
def bZ (at_)(t){x b y a}(d:bG Al π x b)(c:bG Al π y a):bN P Al F (VR Al) π (Builtin.unsafeAdd_ at_ t #[x,y]) (Builtin.unsafeAdd_ at_ t #[b,a]):=(sB at_ t d c).weaken λ_ _ _ ⟨_,_,e,f,h⟩=>by rw[e,f];exact .pointer h
def kC (t)(z y){s'}:bN P Al F (VR Al) π (Builtin.unsafeAdd_ #[] t #[(.func (.method "") #[.iface 1000000 .nilIface] #[z]),y]) s':=by exact aU
def jE (t){x f y e}(j:bG Al π x f)(h:bG Al π y e):bN P Al F (VR Al) π (movedNumber t x y) (movedNumber t f e):=by
 refine aS _ (bB t) ?_;rintro r u _ ok p ⟨rfl,_⟩;replace j:=j.mono p;replace h:=h.mono p;have g:bN P Al F (VR Al) r (do
   let .pointer (aA n):=x|Builtin.unsafeAdd_ #[] t #[x,y]
   let(a,lost)<-behindNumber n
   match<-Builtin.unsafeAdd_ #[] t #[.pointer (aA a),y]with
   | .pointer (aA b)=>asNumber b lost
   |v=>pure v) (do
   let .pointer (aA n):=f|Builtin.unsafeAdd_ #[] t #[f,e]
   let(a,lost)<-behindNumber n
   match<-Builtin.unsafeAdd_ #[] t #[.pointer (aA a),e]with
   | .pointer (aA b)=>asNumber b lost
   |v=>pure v):=by
  cases j with
  |pointer m=>
   cases m with
   |none=>exact bZ #[] t (.pointer .none) h
   |some o=>
    refine aS _ (eV o) ?_;rintro K ⟨a,q⟩ ⟨O,_⟩ ok l ⟨o,rfl⟩;refine aS _ (sB #[] t (.pointer (.some o)) (h.mono l)) ?_;rintro J v M ok C ⟨_,_,rfl,rfl,m⟩;cases m with
    |none=>exact aT (.pointer .none)
    |some hb=>exact wI hb _
  |bool b=>exact bZ #[] t (.bool b) h
  |int k n=>exact bZ #[] t (.int k n) h
  |string s=>exact bZ #[] t (.string s) h
  |slice y n c=>exact bZ #[] t (.slice y n c) h
  |void E a=>exact bZ #[] t (.void E a) h
  |func D d I B H G=>exact bZ #[] t (.func D d I B H G) h
  |nilFunc=>exact bZ #[] t .nilFunc h
  |iface w i=>exact bZ #[] t (.iface w i) h
  |nilIface=>exact bZ #[] t .nilIface h
  |iT=>exact bZ #[] t .iT h
  |gH=>exact bZ #[] t .gH h
  |agg d i=>exact bZ #[] t (.agg d i) h
  |tuple d i=>exact bZ #[] t (.tuple d i) h
  |junk L N=>exact kC t _ _
  |same hb z=>exact kC t _ _
 cases u<;>first|exact aV|exact g
def pR (t){x b y a}(c:bG Al π x b)(h:bG Al π y a):bN P Al F (VR Al) π (movedPointer t x y) (movedPointer t b a):=by
 have f:=bZ (P:=P) (F:=F) #[] t c h;unfold movedPointer;cases c with
 |pointer g=>
  cases g with
  |none=>exact f
  |some e=>
   refine aS _ (wB e.1) ?_;intro j s k ok d i;cases i with
   |none=>exact bZ #[] t (.pointer (.some (e.mono d))) (h.mono d)
   |some _=>exact aV
 |junk v l=>exact kC t _ _
 |same hb z=>exact kC t _ _
 |_=>exact f
def Dy (op:BinOp)(t){x G y z}(Q:(op= .eql\/op= .neq)->GZ P Op.maxDepth t)(T:(F.cmp\/∀b,¬F b)\/(op≠.eql/\op≠.neq)\/Basic P t\/tB P t x y)(D:bG Al π x G)(m:bG Al π y z):bN P Al F (VR Al) π (binOp op t x y) (binOp op t G z):=by
 have f:op= .eql->bN P Al F (VR Al) π (do pure (.bool (<-Op.equal t x y))) (do pure (.bool (<-Op.equal t G z))):=λj=>by refine aS _ (AY _ t (Q (by simp[j])) (T.imp id λh=>h.elim (λh=>absurd j h.1) id) D m) ?_;rintro i r _ ok C rfl;exact aT (.bool _)
 have e:op= .neq->bN P Al F (VR Al) π (do pure (.bool (!(<-Op.equal t x y)))) (do pure (.bool (!(<-Op.equal t G z)))):=λj=>by refine aS _ (AY _ t (Q (by simp[j])) (T.imp id λh=>h.elim (λh=>absurd j h.2) id) D m) ?_;rintro i r _ ok C rfl;exact aT (.bool _)
 have X:=jE (P:=P) (F:=F) t D m;have W:=pR (P:=P) (F:=F) t D m;have M:=jE (P:=P) (F:=F) t m D;have both:∀{a w b J:Addr},bU π a w->bU π b J->∀(g:Addr->Addr->Sem zY),(∀(i:Rn)(c c' d I:Addr),Ok P i->bU i c c'->bU i d I->bN P Al F (VR Al) i (g c d) (g c' I))->
   bN P Al F (VR Al) π (do g (<-behindNumber a).1 (<-behindNumber b).1) (do g (<-behindNumber w).1 (<-behindNumber J).1):=by
  intro a w b J s l g N
  refine aS _ (eV s) ?_
  rintro i ⟨a,q⟩ ⟨w,_⟩ ok C ⟨s,rfl⟩
  refine aS _ (eV (l.mono C)) ?_
  rintro U ⟨b,q⟩ ⟨J,_⟩ ok K ⟨l,rfl⟩
  exact N U _ _ _ _ ok (s.mono K) l
 have one:∀{a w:Addr},bU π a w->∀(g:Addr->Sem zY),(∀(i:Rn)(c c':Addr),Ok P i->bU i c c'->bN P Al F (VR Al) i (g c) (g c'))->
   bN P Al F (VR Al) π (do g (<-behindNumber a).1) (do g (<-behindNumber w).1):=by
  intro a w s g N
  refine aS _ (eV s) ?_
  rintro i ⟨a,q⟩ ⟨w,_⟩ ok C ⟨s,rfl⟩
  exact N i _ _ ok s
 cases D with
 |int k a=>
  cases m with
  |int V b=>
   unfold binOp;cases op;all_goals
    dsimp only
    first
    |exact Ds _ _ _ _ _
    |(by_cases S:k≠V
      .rw[zAz S];exact aU
      .rw[zAv S];first|exact wF _ _ _ _|exact WT _ _ _ _|exact AW _ _ _ _|exact WU _ _ _)
  |pointer o=>
   cases op<;>first|exact f rfl|exact e rfl|exact M|skip
   all_goals
    cases o with
    |none=>exact aV
    |some l=>
     first
     |exact one l (λc=>Op.addrMod k c (a+1)) (λi c c' ok v=>sE _ v _)
     |exact aV
  |junk H B=>cases z<;>first|exact B.elim|(cases op<;>first|exact f rfl|exact e rfl|exact aU)
  |_=>cases op<;>first|exact f rfl|exact e rfl|exact aU
 |string a=>
  cases m with
  |string b=>have:=vX (P:=P) (Al:=Al) (F:=F) (π:=π) op a b;cases op<;>exact this
  |pointer o=>cases op<;>first|exact f rfl|exact e rfl|exact aV
  |junk H B=>cases z<;>first|exact B.elim|(cases op<;>first|exact f rfl|exact e rfl|exact aU)
  |_=>cases op<;>first|exact f rfl|exact e rfl|exact aU
 | @pointer p R o=>
  cases m with
  |int k n=>
   have E:bN P Al F (VR Al) π (do if(<-underlying t) matches .unsafePointer then movedPointer t (.pointer p) (.int k n)else movedNumber t (.pointer p) (.int k n)) (do if(<-underlying t) matches .unsafePointer then movedPointer t (.pointer R) (.int k n)else movedNumber t (.pointer R) (.int k n)):=by refine aS _ (bB t) ?_;rintro i u _ ok C ⟨rfl,_⟩;cases u<;>first|exact pR t (.pointer (o.mono C)) (.int k n)|exact jE t (.pointer (o.mono C)) (.int k n)
   cases op<;>first|exact f rfl|exact e rfl|exact E|exact jE t (.pointer o) (.int k (-n))|skip
   all_goals
    cases o with
    |none=>exact aV
    |some l=>
     first
     |exact one l (λc=>Op.addrMod k c n) (λi c c' ok v=>sE _ v _)
     |exact one l (λc=>Op.addrMod k c (n+1)) (λi c c' ok v=>sE _ v _)
     |exact aV
  |pointer L=>
   cases o with
   |none=>cases L<;>cases op<;>first|exact f rfl|exact e rfl|exact aV
   |some s=>
    cases L with
    |none=>cases op<;>first|exact f rfl|exact e rfl|exact aV
    |some l=>have Z:=both s l (λc d=>Op.addrSub aR c d) (λi c c' d I ok v O=>RI _ v O);have Y:=both s l (λc d=>Op.addrCmp op c d) (λi c c' d I ok v O=>RJ _ v O);cases op<;>first|exact f rfl|exact e rfl|exact Z|exact Y|exact aV
  |junk H B=>cases z<;>first|exact B.elim|(cases o<;>cases op<;>first|exact f rfl|exact e rfl|exact aV)
  |_=>cases o<;>cases op<;>first|exact f rfl|exact e rfl|exact aV
 |junk H B=>cases m;all_goals cases op<;>first|exact WX (Q (by simp)) _ _ _|exact aU|exact aV
 |_=>
  cases m with
  |pointer L=>cases op<;>first|exact f rfl|exact e rfl|exact aV
  |junk H B=>cases z<;>first|exact B.elim|(cases op<;>first|exact f rfl|exact e rfl|exact aU)
  |_=>cases op<;>first|exact f rfl|exact e rfl|exact aU
end
section
variable {P:zZ}{Al:zF}{F:Kp}{π:Rn}{α β γ δ:Type}{A:Rn->α->β->Prop} [ok:Ok P π]
def Dq (op:UnOp){x a}(h:bG Al π x a):bN P Al F (VR Al) π (Op.unary op x) (Op.unary op a):=by
 cases h with
 |int k n=>
  cases op with
  |neg=>exact wF (π:=π) .sub k 0 n
  |xor=>exact AW (π:=π) .xor k (if k.signed then-1 else k.max) n
  |_=>exact aU
 |bool b=>cases op<;>first|exact aT (.bool _)|exact aU
 |pointer c=>cases c<;>cases op<;>first|exact aV|exact aU
 |_=>cases op<;>exact aU
def Ea (e:IE P){t:zD}(b:t<P.types.size):bN P Al F (VR Al) π (Instr.alloc t aF (.tuple #[])) (Instr.alloc t aF (.tuple #[])):=by refine aS _ (fT e b) ?_;intro g z i ok j h;refine aS _ (uV h t) ?_;intro f a k ok c d;exact aT (.pointer (.some d))
def Ri (t){x b}(h:bG Al π x b):bN P Al F (VR Al) π (Instr.box t x) (Instr.box t b):=by refine aS _ (uV h t) ?_;intro e a f ok c d;exact aT (.pointer (.some d))
def uQ (Al:zF)(π:Rn):List (Nat×zY)->List (Nat×zY)->Prop
 |[],[]=>True
 |x::l,a::b=>a.1=x.1/\bG Al π x.2 a.2/\uQ Al π l b
 |_,_=>False
omit ok in
def uQ.mono {ρ:Rn}(h:∀b b',π b b'->ρ b b'):∀{l a:List (Nat×zY)},uQ Al π l a->uQ Al ρ l a
 |[],[],_=>trivial
 |_::_,_::_,⟨h1,d,c⟩=>⟨h1,d.mono h,uQ.mono h c⟩
omit ok in
def My (off):∀(l a:List (zY×Nat)){c c'},a.map (·.2)=l.map (·.2)->aZ Al π (l.map (·.1)).toArray (a.map (·.1)).toArray->aZ Al π c c'->
  aZ Al π (l.foldl (λcs x=>cs.setIfInBounds (off+x.2) x.1) c) (a.foldl (λcs x=>cs.setIfInBounds (off+x.2) x.1) c'):=by
 intro l;induction l with
 |nil=>intro a c c' h d b;cases a with
  |nil=>exact b
  |cons _ _=>simp at h
 |cons x l i=>
  intro a c c' h d b;cases a with
  |nil=>simp at h
  |cons g a=>simp only[zEf,List.cons.injEq]at h;simp only[zEf]at d;obtain⟨f,e⟩:=bX d;simp only[zGa];rw[h.1];exact i a h.2 e (b.set f _)
omit ok in
def FY (place:Nat->Option (Nat×Nat)):∀(l b){c c'},uQ Al π l b->aZ Al π c c'->
  (Instr.fill place c l=aB/\Instr.fill place c' b=aB)\/∃d m,Instr.fill place c l=aA d/\Instr.fill place c' b=aA m/\aZ Al π d m:=by
 intro l;induction l with
 |nil=>intro b c c' h e;cases b with
  |nil=>exact aI ⟨c,c',rfl,rfl,e⟩
  |cons _ _=>exact h.elim
 |cons x l q=>
  intro b c c' h e;cases b with
  |nil=>exact h.elim
  |cons n b=>
   obtain⟨i,v⟩:=x;obtain⟨r,o⟩:=n;obtain⟨j,g,s⟩:=h;simp only at j g;subst j;unfold Instr.fill;cases place r with
   |none=>exact aH ⟨rfl,rfl⟩
   |some p=>obtain⟨off,size⟩:=p;dsimp only;have f:=g.cells;rw[f.size,e.size];split;{exact aH ⟨rfl,rfl⟩};{refine q b s ?_;rw[<-aD6,<-aD6,aD7,aD7];have k:∀(a:zA),a.toList.zipIdx.map (·.1)=a.toList:=λa=>by{simp};have:=My off v.cells.toList.zipIdx o.cells.toList.zipIdx (by simp[List.zipIdx_map_snd,f.size]) (by rw[k,k,toArray_toList,toArray_toList];exact f) e;exact this}
def WW (fs:Array Field):bN P Al F ER π (fs.mapM λf=>do pure (f.offset,<-sizeOf f.type)) (fs.mapM λf=>do pure (f.offset,<-sizeOf f.type)):=by
 rw[zFc];refine aS ER ?_ ?_
 .induction fs.toList generalizing π with
  |nil=>exact aT rfl
  |cons f l i=>rw[List.mapM_cons];refine aS ER ?_ ?_;{refine aS _ (bV _) ?_;rintro a n _ ok h rfl;exact aT rfl};{rintro a x _ ok h rfl;refine aS ER i ?_;rintro b x _ ok h rfl;exact aT rfl}
 .rintro a x _ ok h rfl;exact aT rfl
def Dx (q:IE P){t:zD}(m:t<P.types.size){k p}(h:uQ Al π k.toList p.toList):bN P Al F (VR Al) π (Instr.build t k) (Instr.build t p):=by
 refine aS _ (fT q m) ?_;intro w z x ok o j;refine aS _ (bB t) ?_;rintro v u _ ok c ⟨rfl,_⟩;replace j:=j.mono c;replace h:=(h.mono o).mono c;cases u with
 |struct r=>refine aS _ (WW r) ?_;rintro l places _ ok a rfl;obtain⟨b,g⟩|⟨d,s,b,g,f⟩:=FY (places[·]?) _ _ (h.mono a) (j.mono a).cells;{rw[b];exact aU};{rw[b,g];exact aT (.agg f.size f.at')}
 |array n e=>refine aS _ (bV e) ?_;rintro l size _ ok a rfl;obtain⟨b,g⟩|⟨d,s,b,g,f⟩:=FY (λi=>aA (i*size,size)) _ _ (h.mono a) (j.mono a).cells;{rw[b];exact aU};{rw[b,g];exact aT (.agg f.size f.at')}
 |_=>exact aU
omit ok in
def yA {c c'}(h:aZ Al π c c')(n):aZ Al π ((aD8 n).map (c[·%c.size]!)) ((aD8 n).map (c'[·%c'.size]!)):=by
 refine⟨by simp,λi a b j g=> ?_⟩;rw[zCg]at j g;obtain⟨x,k,rfl⟩:=zBp.1 j;obtain⟨y,f,rfl⟩:=zBp.1 g;rw[k]at f;cases f;rw[h.size];obtain⟨d,e⟩|⟨v,m,d,e,l⟩:=h.get (x%c.size)
 .simp only[getElem!_def,d,e];exact .bool aG
 .simp only[getElem!_def,d,e];exact l
def EA (o:IE P){t:zD}(r:t<P.types.size)(len){j p}(h:uQ Al π j.toList p.toList):bN P Al F (VR Al) π (Instr.buildSlice t len j) (Instr.buildSlice t len p):=by
 refine aS _ (bB t) ?_;rintro D u _ ok v ⟨rfl,hu⟩;cases u with
 |slice e=>
  refine aS _ (bV e) ?_;rintro n size _ ok l rfl;by_cases hl:len*size>2^24;{rw[zAz hl];exact aV}
  .rw[zAv hl,zAv hl];have tail:∀(b:Rn)(z f:zA),Ok P b->(∀x y,n x y->b x y)->aZ Al b z f->
     bN P Al F (VR Al) b (do
      let aA cells:=Instr.fill (λi=>aA (i*size,size)) ((aD8 (len*size)).map (z[·%z.size]!)) j.toList|stuck "buildSlice: a part of the wrong size"
      pure (.slice (aA (<-newRow e cells)) len len)) (do
      let aA cells:=Instr.fill (λi=>aA (i*size,size)) ((aD8 (len*size)).map (f[·%f.size]!)) p.toList|stuck "buildSlice: a part of the wrong size"
      pure (.slice (aA (<-newRow e cells)) len len)):=by
    intro b z f ok c k
    obtain⟨m,q⟩|⟨d,E,m,q,B⟩:=FY (λi=>aA (i*size,size)) _ _ (((h.mono v).mono l).mono c) (yA k (len*size))
    .rw[m];exact aU
    .rw[m,q];refine aS _ (kT B e) ?_;intro C a G ok s w;exact aT (.slice (.some w) _ _)
   by_cases g:len*size=0;{rw[zAz g,zAz g];exact tail n #[] #[] ok (λ_ _ x=>x) .nil};{rw[zAv g,zAv g];refine aS _ (fT o (o.slice t e r hu)) ?_;intro b z f ok c k;exact tail b _ _ ok c k.cells}
 |_=>exact aU
end
section
variable {P:zZ}{Al:zF}{F:Kp}{π:Rn}{α β γ δ:Type}{A:Rn->α->β->Prop} [ok:Ok P π]
def IT (r:IE P){t:zD}(C:t<P.types.size){x p y o}(B:bG Al π x p)(w:bG Al π y o):bN P Al F (VR Al) π (Instr.makeSlice t x y) (Instr.makeSlice t p o):=by
 refine aS _ (bB t) ?_;rintro M u _ ok q ⟨rfl,hu⟩;cases u with
 |slice e=>
  refine aS _ (mV (B.mono q)) ?_;rintro L n _ ok j rfl;refine aS _ (mV ((w.mono q).mono j)) ?_;rintro K m _ ok H rfl;refine aS _ (eG e) ?_;rintro J i _ ok G ⟨rfl,_⟩;dsimp only;have b:∀(d:Rn)(k:Nat)(z f:zA),Ok P d->aZ Al d z f->bN P Al F (VR Al) d
    (do let a<-newRow e ((aD8 k).map (z[·%z.size]!));pure (.slice (aA a) (IntKind.i64.wrap n).toNat (IntKind.i64.wrap m).toNat))
    (do let a<-newRow e ((aD8 k).map (f[·%f.size]!));pure (.slice (aA a) (IntKind.i64.wrap n).toNat (IntKind.i64.wrap m).toNat)):=by
   intro d k z f ok g
   refine aS _ (kT (yA g k) e) ?_
   intro l a N ok h I
   exact aT (.slice (.some I) _ _)
  split
  .split
   .exact cW _
   .split
    .exact cW _
    .refine aS _ (fU _) ?_;rintro d c _ ok h rfl;exact cW _
  .refine aS _ (sD _) ?_;rintro d _ _ ok h rfl;refine aS _ (bV e) ?_;rintro l size _ ok E rfl;by_cases s:(IntKind.i64.wrap m).toNat*size=0
   .simp only[zAz s];exact b l _ #[] #[] ok .nil
   .simp only[zAv s];refine aS _ (fT r (r.slice t e C hu)) ?_;intro v z f ok D g;exact b v _ _ _ ok g.cells
 |_=>exact aU
def wD (t){x a}(h:bG Al π x a):bN P Al F (VR Al) π (Instr.makeInterface t x) (Instr.makeInterface t a):=by refine aS _ (bB t) ?_;rintro c u _ ok b ⟨rfl,_⟩;cases u<;>first|exact aU|exact aT (.iface _ (h.mono b))
def RB {x a}(h:bG Al π x a)(i):bN P Al F (VR Al) π (Instr.extract x i) (Instr.extract a i):=by
 cases h with
 |tuple h1 c=>unfold Instr.extract;dsimp only;obtain⟨e,b⟩|⟨v,f,e,b,d⟩:=(aZ.mk h1 c).get i;{rw[e];exact aU};{rw[e,b];exact aT d}
 |_=>exact aU
inductive kR (Al:zF)(π:Rn):Option zY->Option zY->Prop
 |none:kR Al π aB aB
 |some {x x':zY} (h:bG Al π x x'):kR Al π (aA x) (aA x')
omit ok in
def kR.mono {ρ}(h:∀b b',π b b'->ρ b b'){x a}(k:kR Al π x a):kR Al ρ x a:=by
 cases k with
 |none=>exact .none
 |some k=>exact .some (k.mono h)
def fY {x a}(h:bG Al π x a)(n)(c:BoundsCode):bN P Al F ER π (Instr.sliceBound x n c) (Instr.sliceBound a n c):=by
 refine aS _ (lL h) ?_;rintro b ⟨k,i⟩ _ ok d rfl;dsimp only;split
 .exact aT rfl
 .exact eN _ _ _ _
def jD (b)(len cap){l o h q m j}(hl:kR Al π l o)(hh:kR Al π h q)(s:kR Al π m j):
  bN P Al F ER π (Instr.sliceBounds b len cap l h m) (Instr.sliceBounds b len cap o q j):=by
 cases s with
 |none=>
  cases hh with
  |none=>
   cases hl with
   |none=>exact aT rfl
   |some d=>refine aS ER (aT rfl) ?_;rintro i k _ ok a rfl;refine aS ER (aT rfl) ?_;rintro f p _ ok c rfl;refine aS _ (fY ((d.mono a).mono c) _ _) ?_;rintro g n _ ok e rfl;exact aT rfl
  |some hw=>
   refine aS ER (aT rfl) ?_;rintro f p _ ok a rfl;refine aS _ (fY (hw.mono a) _ _) ?_;rintro i k _ ok c rfl;cases hl with
   |none=>exact aT rfl
   |some d=>refine aS _ (fY ((d.mono a).mono c) _ _) ?_;rintro g n _ ok e rfl;exact aT rfl
 |some r=>
  refine aS _ (fY r _ _) ?_;rintro f p _ ok a rfl;cases hh with
  |none=>exact aU
  |some hw=>
   refine aS _ (fY (hw.mono a) _ _) ?_;rintro i k _ ok c rfl;cases hl with
   |none=>exact aT rfl
   |some d=>refine aS _ (fY ((d.mono a).mono c) _ _) ?_;rintro g n _ ok e rfl;exact aT rfl
def fK {x d}(h:bG Al π x d)(c:BoundsCode):bN P Al F (λ_ a b=>a=0/\b=0) π (Instr.sliceBound x 0 c) (Instr.sliceBound d 0 c):=by
 refine aS _ (lL h) ?_;rintro e ⟨k,i⟩ _ ok f rfl;dsimp only;split
 .exact aT ⟨by omega,by omega⟩
 .exact eN _ _ _ _
def yI {l n h o m k}(hl:kR Al π l n)(hh:kR Al π h o)(s:kR Al π m k):
  bN P Al F (λ_ p q=>q=p/\p.1=0/\p.2.1=0/\p.2.2=0) π (Instr.sliceBounds aF 0 0 l h m) (Instr.sliceBounds aF 0 0 n o k):=by
 cases s with
 |none=>
  cases hh with
  |none=>
   refine aS (λ_ a b=>a=0/\b=0) (aT ⟨rfl,rfl⟩) ?_;rintro j _ _ ok d ⟨rfl,rfl⟩;refine aS (λ_ a b=>a=0/\b=0) (aT ⟨rfl,rfl⟩) ?_;rintro i _ _ ok c ⟨rfl,rfl⟩;cases hl with
   |none=>exact aT ⟨rfl,rfl,rfl,rfl⟩
   |some e=>refine aS _ (fK ((e.mono d).mono c) _) ?_;rintro g _ _ ok f ⟨rfl,rfl⟩;exact aT ⟨rfl,rfl,rfl,rfl⟩
  |some hw=>
   refine aS (λ_ a b=>a=0/\b=0) (aT ⟨rfl,rfl⟩) ?_;rintro j _ _ ok d ⟨rfl,rfl⟩;refine aS _ (fK (hw.mono d) _) ?_;rintro i _ _ ok c ⟨rfl,rfl⟩;cases hl with
   |none=>exact aT ⟨rfl,rfl,rfl,rfl⟩
   |some e=>refine aS _ (fK ((e.mono d).mono c) _) ?_;rintro g _ _ ok f ⟨rfl,rfl⟩;exact aT ⟨rfl,rfl,rfl,rfl⟩
 |some r=>
  refine aS _ (fK r _) ?_;rintro j _ _ ok d ⟨rfl,rfl⟩;cases hh with
  |none=>exact aU
  |some hw=>
   refine aS _ (fK (hw.mono d) _) ?_;rintro i _ _ ok c ⟨rfl,rfl⟩;cases hl with
   |none=>exact aT ⟨rfl,rfl,rfl,rfl⟩
   |some e=>refine aS _ (fK ((e.mono d).mono c) _) ?_;rintro g _ _ ok f ⟨rfl,rfl⟩;exact aT ⟨rfl,rfl,rfl,rfl⟩
def Dr (t){x B}(g:bG Al π x B){l C h D m q}(hl:kR Al π l C)(hh:kR Al π h D)(i:kR Al π m q):
  bN P Al F (VR Al) π (Instr.slice t x l h m) (Instr.slice t B C D q):=by
 have w:q.isSome=m.isSome:=by cases i<;>rfl
 refine aS _ (bB t) ?_;rintro K u _ ok o ⟨rfl,_⟩;replace g:=g.mono o;replace hl:=hl.mono o;replace hh:=hh.mono o;replace i:=i.mono o;cases u with
 |string=>
  cases g with
  |string s=>dsimp only;rw[w];split;{exact aU};{refine aS _ (jD aG _ _ hl hh .none) ?_;rintro p ⟨a,b,c⟩ _ ok f rfl;exact aT (.string _)}
  |_=>exact aU
 |slice e=>
  cases g with
  |slice G n c=>
   refine aS _ (jD aF _ _ hl hh i) ?_;rintro p ⟨a,b,c⟩ _ ok f rfl;refine aS _ (bV e) ?_;rintro z size _ ok d rfl;refine aT (.slice ?_ _ _);have j:=(G.mono f).mono d;split;{exact j}
   .cases j with
    |none=>exact .none
    |some y=>exact .some (y.add _)
  |void H a0=>refine aS _ (yI hl hh i) ?_;rintro p ⟨a,b,c⟩ _ ok f ⟨rfl,E⟩;refine aS _ (bV e) ?_;rintro z size _ ok d rfl;obtain⟨rfl,rfl,rfl⟩:=E;exact aT (.void H a0)
  |_=>exact aU
 |pointer arr=>
  refine aS _ (EC g) ?_;intro p a M ok f y;refine aS _ (bB arr) ?_;rintro z u _ ok d ⟨rfl,_⟩;cases u with
  |array n e=>refine aS _ (jD aG _ _ ((hl.mono f).mono d) ((hh.mono f).mono d) ((i.mono f).mono d)) ?_;rintro J ⟨L,h1,m1⟩ _ ok v rfl;refine aS _ (bV e) ?_;rintro I size _ ok r rfl;refine aT (.slice ?_ _ _);have k:=((y.mono d).mono v).mono r;split;{exact .some k};{exact .some (k.add _)}
  |_=>exact aU
 |_=>cases g<;>exact aU
def QT (t){x i}(o:bG Al π x i){l k h q m j}(hl:kR Al π l k)(hh:kR Al π h q)(p:kR Al π m j):
  bN P Al F (VR Al) π (Instr.sliceAt t x l h m) (Instr.sliceAt t i k q j):=by
 refine aS _ (bB t) ?_;rintro y u _ ok b ⟨rfl,_⟩;cases u with
 |array n e=>refine aS _ (kD (o.mono b)) ?_;intro w a B ok c r;refine aS _ (jD aG _ _ ((hl.mono b).mono c) ((hh.mono b).mono c) ((p.mono b).mono c)) ?_;rintro v ⟨z,h1,m1⟩ _ ok g rfl;refine aS _ (bV e) ?_;rintro s size _ ok f rfl;refine aT (.slice ?_ _ _);have d:=(r.mono g).mono f;split;{exact .some d};{exact .some (d.add _)}
 |_=>exact Dr t (o.mono b) (hl.mono b) (hh.mono b) (p.mono b)
def WQ {a a'}(e:bU π a a')(n m):bN P Al F AR π (partAt a n m) (partAt a' n m):=by
 refine aS _ (eY e) ?_;rintro g b _ ok i rfl;have f:bU g {block:=a.block,off:=a.off+n} {block:=a'.block,off:=a'.off+n}:=⟨i _ _ e.1,by simp[e.2.1],rfl⟩;refine aS _ (eY f) ?_;rintro j c _ ok d rfl;refine aT ?_;have h:=f.mono d;split
 .exact h
 .exact⟨h.1,h.2.1,rfl⟩
def RA (t){x c}(g:bG Al π x c)(i):bN P Al F (VR Al) π (Instr.fieldAt t x i) (Instr.fieldAt t c i):=by
 refine aS _ (bB t) ?_;rintro p u _ ok k ⟨rfl,_⟩;cases u with
 |struct m=>
  dsimp only;cases m[i]? with
  |none=>exact aU
  |some f=>
   refine aS _ (kD (g.mono k)) ?_;intro o a r ok j d;refine aS AR ?_ ?_
   .unfold fieldPlace;refine aS _ (bV f.type) ?_;rintro e n _ ok h rfl;split
    .exact WQ (d.mono h) _ _
    .exact aT ((d.mono h).add _)
   .intro e b q ok h l;exact aT (.pointer (.some l))
 |_=>exact aU
def Dv (t){x a}(h:bG Al π x a)(i):bN P Al F (VR Al) π (Instr.field t x i) (Instr.field t a i):=by
 refine aS _ (bB t) ?_;rintro k u _ ok d ⟨rfl,_⟩;cases u with
 |struct g=>
  dsimp only;cases g[i]? with
  |none=>exact aU
  |some f=>refine aS _ (Dz (h.mono d)) ?_;intro j c c' ok b e;exact iY e _ _
 |_=>exact aU
def QY (t){x s y r}(h:bG Al π x s)(v:bG Al π y r):bN P Al F (VR Al) π (Instr.indexAt t x y) (Instr.indexAt t s r):=by
 refine aS _ (lL v) ?_;rintro C ⟨k,i⟩ _ ok w rfl;replace h:=h.mono w;have tail:∀(f:Rn)(base b:zO)(len:Nat)(e:zD),Ok P f->(vF f base b\/len=0/\∃a q,base=aA a/\b=aA q)->bN P Al F (VR Al) f
   (do
    let d:=len<=1&&(match<-underlying t with| .array .. =>aF|_=>aG)
    match base with
    |some a=>
     if 0<=i/\i<len then pure (.pointer (aA (a.add (i.toNat*(<-sizeOf e)))))
     else if d then unsupported (.noEntry "op/indexAddr.an index out of range at an array of length 0 or 1 (ledger 616)")
     else boundsPanic k i len .index
    |none=>boundsPanic k i 0 .index)
   (do
    let d:=len<=1&&(match<-underlying t with| .array .. =>aF|_=>aG)
    match b with
    |some a=>
     if 0<=i/\i<len then pure (.pointer (aA (a.add (i.toNat*(<-sizeOf e)))))
     else if d then unsupported (.noEntry "op/indexAddr.an index out of range at an array of length 0 or 1 (ledger 616)")
     else boundsPanic k i len .index
    |none=>boundsPanic k i 0 .index):=by
  intro f base b len e ok o
  refine aS _ (bB t) ?_
  rintro m u _ ok g ⟨rfl,_⟩
  obtain o|⟨rfl,a,q,rfl,rfl⟩:=o
  rotate_left
  .have l:¬(0<=i/\i<((0:Nat):Int)):=by{omega};simp only[zAv l];cases u<;>dsimp only<;>(split<;>first|exact aV|exact eN (π:=m) k i 0 .index)
  cases o with
  |none=>exact eN _ _ _ _
  |some p=>dsimp only;by_cases l:0<=i/\i<(len:Int);{rw[zAz l,zAz l];refine aS _ (bV e) ?_;rintro B n _ ok j rfl;exact aT (.pointer (.some (((p.mono g).mono j).add _)))};{simp only[zAv l];cases u<;>dsimp only<;>(split<;>first|exact aV|exact eN (π:=m) k i len .index)}
 refine aS _ (bB t) ?_;rintro f u _ ok g ⟨rfl,_⟩;replace h:=h.mono g;cases u with
 |array len e=>refine aS _ (kD h) ?_;intro m a q ok j p;exact tail m _ _ len e ok (aH (.some p))
 |slice e=>
  cases h with
  |slice z n c=>exact tail f _ _ n e ok (aH z)
  |void D a0=>exact tail f _ _ 0 e ok (aI ⟨rfl,_,_,rfl,rfl⟩)
  |_=>exact aU
 |_=>cases h<;>exact aU
def Du (t){x g y f}(h:bG Al π x g)(j:bG Al π y f):bN P Al F (VR Al) π (Instr.index t x y) (Instr.index t g f):=by
 refine aS _ (lL j) ?_;rintro q ⟨k,i⟩ _ ok l rfl;replace h:=h.mono l;refine aS _ (bB t) ?_;rintro p u _ ok d ⟨rfl,_⟩;replace h:=h.mono d;cases u with
 |array len e=>
  cases h with
  |agg h1 m=>dsimp only;by_cases a:0<=i/\i<(len:Int);{rw[zAz a,zAz a];refine aS _ (bV e) ?_;rintro o n _ ok c rfl;exact iY ((aZ.mk h1 m).mono c) _ _};{rw[zAv a,zAv a];exact eN _ _ _ _}
  |_=>exact aU
 |string=>
  cases h with
  |string s=>
   dsimp only;cases(if 0<=i then s[i.toNat]? else aB)with
   |none=>exact eN _ _ _ _
   |some b=>exact aT (.int _ _)
  |_=>exact aU
 |_=>cases h<;>exact aU
end
section
variable {P:zZ}{Al:zF}{F:Kp}{π:Rn}{α β γ δ:Type}{A:Rn->α->β->Prop} [ok:Ok P π]
def oI (hF:∀b,¬F b){a a'}(h:bU π a a'):bN P Al F ER π (markStringish a) (markStringish a'):=by
 refine aS _ (eU h.1) ?_;rintro c s _ ok d rfl;cases s with
 |none=>exact aT rfl
 |some x=>exact WV hF (show bU c ⟨a.block,x.2,aB⟩ ⟨a'.block,x.2,aB⟩from⟨d _ _ h.1,rfl,rfl⟩) _
omit ok in
def GN (d:Array UInt8):aZ Al π (d.map λb=>(.int aQ b.toNat:zY)) (d.map λb=>(.int aQ b.toNat:zY)):=by refine⟨rfl,λi v c a h=> ?_⟩;rw[a]at h;cases h;rw[zCg]at a;obtain⟨x,_,rfl⟩:=zBp.1 a;exact .int _ _
def vW (hF:(∀b,¬F b)\/¬F.cmp)(e)(s):bN P Al F (VR Al) π (Conv.stringToBytes e s) (Conv.stringToBytes e s):=by
 refine aS _ (fU _) ?_;rintro g n _ ok m rfl;obtain hF|hC:=hF;rotate_left
 .have:=bN.marked (P:=P) (Al:=Al) (π:=g) (ty:=e) (k':=λr=>Sem.pure (Value.slice (aA ⟨r,0,aB⟩) s.size n)) hC ((GN s.data).append (aZ.replicate (.int aQ 0) (n-s.size))) λc r i o d j=> .pure (show bG Al c _ _ from bG.slice (.some (show bU c ⟨r,0,aB⟩ ⟨i,0,aB⟩from⟨j,rfl,rfl⟩)) _ _);exact this
 refine aS _ (kT ((GN s.data).append (aZ.replicate (.int aQ 0) _)) e) ?_;intro c a p ok d f;refine aS _ (oI hF f) ?_;rintro k _ _ ok h rfl;exact aT (.slice (.some (f.mono h)) _ _)
def wH {x g}(o:bG Al π x g):bN P Al F (VR Al) π (Conv.bytesToString x) (Conv.bytesToString g):=by
 cases o with
 |slice p n c=>
  cases p with
  |none=>exact aT (.string _)
  |some f=>
   refine aS _ (pA f n) ?_;intro r c c' ok t j;refine aS ER ?_ ?_
   .rw[<-zEw,<-zEw];refine gZ (λ_ _ _ _ _ h=>h) c.toList c'.toList (VR Al) (λ_ _ _ _ h k=>k.mono h) (by simp[j.size]) (λi a b f q=>j.at' i a b (by simpa using f) (by simpa using q)) _ _ _ _ rfl ?_;rintro l a b s _ ok d e rfl;cases e with
    |int k m=>cases k<;>first|exact aU|exact aT (aH ⟨_,_,rfl,rfl,rfl⟩)
    |_=>exact aU
   .rintro l s _ ok d rfl;exact aT (.string _)
 |void u a0=>exact aT (.string _)
 |_=>exact aU
def DR {a a'}(h:bU π a a'):bN P Al F AR π (Conv.seenAt a) (Conv.seenAt a'):=by
 refine aS _ (qG h.1) ?_;intro n s o ok i g;cases g with
 |none=>exact aT (h.mono i)
 | @some b t u hb=>
  dsimp only;rw[h.2.1,h.2.2,hb.2.2];split;{exact aT hb}
  .split
   .exact aV
   .refine dN (λr _=>by simp only[iX,rZ];rfl) ?_;rintro m p q ok d ⟨k,j⟩;rw[k,j];cases byteOfCell P P.depth u a.off with
    |none=>exact aV
    |some β=>
     refine aS _ (eU (d _ _ hb.1)) ?_;rintro l s _ ok f rfl;cases s with
     |none=>exact aV
     |some z=>
      obtain⟨e,cells⟩:=z;dsimp only;split;{exact aV}
      .rw[hb.2.1];cases cellAtBytes P P.depth e (cells/P.cellsOf e) b.off β with
       |none=>exact aV
       |some c=>exact aT ⟨f _ _ (d _ _ hb.1),rfl,rfl⟩
def RG {r r'}(h:π r r'):bN P Al F ER π (cellsIn r) (cellsIn r'):=by
 refine aS _ (eU h) ?_;rintro d s _ ok b rfl;cases s with
 |some z=>exact aT rfl
 |none=>refine .getObj (b _ _ h) ?_;rintro o f (⟨h1,a⟩|⟨x,e,h1,a,c⟩);{rw[a];cases o<;>exact .pure rfl};{cases h1;cases a;cases c<;>exact .pure rfl}
def rJ {a a'}(h:bU π a a')(u)(n):bN P Al F ER π (variablesAt a u n) (variablesAt a' u n):=by
 refine dN (λi _=>by simp only[KB];rfl) ?_;rintro g p q ok b ⟨e,d⟩;rw[e,d];refine aS _ (eU (b _ _ h.1)) ?_;rintro f s _ ok c rfl;rw[h.2.1];cases s with
 |none=>exact aT rfl
 |some z=>exact aT rfl
def oH {src dst}(O:∀e,(P.underlying src=aA (.pointer e)\/P.underlying dst=aA (.pointer e))->jH P e){x N}(d:bG Al π x N):
  bN P Al F (VR Al) π (Conv.unsafePointer src dst x) (Conv.unsafePointer src dst N):=by
 refine aS _ (bB src) ?_;rintro ρ u1 _ ok V ⟨rfl,h1⟩;refine aS _ (bB dst) ?_;rintro Z u2 _ ok I ⟨rfl,X⟩;replace d:=(d.mono V).mono I;cases u1 with
 |pointer t=>
  cases u2 with
  |unsafePointer=>
   cases d with
   |pointer f=>
    cases f with
    |none=>exact aT (.pointer .none)
    |some l=>
     refine aS _ (DR l) ?_;intro S s T ok H g;refine aS _ (RG g.1) ?_;rintro R c _ ok i rfl;rw[g.2.1,g.2.2];refine aS _ (bV t) ?_;rintro M n _ ok o rfl;have j:=(g.mono i).mono o;have k1:bN P Al F (VR Al) M (do pure (.pointer (aA ⟨<-newObj (.view s t),0,aB⟩))) (do pure (.pointer (aA ⟨<-newObj (.view T t),0,aB⟩))):=
      .view (.view j t (O t (aH h1))) λC r U _ _ J=> .pure (.pointer (.some ⟨J,rfl,rfl⟩))
     cases c<;>dsimp only<;>split<;>first|exact k1|exact aT (.pointer (.some j))
   |_=>exact aU
  |_=>cases d<;>exact aU
 |unsafePointer=>
  cases u2 with
  |pointer u=>
   cases d with
   |pointer f=>
    cases f with
    |none=>exact aT (.pointer .none)
    |some l=>
     refine aS _ (DR l) ?_;intro S a Y ok H l;refine aS _ (bV u) ?_;rintro R n _ ok i rfl;refine aS _ (rJ (l.mono i) u 1) ?_;rintro M b _ ok o rfl;have v:=(l.mono i).mono o;split;{exact aT (.pointer (.some v))}
     .refine aS _ (eU v.1) ?_;rintro C s _ ok G rfl;have fin:∀(w:Rn),Ok P w->(∀x y,C x y->w x y)->bN P Al F (VR Al) w (do pure (.pointer (aA ⟨<-newObj (.view a u),0,aB⟩))) (do pure (.pointer (aA ⟨<-newObj (.view Y u),0,aB⟩))):=λw _ h=>
       .view (.view ((v.mono G).mono h) u (O u (aI X))) λC r U _ _ J=> .pure (.pointer (.some ⟨J,rfl,rfl⟩))
      cases s with
      |none=>exact aV
      |some z=>refine dN (λfs _=>by simp only[rH]) ?_;rintro w p q ok E ⟨f,W⟩;rw[f,W];refine dN (λ_ _=>rfl) ?_;rintro B p' q' ok D ⟨L,K⟩;rw[L,K];split;{exact aV};{exact fin B ok λx y h=>D _ _ (E _ _ h)}
   |_=>exact aU
  |unsafePointer=>
   cases d with
   |pointer f=>exact aT (.pointer f)
   |_=>exact aU
  |int k=>
   cases d with
   |pointer f=>
    cases f with
    |none=>exact aT (.int _ _)
    |some l=>exact wI l _
   |_=>exact aU
  |_=>cases d<;>exact aU
 |int k=>
  cases u2 with
  |unsafePointer=>
   cases d with
   |int k n=>
    by_cases Q:n=0;{subst Q;exact aV}
    .cases n with
     |ofNat m=>cases m with
      |zero=>exact absurd rfl Q
      |succ m=>exact aV
     |negSucc m=>exact aV
   |pointer f=>cases f<;>first|exact aV|exact aU
   |_=>exact aU
  |_=>cases d<;>exact aU
 |_=>cases u2<;>cases d<;>exact aU
end
def vC {P}(src dst)(z):mD P (Conv.unsafePointer src dst (.func (.method "") #[.iface 1000000 .nilIface] #[z])):=by refine sU λa=>sU λb=> ?_;cases a<;>cases b<;>exact nW
def OJ {P}(src dst)(z):mD P (convert src dst (.func (.method "") #[.iface 1000000 .nilIface] #[z])):=by
 refine sU λa=>sU λb=> ?_;cases a<;>cases b<;>first|exact qV|exact vC src dst z|skip
 all_goals
  refine sU λc=> ?_
  cases c<;>first|exact nW|(rename_i k;cases k<;>exact nW)
section
variable {P:zZ}{Al:zF}{F:Kp}{π:Rn}{α β γ δ:Type}{A:Rn->α->β->Prop} [ok:Ok P π]
structure Ad (P:zZ)(F:Kp)(src dst:zD):Prop where
 ptr:∀e,(P.underlying src=aA (.pointer e)\/P.underlying dst=aA (.pointer e))->jH P e
 mark:(∃e,P.underlying dst=aA (.slice e))->(∀b,¬F b)\/(¬F.cmp/\∀e,P.underlying src≠aA (.slice e))
 float:∀k,P.underlying dst≠aA (.float k)
 complex:∀k,P.underlying dst≠aA (.complex k)
 dh:∀e e',P.underlying src=aA (.slice e)->P.underlying dst=aA (.slice e')->False
 rune:∀e,(P.underlying src=aA (.slice e)\/P.underlying dst=aA (.slice e))->P.underlying e≠aA (.int .i32)
def RE {src dst}(i:Ad P F src dst){x l}(f:bG Al π x l):bN P Al F (VR Al) π (convert src dst x) (convert src dst l):=by
 by_cases b:∃z,x=(.func (.method "") #[.iface 1000000 .nilIface] #[z])
 .obtain⟨z,rfl⟩:=b;exact .dead (OJ src dst z)
 have a:=oH (F:=F) i.ptr f;refine aS _ (bB src) ?_;rintro H u1 _ ok D ⟨rfl,h1⟩;refine aS _ (bB dst) ?_;rintro y u2 _ ok q ⟨rfl,j⟩;replace f:=(f.mono D).mono q;replace a:=oH (F:=F) i.ptr f;have B:∀e,u1= .slice e->bN P Al F (VR Al) y (do match<-underlying e with| .int aQ=>Conv.bytesToString x| .int .i32=>Conv.runesToString x|_=>stuck "Convert: a slice of what to string?") (do match<-underlying e with| .int aQ=>Conv.bytesToString l| .int .i32=>Conv.runesToString l|_=>stuck "Convert: a slice of what to string?"):=by
  intro e r;subst r;refine aS _ (bB e) ?_;rintro w u _ ok d ⟨rfl,m⟩;cases u with
  |int k=>cases k<;>first|exact aU|exact wH (f.mono d)|exact absurd m (i.rune e (aH h1))
  |_=>exact aU
 have o:∀e s,u2= .slice e->bN P Al F (VR Al) y (do match<-underlying e with| .int aQ=>Conv.stringToBytes e s| .int .i32=>Conv.stringToRunes e s|_=>stuck "Convert: string to a slice of what?") (do match<-underlying e with| .int aQ=>Conv.stringToBytes e s| .int .i32=>Conv.stringToRunes e s|_=>stuck "Convert: string to a slice of what?"):=by
  intro e s r;subst r;refine aS _ (bB e) ?_;rintro w u _ ok d ⟨rfl,m⟩;cases u with
  |int k=>cases k<;>first|exact aU|exact vW ((i.mark ⟨e,j⟩).imp id And.left) e s|exact absurd m (i.rune e (aI j))
  |_=>exact aU
 cases u2 with
 |float k=>exact absurd j (i.float k)
 |complex k=>exact absurd j (i.complex k)
 |int k=>
  cases f with
  |int C n=>exact aT (.int _ _)
  |pointer g=>
   cases g with
   |none=>cases u1<;>first|exact a|exact aV
   |some t=>cases u1<;>first|exact a|exact aV
  |junk v _=>exact absurd ⟨_,rfl⟩ b
  |same _ z=>exact absurd ⟨z,rfl⟩ b
  |_=>cases u1<;>first|exact a|exact aV
 |string=>
  cases f with
  |int C n=>exact aT (.string _)
  |string s=>exact aT (.string s)
  |pointer g=>cases g<;>cases u1<;>first|exact B _ rfl|exact a|exact aV
  |junk v _=>exact absurd ⟨_,rfl⟩ b
  |same _ z=>exact absurd ⟨z,rfl⟩ b
  |_=>cases u1<;>first|exact B _ rfl|exact a|exact aV
 |slice e=>
  cases f with
  |string s=>exact o e s rfl
  |pointer g=>cases g<;>cases u1<;>first|exact a|exact aV
  |slice g n c=>
   cases g with
   |none=>cases u1<;>first|exact a|exact aV
   |some t=>
    cases u1 with
    |slice E=>
     refine aS _ (bB e) ?_;rintro w u _ ok d ⟨rfl,m⟩;cases(src==dst)with
     |false=>exact aV
     |true=>
      cases u with
      |int k=>
       cases k<;>first|exact aV|skip
       refine aS _ (oI ((i.mark ⟨e,j⟩).elim id λh=>absurd h1 (h.2 _)) (t.mono d)) ?_;rintro G _ _ ok p rfl;exact aT (.slice (.some ((t.mono d).mono p)) _ _)
      |_=>exact aV
    |_=>first|exact a|exact aV
  |void I a0=>
   cases u1 with
   |slice E=>exact(i.dh _ _ h1 j).elim
   |_=>first|exact a|exact aV
  |junk v _=>exact absurd ⟨_,rfl⟩ b
  |same _ z=>exact absurd ⟨z,rfl⟩ b
  |_=>cases u1<;>first|exact a|exact aV
 |unsafePointer=>cases f<;>cases u1<;>first|exact absurd ⟨_,rfl⟩ b|exact a|exact aV
 |_=>
  cases f with
  |pointer g=>cases g<;>cases u1<;>first|exact a|exact aV
  |junk v _=>exact absurd ⟨_,rfl⟩ b
  |same _ z=>exact absurd ⟨z,rfl⟩ b
  |_=>cases u1<;>first|exact a|exact aV
def Rg (ts)(t){c a}(h:aZ Al π c a):bN P Al F (VR Al) π (Builtin.len_ ts t c) (Builtin.len_ ts t a):=by
 unfold Builtin.len_;cases ts[0]? with
 |none=>obtain⟨b,d⟩|⟨x,g,b,d,f⟩:=h.get 0<;>rw[b]<;>exact aU
 |some t=>
  obtain⟨b,d⟩|⟨x,g,b,d,f⟩:=h.get 0;{rw[b];exact aU}
  .rw[b,d];refine aS _ (bB t) ?_;rintro k u _ ok l ⟨rfl,_⟩;cases u with
   |pointer arr=>refine aS _ (bB arr) ?_;rintro j u _ ok i ⟨rfl,_⟩;cases u<;>first|exact aU|exact aT (.int _ _)
   |array n e=>exact aT (.int _ _)
   |_=>cases f<;>first|exact aU|exact aT (.int _ _)
def Rh (ts)(t){c a}(h:aZ Al π c a):bN P Al F (VR Al) π (Builtin.cap_ ts t c) (Builtin.cap_ ts t a):=by
 unfold Builtin.cap_;cases ts[0]? with
 |none=>obtain⟨b,d⟩|⟨x,g,b,d,f⟩:=h.get 0<;>rw[b]<;>exact aU
 |some t=>
  obtain⟨b,d⟩|⟨x,g,b,d,f⟩:=h.get 0;{rw[b];exact aU}
  .rw[b,d];refine aS _ (bB t) ?_;rintro k u _ ok l ⟨rfl,_⟩;cases u with
   |pointer arr=>refine aS _ (bB arr) ?_;rintro j u _ ok i ⟨rfl,_⟩;cases u<;>first|exact aU|exact aT (.int _ _)
   |array n e=>exact aT (.int _ _)
   |_=>cases f<;>first|exact aU|exact aT (.int _ _)
def Dt {x a}(h:bG Al π x a):bN P Al F ER π (Builtin.lenOf x) (Builtin.lenOf a):=by cases h<;>first|exact aU|exact aT rfl
def uW {x d}(e:bG Al π x d):bN P Al F (λ_ a b=>a=b/\∀p c,x= .slice p 0 c->a=0) π (Builtin.lenOf x) (Builtin.lenOf d):=by
 cases e with
 |slice f n c=>exact aT ⟨rfl,λp c h=>by cases h;rfl⟩
 |void g a0=>exact aT ⟨rfl,λp c h=>rfl⟩
 |string s=>exact aT ⟨rfl,λp c h=>by cases h⟩
 |_=>exact aU
def DY (size){x a}(h:bG Al π x a):bN P Al F (λ_ d g=>d= #[]/\g= #[]) π (Builtin.firstCells size 0 x) (Builtin.firstCells size 0 a):=by
 cases h with
 |slice f n c=>
  cases f with
  |none=>exact aT ⟨rfl,rfl⟩
  |some i=>unfold Builtin.firstCells;rw[zFi];exact aT ⟨rfl,rfl⟩
 |void j a0=>unfold Builtin.firstCells;rw[zFi];exact aT ⟨rfl,rfl⟩
 |string s=>have e:(s.extract 0 0).data.map (λb=>(.int aQ b.toNat:zY))= #[]:=by{simp};exact aT ⟨e,e⟩
 |_=>exact aU
def nG (size n){x b}(e:∀a c,x= .slice a 0 c->n=0)(h:bG Al π x b):bN P Al F (aj Al) π (Builtin.firstCells size n x) (Builtin.firstCells size n b):=by
 cases h with
 |slice d m c=>
  cases d with
  |none=>exact aT .nil
  |some f=>exact pA f _
 |void g a0=>have:=e _ _ rfl;subst this;unfold Builtin.firstCells;rw[zFi];exact aT .nil
 |string s=>exact aT (GN _)
 |_=>exact aU
def Jx (ts)(t){k g}(h:aZ Al π k g):bN P Al F (VR Al) π (Builtin.copy_ ts t k) (Builtin.copy_ ts t g):=by
 unfold Builtin.copy_;cases ts[0]? with
 |none=>obtain⟨i,p⟩|⟨x,w,i,p,o⟩:=h.get 0<;>rw[i]<;>exact aU
 |some t=>
  obtain⟨i,p⟩|⟨x,w,i,p,o⟩:=h.get 0;{rw[i];exact aU};obtain⟨f1,f2⟩|⟨y,J,f1,f2,j⟩:=h.get 1;{rw[i,f1];exact aU};rw[i,p,f1,f2];refine aS _ (bB t) ?_;rintro I u _ ok q ⟨rfl,_⟩;replace o:=o.mono q;replace j:=j.mono q;cases u with
  |slice e=>
   cases o with
   |slice B n c=>
    refine aS _ (uW j) ?_;rintro v m _ ok f ⟨rfl,G⟩;refine aS _ (bV e) ?_;rintro s size _ ok b rfl;have C:∀a c,y= .slice a 0 c->aEh m n=0:=λa c h=>by{rw[G a c h];exact Nat.zero_min n};refine aS _ (nG size _ C ((j.mono f).mono b)) ?_;intro r d L ok l D;cases B with
    |none=>exact aT (.int _ _)
    |some E=>refine aS _ (kE _ _ 0 (((E.mono f).mono b).mono l) (by rw[toArray_toList,toArray_toList];exact D)) ?_;rintro H _ _ ok z rfl;exact aT (.int _ _)
   |void K a0=>refine aS _ (Dt j) ?_;rintro v m _ ok f rfl;refine aS _ (bV e) ?_;rintro s size _ ok b rfl;rw[show aEh m 0=0 from Nat.min_zero m];refine aS _ (DY size ((j.mono f).mono b)) ?_;rintro r _ _ ok l ⟨rfl,rfl⟩;exact aT (.int _ _)
   |_=>exact aU
  |_=>exact aU
omit ok in
def oX {c c'}(h:aZ Al π c c')(n):aZ Al π (Builtin.zeroCells c n) (Builtin.zeroCells c' n):=by unfold Builtin.zeroCells;rw[h.size];have:=yA h (n*c.size);rw[h.size]at this;exact this
def Dw (j:IE P){ts}(m:∀t,ts[0]? =aA t->t<P.types.size)(t){d a}(h:aZ Al π d a):bN P Al F (VR Al) π (Builtin.clear_ ts t d) (Builtin.clear_ ts t a):=by
 unfold Builtin.clear_;cases s:ts[0]? with
 |none=>obtain⟨b,f⟩|⟨x,k,b,f,i⟩:=h.get 0<;>rw[b]<;>exact aU
 |some t=>
  obtain⟨b,f⟩|⟨x,k,b,f,i⟩:=h.get 0;{rw[b];exact aU};rw[b,f];refine aS _ (bB t) ?_;rintro y u _ ok p ⟨rfl,hu⟩;cases i with
  |iT=>cases u<;>exact aT dU
  |slice q n c=>
   cases q with
   |none=>cases u<;>exact aT dU
   |some r=>
    cases n with
    |zero=>cases u<;>exact aT dU
    |succ n=>
     cases u with
     |slice e=>refine aS _ (fT j (j.slice t e (m t s) hu)) ?_;intro w z B ok g l;refine aS _ (kE _ _ 0 ((r.mono p).mono g) (by rw[toArray_toList,toArray_toList];exact oX l.cells _)) ?_;rintro v _ _ ok o rfl;exact aT dU
     |_=>exact aU
  |void C a0=>cases u<;>exact aT dU
  |_=>cases u<;>exact aU
def Jv {x e y d}(f:bG Al π x e)(a:bG Al π y d):bN P Al F (VR Al) π (Builtin.min2 x y) (Builtin.min2 e d):=by
 cases f with
 |int k n=>
  cases a with
  |int p m=>exact aT (.int _ _)
  |pointer h=>cases h<;>first|exact aU|exact aV
  |_=>exact aU
 |string s=>
  cases a with
  |string t=>refine aS _ (vX .leq s t) ?_;intro l v o ok q g;refine aS _ (EB g) ?_;rintro j b _ ok i rfl;exact aT (.string _)
  |pointer h=>cases h<;>first|exact aU|exact aV
  |_=>exact aU
 |pointer h=>cases h<;>cases a<;>first|exact aV|exact aU|(rename_i c;cases c<;>first|exact aV|exact aU)
 |_=>cases a<;>first|exact aU|(rename_i c;cases c<;>first|exact aV|exact aU)
def Rf (ts)(t){c a}(h:aZ Al π c a):bN P Al F (VR Al) π (Builtin.min_ ts t c) (Builtin.min_ ts t a):=by
 unfold Builtin.min_;have hl:∀(l b:zV){π:Rn} [Ok P π] {x d:zY},bG Al π x d->aZ Al π l.toArray b.toArray->bN P Al F (VR Al) π (l.foldlM Builtin.min2 x) (b.foldlM Builtin.min2 d):=by
  intro l;induction l with
  |nil=>intro b π ok x d g h;cases b with
   |nil=>exact aT g
   |cons _ _=>have:=h.size;simp at this
  |cons y l m=>
   intro b π ok x d g h;cases b with
   |nil=>have:=h.size;simp at this
   |cons q b=>obtain⟨j,i⟩:=bX h;rw[List.foldlM_cons,List.foldlM_cons];refine aS _ (Jv g j) ?_;intro p v r ok o n;exact m b n (i.mono o)
 have f:aZ Al π c.toList.toArray a.toList.toArray:=by rw[toArray_toList,toArray_toList];exact h
 cases e:c.toList with
 |nil=>exact aU
 |cons x l=>
  cases k:a.toList with
  |nil=>rw[e,k]at f;have:=f.size;simp at this
  |cons d b=>rw[e,k]at f;obtain⟨j,i⟩:=bX f;exact hl l b j i
end
section
variable {P:zZ}{Al:zF}{F:Kp}{π:Rn}{α β γ δ:Type}{A:Rn->α->β->Prop} [ok:Ok P π]
def Calm (P:zZ)(s:Sem α):Prop:=∀v b,(∃a w e,s.runT P v b=(.ok a w,e))\/∃hl w e,s.runT P v b=(.halt hl w,e)/\Fatal hl
omit ok in
def Calm.dead {s}{f:α->Sem β}(h:Calm P s)(c:∀a,mD P (f a)):mD P (s>>=f):=by
 intro v d;rw[bD];obtain⟨a,w,b,e⟩|⟨hl,w,b,e,g⟩:=h v d
 .rw[e];exact c a w b
 .rw[e];exact⟨hl,w,b,rfl,g⟩
omit ok in
def Calm.bind {s}{f:α->Sem β}(h:Calm P s)(c:∀a,Calm P (f a)):Calm P (s>>=f):=by
 intro v d;rw[bD];obtain⟨a,w,b,e⟩|⟨hl,w,b,e,g⟩:=h v d
 .rw[e];exact c a w b
 .rw[e];exact aI ⟨hl,w,b,rfl,g⟩
omit ok in
def mD.bind {s}{f:α->Sem β}(h:mD P s):mD P (s>>=f):=by intro v b;rw[bD];obtain⟨hl,w,a,e,c⟩:=h v b;rw[e];exact⟨hl,w,a,rfl,c⟩
omit ok in
def tQ (a:α):Calm P (pure a:Sem α):=λv e=>aH ⟨a,v,e,rfl⟩
omit ok in
def ZN (r):Calm P (shape r):=λv e=>aH ⟨_,v,e,rfl⟩
omit ok in
def UQ (a):Calm P (frozen a):=λv e=>aH ⟨_,v,e,rfl⟩
omit ok in
def rN (a)(n):Calm P (Builtin.holdsCells a n):=by refine(ZN _).bind λs=> ?_;cases s<;>exact tQ _
omit ok in
def JJ (size s n)(base)(x):Calm P (Builtin.mayShare size s n base x):=by
 have second:∀there:Bool,Calm P (do
   if !there then return aF
   match x with
   | .slice (aA b) _ _=>do pure (!(<-Builtin.holdsCells b (n*size))||base.any (·.block==b.block))
   |_=>pure aG):=by
  intro there
  cases there with
  |false=>exact tQ _
  |true=>
   show Calm P (match x with
   | .slice (aA b) _ _=>do pure (!(<-Builtin.holdsCells b (n*size))||base.any (·.block==b.block))
   |_=>pure aG)
   split;{exact(rN _ _).bind λb=>tQ _};{exact tQ _}
 cases base with
 |none=>exact second aF
 |some a=>refine(rN _ _).bind λb=> ?_;exact(UQ _).bind λc=>second _
def nH (S:IE P){e:zD}(R:e<P.types.size){base p:zO}(s k size n:Nat)(D:bG Al π (.slice base s k) (.slice p s k))(f:Bool){x w:zY}(O:bG Al π x w)(G:f=aG->∀a c,x= .slice a 0 c->n=0):
  bN P Al F (VR Al) π
   (do
    let m:Sem (zA):=
     if !f then Builtin.firstCells size n x
     else if n*size=0 then pure #[]
     else do pure (Builtin.zeroCells (<-zeroValue e).cells n)
    let g:=s+n
    if g<=k then
     let new<-m
     if let aA a:=base then storeCells (a.add (s*size)) new.toList
     pure (.slice base g k)
    else
     if(g:Int)>IntKind.i64.max/\(f\/(<-typeInfo e).bytes=0)then aEc (.error "growslice: len out of range")
     if Builtin.nextslicecap g k*(<-typeInfo e).bytes>2^48 then(if f then aEc (.error "growslice: len out of range")else do
      if !(<-Builtin.mayShare size s n base x)then mark .noRoom
      unsupported (.resourceLimit "append: a slice or a string whose bytes no memory bears"))
     let l<-choose (.appendCap g k e)
     askRoom (l*(<-typeInfo e).bytes)
     let old<-Builtin.firstCells size s (.slice base s k)
     let new<-m
     let rest:=Builtin.zeroCells (<-zeroValue e).cells (l-g)
     pure (.slice (aA (<-newRow e (old++new++rest))) g l))
   (do
    let m:Sem (zA):=
     if !f then Builtin.firstCells size n w
     else if n*size=0 then pure #[]
     else do pure (Builtin.zeroCells (<-zeroValue e).cells n)
    let g:=s+n
    if g<=k then
     let new<-m
     if let aA a:=p then storeCells (a.add (s*size)) new.toList
     pure (.slice p g k)
    else
     if(g:Int)>IntKind.i64.max/\(f\/(<-typeInfo e).bytes=0)then aEc (.error "growslice: len out of range")
     if Builtin.nextslicecap g k*(<-typeInfo e).bytes>2^48 then(if f then aEc (.error "growslice: len out of range")else do
      if !(<-Builtin.mayShare size s n p w)then mark .noRoom
      unsupported (.resourceLimit "append: a slice or a string whose bytes no memory bears"))
     let l<-choose (.appendCap g k e)
     askRoom (l*(<-typeInfo e).bytes)
     let old<-Builtin.firstCells size s (.slice p s k)
     let new<-m
     let rest:=Builtin.zeroCells (<-zeroValue e).cells (l-g)
     pure (.slice (aA (<-newRow e (old++new++rest))) g l)):=by
 have r:∀(t:Rn),Ok P t->(∀a b,π a b->t a b)->bN P Al F (aj Al) t
   (if !f then Builtin.firstCells size n x else if n*size=0 then pure #[]else do pure (Builtin.zeroCells (<-zeroValue e).cells n))
   (if !f then Builtin.firstCells size n w else if n*size=0 then pure #[]else do pure (Builtin.zeroCells (<-zeroValue e).cells n)):=by
  intro t ok u
  split
  .rename_i y;exact nG size n (G (by simpa using y)) (O.mono u)
  .split
   .exact aT .nil
   .refine aS _ (fT S R) ?_;intro N z Y ok q y;exact aT (oX y.cells n)
 by_cases Q:s+n<=k
 .simp only[zAz Q];cases D with
  |void hV a0=>
   obtain rfl:n=0:=by omega
   have h0:bN P Al F (λ_ d M=>d= #[]/\M= #[]) π
     (if !f then Builtin.firstCells size 0 x else if 0*size=0 then pure #[]else do pure (Builtin.zeroCells (<-zeroValue e).cells 0))
     (if !f then Builtin.firstCells size 0 w else if 0*size=0 then pure #[]else do pure (Builtin.zeroCells (<-zeroValue e).cells 0)):=by
    split
    .exact DY size O
    .rw[zAz (zFi _)];exact aT ⟨rfl,rfl⟩
   refine aS _ h0 ?_;rintro t _ _ ok u ⟨rfl,rfl⟩;exact aT (.void hV a0)
  |slice D=>
   refine aS _ (r π ok λ_ _ h=>h) ?_;intro t d M ok u L;cases D with
   |none=>exact aT (.slice .none _ _)
   |some E=>refine aS _ (kE _ _ 0 ((E.mono u).add _) (by rw[toArray_toList,toArray_toList];exact L)) ?_;rintro N _ _ ok q rfl;exact aT (.slice (.some ((E.mono u).mono q)) _ _)
 .simp only[zAv Q];refine aS _ (eG e) ?_;rintro t i _ ok u ⟨rfl,_⟩;by_cases U:((s+n:Nat):Int)>IntKind.i64.max/\(f=aF\/i.bytes=0)
  .simp only[zAz U];exact cW _
  .simp only[zAv U];refine aS _ (eG e) ?_;rintro N j _ ok q ⟨rfl,_⟩;by_cases T:Builtin.nextslicecap (s+n) k*j.bytes>2^48
   .simp only[zAz T];cases f with
    |true=>exact cW _
    |false=>refine Jw (mD.bind ?_);rw[zAv (by simp)];refine(JJ _ _ _ _ _).dead λb=> ?_;cases b<;>exactλv es=>⟨_,_,_,rfl,by simp⟩
   .simp only[zAv T];refine aS _ (fU _) ?_;rintro τ l _ ok K rfl;refine aS _ (eG e) ?_;rintro X j' _ ok C ⟨rfl,_⟩;refine aS _ (sD _) ?_;rintro W _ _ ok J rfl;have sub:∀a b,π a b->W a b:=λa b h=>J _ _ (C _ _ (K _ _ (q _ _ (u _ _ h))));refine aS _ (nG size s (λa c h=>by cases h;rfl) (D.mono sub)) ?_;intro V o o' ok I ho;refine aS _ (r V ok λa b h=>I _ _ (sub _ _ h)) ?_;intro χ d M ok H L;refine aS _ (fT S R) ?_;intro ψ z Y ok B y;refine aS _ (kT ((((ho.mono H).mono B).append (L.mono B)).append (oX y.cells _)) e) ?_;intro ω a a' ok Z E;exact aT (.slice (.some E) _ _)
def WY (J:IE P){ts}(W:∀t,ts[0]? =aA t->t<P.types.size)(t){E r}(h:aZ Al π E r):bN P Al F (VR Al) π (Builtin.append_ ts t E) (Builtin.append_ ts t r):=by
 unfold Builtin.append_;cases X:ts[0]? with
 |none=>obtain⟨C,K⟩|⟨x,R,C,K,G⟩:=h.get 0<;>rw[C]<;>exact aU
 |some t=>
  obtain⟨C,K⟩|⟨x,R,C,K,G⟩:=h.get 0;{rw[C];exact aU};obtain⟨f1,f2⟩|⟨y,y',f1,f2,p⟩:=h.get 1;{rw[C,f1];exact aU};rw[C,K,f1,f2];refine aS _ (bB t) ?_;rintro ρ u _ ok S ⟨rfl,hu⟩;replace G:=G.mono S;replace p:=p.mono S;cases u with
  |slice e=>
   have O:=J.slice t e (W t X) hu;obtain⟨base,q,s,d,rfl,rfl⟩|N:(∃base q s d,x= .slice base s d/\R= .slice q s d)\/∀base s d,x≠.slice base s d:=by
    cases G with
    |slice D n c=>exact aH ⟨_,_,_,_,rfl,rfl⟩
    |void hV a0=>exact aH ⟨_,_,_,_,rfl,rfl⟩
    |_=>exact aI λ_ _ _ h=>by cases h
   .refine aS _ (bV e) ?_;rintro Z size _ ok I rfl;have D:=G.mono I;replace p:=p.mono I;cases ts[1]? with
    |none=>refine aS (λ_ a b=>a=aG/\b=aG) (aT ⟨rfl,rfl⟩) ?_;rintro U z M ok g ⟨v,m⟩;subst v;subst m;refine aS _ (uW (p.mono g)) ?_;rintro Q n _ ok j ⟨rfl,B⟩;exact nH J O s d size n ((D.mono g).mono j) aG ((p.mono g).mono j) λ_=>B
    |some V=>
     refine aS _ (bB V) ?_;rintro U u _ ok g ⟨rfl,_⟩;cases u with
     |int k=>refine aS (λ_ a b=>a=aF/\b=aF) (aT ⟨rfl,rfl⟩) ?_;rintro L z M ok f ⟨v,m⟩;subst v;subst m;replace p:=p.mono g;replace D:=D.mono g;refine aS _ (mV (p.mono f)) ?_;rintro Q l _ ok j rfl;by_cases hl:IntKind.i64.wrap l<0;{rw[zAz hl];first|exact cW _|(rw[zAz hl];exact cW _)};{(first|rw[zAv hl,zAv hl]|rw[zAv hl]);refine aS _ (eG e) ?_;rintro Y i _ ok H ⟨rfl,_⟩;by_cases o:IntKind.i64.wrap l*i.bytes>2^48;{(first|rw[zAz o,zAz o]|rw[zAz o]);refine aS _ (fU _) ?_;rintro T made _ ok w rfl;exact cW _};{(first|rw[zAv o,zAv o]|rw[zAv o]);refine aS (λ_ a b=>a=(IntKind.i64.wrap l).toNat/\b=(IntKind.i64.wrap l).toNat) (aT ⟨rfl,rfl⟩) ?_;rintro T z M ok w ⟨v,m⟩;rw[v,m];exact nH J O s d size (IntKind.i64.wrap l).toNat ((((D.mono f).mono j).mono H).mono w) aF ((((p.mono f).mono j).mono H).mono w) λh=>by cases h}}
     |_=>refine aS (λ_ a b=>a=aG/\b=aG) (aT ⟨rfl,rfl⟩) ?_;rintro L z M ok f ⟨v,m⟩;subst v;subst m;refine aS _ (uW ((p.mono g).mono f)) ?_;rintro Q n _ ok j ⟨rfl,B⟩;exact nH J O s d size n (((D.mono g).mono f).mono j) aG (((p.mono g).mono f).mono j) λ_=>B
   .cases x<;>first|exact aU|exact absurd rfl (N _ _ _)
  |_=>exact aU
end
section
variable {P:zZ}{Al:zF}{F:Kp}{π:Rn}{α β γ δ:Type}{A:Rn->α->β->Prop} [ok:Ok P π]
def uX (t):bN P Al F (λ_ a b=>a=b/\P.underlying t=aA (.pointer a)) π (elemOf t) (elemOf t):=by
 refine aS _ (bB t) ?_;rintro c u _ ok h ⟨rfl,hu⟩;cases u with
 |pointer e=>exact aT ⟨rfl,hu⟩
 |_=>exact aU
def DU:∀(n){π} [Ok P π] {a b}(acc),bU π a b->bN P Al F ER π (Extern.Bytes.loadBytes a n acc) (Extern.Bytes.loadBytes b n acc):=by
 intro n;induction n with
 |zero=>intro π ok a b acc h;exact aT rfl
 |succ n i=>
  intro π ok a b acc h;refine aS _ (QX h _) ?_;intro e v f ok d c;cases c with
  |int k m=>cases k<;>first|exact aU|exact i _ ((h.mono d).add 1)
  |_=>exact aU
def BB {x a}(h:bG Al π x a):bN P Al F ER π (Extern.Bytes.bytesOf x) (Extern.Bytes.bytesOf a):=by
 cases h with
 |string s=>exact aT rfl
 |slice b n c=>
  cases b with
  |none=>exact aT rfl
  |some d=>exact DU _ _ d
 |void e a0=>exact aT rfl
 |_=>exact aU
def pQ {a x}(h:aZ Al π a x):(∃l b:zV,a=l.toArray/\x=b.toArray/\aZ Al π l.toArray b.toArray):=⟨a.toList,x.toList,by simp,by simp,by rw[toArray_toList,toArray_toList];exact h⟩
def yH (ts)(t){d c}(h:aZ Al π d c):bN P Al F (VR Al) π (Builtin.unsafeString_ ts t d) (Builtin.unsafeString_ ts t c):=by
 obtain⟨l,k,rfl,rfl,h⟩:=pQ h;have a:=h.size;match l,k with
 |[],[]=>exact aU
 |[x],[j]=>cases(bX h).1<;>exact aU
 |[x,y],[j,u]=>
  have g:=(bX h).1;have v:=(bX (bX h).2).1;cases g with
  |pointer w=>
   refine aS _ (mV v) ?_;rintro D n _ ok m rfl;cases ts[0]? with
   |none=>exact aU
   |some pt=>
    by_cases r:n<0;{simp only[zAz r];exact cW _}
    .simp only[zAv r];by_cases q:n>IntKind.i64.max
     .simp only[zAz q];exact aV
     .simp only[zAv q];cases w with
      |none=>dsimp only;split;{exact aT (.string _)};{exact cW _}
      |some o=>
       by_cases p:n=0;{simp only[zAz p];exact aT (.string _)}
       .simp only[zAv p];refine aS _ (uX pt) ?_;rintro C e _ ok f ⟨rfl,_⟩;refine aS _ (rJ ((o.mono m).mono f) e n.toNat) ?_;rintro B b _ ok i rfl;split
        .exact .share (((o.mono m).mono f).mono i) λs=> .pure (.string s)
        .exact aV
  |_=>exact aU
 |x::y::z::l,j::u::E::k=>have g:=(bX h).1;cases g<;>exact aU
 |[],_::_=>simp at a
 |[_],[]=>simp at a
 |[_],_::_::_=>simp at a
 |[_,_],[]=>simp at a
 |[_,_],[_]=>simp at a
 |[_,_],_::_::_::_=>simp at a
 |_::_::_::_,[]=>simp at a
 |_::_::_::_,[_]=>simp at a
 |_::_::_::_,[_,_]=>simp at a
def qF (ts:Array zD)(t:zD)(a:Addr)(n c:Nat):Builtin.unsafeSliceData_ ts t #[.slice (aA a) n c]=(if c≠0 then pure (.pointer (aA a))else do
  if(<-viewAt a.block).isSome then pure (.pointer (aA a))else pure (.pointer (aA ⟨<-newObj (.view a (<-elemOf t)),0,aB⟩))):=rfl
def tU {t}(B:∀e,P.underlying t=aA (.pointer e)->jH P e)(ts){g f}(C:∀x,g[0]? =aA x->∀b n s,Al (1000002+b)->x≠.slice (aA ⟨b,n,s⟩) 0 0)(h:aZ Al π g f):bN P Al F (VR Al) π (Builtin.unsafeSliceData_ ts t g) (Builtin.unsafeSliceData_ ts t f):=by
 obtain⟨l,k,rfl,rfl,h⟩:=pQ h;have d:=h.size;match l,k with
 |[],[]=>exact aU
 |[x],[p]=>
  have q:=(bX h).1;cases q with
  |slice w n c=>
   cases w with
   |none=>exact aT (.pointer .none)
   | @some a K i=>
    rw[qF,qF];by_cases o:c≠0;{simp only[zAz o];exact aT (.pointer (.some i))}
    .simp only[zAv o];refine aS _ (qG i.1) ?_;intro G s I ok m u;cases u with
     |some _=>exact aT (.pointer (.some (i.mono m)))
     |none=>refine aS _ (uX t) ?_;rintro E e _ ok j ⟨rfl,he⟩;exact .view (.view ((i.mono m).mono j) e (B e he)) λD r J _ _ v=> .pure (.pointer (.some ⟨v,rfl,rfl⟩))
  |void z a0=>exact absurd rfl (C _ rfl _ _ _ z)
  |_=>exact aU
 |x::y::l,p::H::k=>exact aU
 |[],_::_=>simp at d
 |[_],[]=>simp at d
 |[_],_::_::_=>simp at d
 |_::_::_,[]=>simp at d
 |_::_::_,[_]=>simp at d
def AZ {e d}(h:aZ Al π e d):bN P Al F (VR Al) π (Extern.BytealgCompare.compare e) (Extern.BytealgCompare.compare d):=by
 obtain⟨l,g,rfl,rfl,h⟩:=pQ h;have c:=h.size;match l,g with
 |[],[]=>exact aU
 |[x],[f]=>exact aU
 |[x,y],[f,i]=>have k:=(bX h).1;have j:=(bX (bX h).2).1;refine aS _ (BB k) ?_;rintro p a _ ok n rfl;refine aS _ (BB (j.mono n)) ?_;rintro o b _ ok m rfl;exact aT (.int _ _)
 |x::y::z::l,f::i::q::g=>exact aU
 |[],_::_=>simp at c
 |[_],[]=>simp at c
 |[_],_::_::_=>simp at c
 |[_,_],[]=>simp at c
 |[_,_],[_]=>simp at c
 |[_,_],_::_::_::_=>simp at c
 |_::_::_::_,[]=>simp at c
 |_::_::_::_,[_]=>simp at c
 |_::_::_::_,[_,_]=>simp at c
def GH:∀(n t:Nat){acc a:zA},aZ Al π acc a->aZ Al π (Extern.BytealgMakeNoZero.digits n t acc) (Extern.BytealgMakeNoZero.digits n t a)
 |0,_,_,_,h=>h
 |n+1,t,_,_,h=>GH n (t/256) (h.push (.int _ _))
def sC (p rs){g f}(h:aZ Al π g f):bN P Al F (VR Al) π (Extern.BytealgMakeNoZero.makeNoZero p rs g) (Extern.BytealgMakeNoZero.makeNoZero p rs f):=by
 obtain⟨l,i,rfl,rfl,h⟩:=pQ h;have d:=h.size;match l,i with
 |[],[]=>exact aU
 |[x],[j]=>
  have m:=(bX h).1;cases m with
  |int k n=>
   cases k<;>first|exact aU|skip
   unfold Extern.BytealgMakeNoZero.makeNoZero;cases rs[0]? with
   |none=>exact aU
   |some t=>
    refine aS _ (bB t) ?_;rintro D u _ ok G ⟨rfl,_⟩;cases u with
    |slice e=>dsimp only;split;{exact cW _};{refine aS _ (fU _) ?_;rintro C c _ ok s rfl;refine aS _ (sD _) ?_;rintro B _ _ ok r rfl;refine aS _ (fU _) ?_;rintro z b _ ok q rfl;refine aS _ (kT (GH c b .nil) e) ?_;intro w a H ok o v;exact aT (.slice (.some v) _ _)}
    |_=>exact aU
  |_=>exact aU
 |x::y::l,j::E::i=>cases(bX h).1<;>exact aU
 |[],_::_=>simp at d
 |[_],[]=>simp at d
 |[_],_::_::_=>simp at d
 |_::_::_,[]=>simp at d
 |_::_::_,[_]=>simp at d
def QV {c b}(h:aZ Al π c b):bN P Al F (VR Al) π (Extern.AbiNoEscape.same c) (Extern.AbiNoEscape.same b):=by
 obtain⟨l,d,rfl,rfl,h⟩:=pQ h;have a:=h.size;match l,d with
 |[],[]=>exact aU
 |[x],[e]=>exact aT (bX h).1
 |x::y::l,e::f::d=>exact aU
 |[],_::_=>simp at a
 |[_],[]=>simp at a
 |[_],_::_::_=>simp at a
 |_::_::_,[]=>simp at a
 |_::_::_,[_]=>simp at a
def oZ (p rs)(a a' b b'){c l}(f d)(j:c=0\/l=0):bN P Al F (VR Al) π (Extern.SlicesOverlaps.overlaps p rs #[.slice a c f,.slice b l d]) (Extern.SlicesOverlaps.overlaps p rs #[.slice a' c f,.slice b' l d]):=by
 unfold Extern.SlicesOverlaps.overlaps;cases p[0]? with
 |none=>exact aU
 |some t=>
  refine aS _ (bB t) ?_;rintro m u _ ok n ⟨rfl,_⟩;cases u with
  |slice e=>refine aS _ (bV e) ?_;rintro k size _ ok g rfl;have i:c=0\/l=0\/size=0:=j.elim aH λh=>aI (aH h);cases a<;>cases b<;>cases a'<;>cases b'<;>dsimp only<;>(try simp only[zAz i])<;>exact aT (.bool _)
  |_=>exact aU
def wA (hF:∀b,¬F b)(p rs){o g}(h:aZ Al π o g):bN P Al F (VR Al) π (Extern.SlicesOverlaps.overlaps p rs o) (Extern.SlicesOverlaps.overlaps p rs g):=by
 obtain⟨l,B,rfl,rfl,h⟩:=pQ h;have c:=h.size;match l,B with
 |[],[]=>exact aU
 |[x],[v]=>cases(bX h).1<;>exact aU
 |[x,y],[v,H]=>
  have J:=(bX h).1;have C:=(bX (bX h).2).1;cases J with
  |slice M I ca=>
   cases C with
   |slice s w O=>
    unfold Extern.SlicesOverlaps.overlaps;cases p[0]? with
    |none=>exact aU
    |some t=>
     refine aS _ (bB t) ?_;rintro ρ u _ ok D ⟨rfl,_⟩;cases u with
     |slice e=>
      dsimp only;refine aS _ (bV e) ?_;rintro Z size _ ok r rfl;cases M with
      |none=>cases s<;>exact aT (.bool _)
      | @some a S j=>
       cases s with
       |none=>exact aT (.bool _)
       | @some b R hb=>
        replace j:=(j.mono D).mono r;replace hb:=(hb.mono D).mono r;have G:=tS ok j hb;have N:(S.block !=R.block)=(a.block !=b.block):=by{unfold bne;rw[G]};dsimp only;rw[G,N,j.2.1,hb.2.1];by_cases k:I=0\/w=0\/size=0;{(first|rw[zAz k,zAz k]|rw[zAz k]);exact aT (.bool _)}
        ·(first|rw[zAv k,zAv k]|rw[zAv k]);refine aS _ (kU hF j) ?_;rintro Y f1 _ ok d rfl;refine aS _ (kU hF (hb.mono d)) ?_;rintro X f2 _ ok f rfl;split;{exact aV}
         .split
          .refine aS _ (nF ((j.mono d).mono f)) ?_;rintro W _ _ ok i rfl;refine aS _ (nF (((hb.mono d).mono f).mono i)) ?_;rintro V _ _ ok q rfl;refine aS _ (wC hF ((((j.mono d).mono f).mono i).mono q) ((((hb.mono d).mono f).mono i).mono q)) ?_;rintro U m _ ok L rfl;split
           .refine aS _ (fU _) ?_;rintro T n _ ok K rfl;exact aT (.bool _)
           .exact aT (.bool _)
          .exact aT (.bool _)
     |_=>exact aU
   |void E Q=>exact oZ p rs _ _ _ _ _ _ (aI rfl)
   |_=>exact aU
  |void E a0=>
   cases C with
   |slice s w O=>exact oZ p rs _ _ _ _ _ _ (aH rfl)
   |void E Q=>exact oZ p rs _ _ _ _ _ _ (aH rfl)
   |_=>exact aU
  |_=>exact aU
 |x::y::z::l,v::H::z'::B=>cases(bX h).1<;>first|exact aU|(cases(bX (bX h).2).1<;>exact aU)
 |[],_::_=>simp at c
 |[_],[]=>simp at c
 |[_],_::_::_=>simp at c
 |[_,_],[]=>simp at c
 |[_,_],[_]=>simp at c
 |[_,_],_::_::_::_=>simp at c
 |_::_::_::_,[]=>simp at c
 |_::_::_::_,[_]=>simp at c
 |_::_::_::_,[_,_]=>simp at c
end
def AA {P α}{f:zZ->Sem α}(h:mD P (f P)):mD P (program>>=f):=λv e=>h v e
def LW {P α}{f:TypeInfo->Sem α}(h:∀i,P.info? 1000000=aA i->mD P (f i)):mD P (typeInfo 1000000>>=f):=λv a=>by
 show∃hl w e,Sem.runT P (Sem.bind (match P.info? 1000000 with|some i=>pure i|none=>stuck "no such type") f) v a=(.halt hl w,e)/\Fatal hl;cases hi:P.info? 1000000 with
 |none=>exact⟨.stuck "no such type",v,a,rfl,aH ⟨_,rfl⟩⟩
 |some i=>exact h i hi v a
def UL {P}(h:∀i,P.info? 1000000=aA i->i.methods.find? (·.name== "")=aB)(n)(v):mD P (method n 1000000 v ""):=by
 cases n with
 |zero=>exact qV
 |succ n=>unfold method;exact LW λi hi=>by rw[h i hi];exact nW
def BU {P}(h:∀i,P.info? 1000000=aA i->i.methods.find? (·.name== "")=aB)(v)(x):mD P (callMethod (.iface 1000000 v) "" x):=by exact AA (mD.bind (UL h _ v))
def UM {P}(h:∀i,P.info? 1000000=aA i->i.methods.find? (·.name== "")=aB)(z)(x):mD P (do let d<-aEe (.func (.method "") #[.iface 1000000 .nilIface] #[z]) x;invoke d.target d.args):=by
 show mD P (invoke (.fn (.method "") #[z]) (#[.iface 1000000 .nilIface]++x));unfold invoke;have e:(#[Value.iface 1000000 .nilIface]++x)[0]? =aA (.iface 1000000 .nilIface):=by rw[zCr (by simp)];rfl
 rw[e];exact BU h _ _
def uO {P α}(a:∀i,P.info? 1000000=aA i->i.methods.find? (·.name== "")=aB)(n)(v){f:Option Bool->Sem α}(h:mD P (f aB)):mD P (nilAhead n 1000000 v "">>=f):=by
 cases n with
 |zero=>exact h
 |succ n=>unfold nilAhead;exact mD.bind (LW λi hi=>by rw[a i hi];exact nW)
inductive II (Al:zF)(π:Rn):Deferred->Deferred->Prop
 |fn {f:zN} (hf:Al f) {cs cs' JO vJ:zA} (hc:aZ Al π cs cs') (ha:aZ Al π JO vJ) (hz:JO.size+cs.size<=20):II Al π ⟨.fn (.func f) cs,JO⟩ ⟨.fn (.func f) cs',vJ⟩
 |nil {JO vJ:zA} (ha:aZ Al π JO vJ):II Al π ⟨.nil,JO⟩ ⟨.nil,vJ⟩
structure IG (Al:zF)(π:Rn)(d d':Deferred):Prop where
 rel:II Al π d d'
 lets:∃f cs JO,d=⟨.fn (.func f) cs,JO⟩/\Al (900000+f)
inductive HU (Al:zF)(π:Rn):Next->Next->Prop
 |value {v v':zY} (h:bG Al π v v'):HU Al π (.value v) (.value v')
 |skip:HU Al π .skip .skip
 |enter {f:zN} (hf:Al f) {JO vJ:zA} (ha:aZ Al π JO vJ) (hz:JO.size<=20):HU Al π (.enter f JO) (.enter f vJ)
 |defer {d d':Deferred} (h:IG Al π d d'):HU Al π (.defer d) (.defer d')
inductive oV (Al:zF)(π:Rn):Next->Next->Prop
 |value {v v':zY} (h:bG Al π v v'):oV Al π (.value v) (.value v')
 |skip:oV Al π .skip .skip
 |enter {f:zN} (hf:Al f) {JO vJ:zA} (ha:aZ Al π JO vJ) (hz:JO.size<=20):oV Al π (.enter f JO) (.enter f vJ)
def oV.to {Al π n n'}(h:oV Al π n n'):HU Al π n n':=by
 cases h with
 |value h=>exact .value h
 |skip=>exact .skip
 |enter b c a=>exact .enter b c a
def bN.imp {P Al F α β A c}(f:∀π a b,A π a b->c π a b){π}{s:Sem α}{s':Sem β}(h:bN P Al F A π s s'):bN P Al F c π s s':=by
 induction h with
 |pure h=>exact .pure (f _ _ _ h)
 |load h _ i=>exact .load h i
 |store h d _ i=>exact .store h d i
 |new h _ i=>exact .new h i
 |marked hC h _ i=>exact .marked hC h i
 |view h _ i=>exact .view h i
 |getObj h _ i=>exact .getObj h i
 |shape h _ i=>exact .shape h i
 |freeze hF h _ i=>exact .freeze hF h i
 |frozen hF h _ i=>exact .frozen hF h i
 |share h _ i=>exact .share h i
 |same e h g _ i=>exact .same e h g i
 |choose _ i=>exact .choose i
 |program he _ i=>exact .program he i
 |env _ i=>exact .env i
 |mark hm _ i=>exact .mark hm i
 |panic h=>exact .panic h
 |dead h=>exact .dead h
def II.mono {Al π ρ}(h:∀b b',π b b'->ρ b b'){d c}(x:II Al π d c):II Al ρ d c:=by
 cases x with
 |fn f g a e=>exact .fn f (g.mono h) (a.mono h) e
 |nil a=>exact .nil (a.mono h)
def IG.mono {Al π ρ}(h:∀b b',π b b'->ρ b b'){d a}(x:IG Al π d a):IG Al ρ d a:=⟨x.rel.mono h,x.lets⟩
def AH (P:zZ)(b:Builtin)(ts:Array zD)(t:zD):Prop:=
 match b with
 | .append| .clear=>∀u,ts[0]? =aA u->u<P.types.size
 | .cap| .copy| .len| .min| .unsafeString=>True
 | .unsafeSliceData=>∀e,P.underlying t=aA (.pointer e)->jH P e
 |_=>False
def AF (P:zZ)(Al:zF):Operand->Prop
 | .tmp _=>True
 | .const v=>∀π,Ok P π->bG Al π v v
 | .global g=>g<=P.globals.size
 | .func f=>Al f
def vH (P:zZ)(Al:zF)(name:String):Prop:=
 ∀t i m,P.info? t=aA i->i.methods.find? (·.name==name)=aA m->m.path= #[]/\∃f,m.func=aA (f,aF)/\Al f
def Pj (P:zZ)(Al:zF)(ts:Array zD)(t:zD):Callee->Prop
 | .value _=>True
 | .builtin b=>AH P b ts t
 | .invoke _ m=>vH P Al m
def OW (P:zZ)(Al:zF)(F:Kp)(o:Oper):Prop:=
 (∀x∈o.op.operands,AF P Al x)/\
 match o.op with
 | .move _| .assign _| .pick .. | .box .. | .load .. | .store .. | .nilCheck _| .unOp .. | .makeInterface .. | .slice .. | .fieldAddr .. | .field .. | .indexAddr .. | .index .. | .extract .. | .panic _=>True
 | .alloc t| .build t _| .buildSlice t _ _| .makeSlice t _ _=>t<P.types.size
 | .binOp op t _ _ _=>((op= .eql\/op= .neq)->GZ P Op.maxDepth t)/\((F.cmp\/∀b,¬F b)\/(op≠.eql/\op≠.neq)\/Basic P t\/∃e i,P.underlying t=aA (.pointer e)/\P.info? e=aA i/\i.size≠0)
 | .convert s d _=>Ad P F s d
 | .makeFunc fn a b=>a.size+b.size<=10/\match fn with| .func f=>Al f|_=>False
 | .call c=>c.args.size<=10/\Pj P Al c.argTypes o.type c.callee
 | .defer c=>c.args.size<=10/\∃f,c.callee= .value (.func f)/\Al (900000+f)
 | .waits g=>g<=P.globals.size
 |_=>False
def OX (P:zZ)(F:Kp)(o:Oper)(e:Operand->zY):Prop:=∀op t x y u,o.op= .binOp op t x y u->(F.cmp\/∀b,¬F b)\/(op≠.eql/\op≠.neq)\/Basic P t\/tB P t (e x) (e y)
def rE (P:zZ)(F:Kp)(fr:zC):Prop:=fr.mode= .run->∀ops j rest k o,fr.todo=aN ops (j::rest)::k->ops[j]? =aA o->OX P F o fr.eval
def xO {P F}(h:∀b,¬F b){fr}:rE P F fr:=λ_ _ _ _ _ _ _ _ _ _ _ _ _ _=>aH (aI h)
def Ze (Al:zF)(o:Oper)(e:Operand->zY):Prop:=∀c,o.op= .call c->c.callee= .builtin .unsafeSliceData->∀x,(c.args.map e)[0]? =aA x->∀b n s,Al (1000002+b)->x≠.slice (aA ⟨b,n,s⟩) 0 0
def nZ (Al:zF)(fr:zC):Prop:=fr.mode= .run->∀ops j rest k o,fr.todo=aN ops (j::rest)::k->ops[j]? =aA o->Region.wanted o (yielded ops fr.tmps)=aF->Ze Al o fr.eval
def jG {Al}(h:∀k,¬Al (1000002+k)){fr}:nZ Al fr:=λ_ _ _ _ _ _ _ _ _ _ _ _ _ _ _ _ _ a=>absurd a (h _)
def OW.nd {P Al F o}(h:OW P Al F o)(b:∀f,¬Al (900000+f))(c):o.op≠.defer c:=λe=>by have:=h.2;rw[e]at this;obtain⟨_,f,_,a⟩:=this;exact b f a
structure Met (P:zZ)(Al:zF)(F:Kp):Prop where
 Nc:IE P
 PN:∀i,P.info? 1000000=aA i->i.methods.find? (·.name== "")=aB
 name:∀f fn,Al f->P.funcs[f]? =aA fn->fn.name≠ "runtime.NumGoroutine"
 lW:∀f fn,Al f->P.funcs[f]? =aA fn->fn.body=aB->Extern.findNext fn=aB/\∃e,Extern.find fn=aA e/\∀(π:Rn) JO vJ,Ok P π->aZ Al π JO vJ->bN P Al F (VR Al) π (e JO) (e vJ)
section
variable {P:zZ}{Al:zF}{F:Kp}{π:Rn}{α β γ δ:Type}{A:Rn->α->β->Prop} [ok:Ok P π]
def fX {s s'}(h:bN P Al F (VR Al) π s s'):bN P Al F (oV Al) π (do pure (.value (<-s))) (do pure (.value (<-s'))):=by refine aS _ h ?_;intro b v c ok d a;exact aT (.value a)
def bj {s s'}(h:bN P Al F ER π s s'):bN P Al F (oV Al) π (do s;pure .skip) (do s';pure .skip):=by refine aS _ h ?_;rintro a _ _ ok b rfl;exact aT .skip
def RH (e:IE P){b ts t}(d:AH P b ts t)(cs){c a}(f:b= .unsafeSliceData->∀x,c[0]? =aA x->∀b n s,Al (1000002+b)->x≠.slice (aA ⟨b,n,s⟩) 0 0)(h:aZ Al π c a):
  bN P Al F (oV Al) π (builtin b ts t cs c) (builtin b ts t cs a):=by
 cases b<;>first
  |exact d.elim
  |exact fX (WY e d t h)
  |exact fX (Dw e d t h)
  |exact fX (Rh ts t h)
  |exact fX (Jx ts t h)
  |exact fX (Rg ts t h)
  |exact fX (Rf ts t h)
  |exact fX (yH ts t h)
  |exact fX (tU d ts (f rfl) h)
def wG (M:Met P Al F){f}(j:Al f){d x}(h:aZ Al π d x)(m:d.size<=20):bN P Al F (oV Al) π (callFunc f d) (callFunc f x):=by
 refine dN (λB i=> ?_) ?_
 .obtain e|⟨a,b,k,z,y,w,v,_⟩:=i f
  .dsimp only;rw[e]
  .dsimp only;rw[k,z];dsimp only;rw[y,Option.isNone_eq_false_iff.2 w,Option.isNone_eq_false_iff.2 v];rfl
 rintro l p q ok i ⟨o,n⟩;rw[o,n];cases g:P.funcs[f]? with
 |none=>exact aU
 |some fn=>
  dsimp only;have r:=M.name f fn j g;have k:=zDr r;rw[k];simp only[zBe,zDe];cases hb:fn.body with
  |some c=>exact aT (.enter j (h.mono i) m)
  |none=>obtain⟨u,e,t,s⟩:=M.lW f fn j g hb;simp only[Option.isNone_none,zCs,u,t];refine .mark (aI ⟨f,rfl⟩) ?_;exact fX (s l d x ok (h.mono i))
def MY (x){v v'}(h:bG Al π v v')(wr):bN P Al F (VR Al) π (receiverAt x (.val v) aF wr) (receiverAt x (.val v') aF wr):=by
 refine aS _ (bB x) ?_;rintro d a b ok c ⟨rfl,_⟩;cases a with
 |pointer e=>exact aT (h.mono c)
 |_=>exact aU
def WR {name}(q:vH P Al name)(fuel)(t){v v'}(h:bG Al π v v'):
  bN P Al F (λπ a b=>b.1=a.1/\Al a.1/\bG Al π a.2 b.2) π (method fuel t v name) (method fuel t v' name):=by
 cases fuel with
 |zero=>exact aV
 |succ fuel=>
  refine aS _ (eG t) ?_;rintro j i _ ok n ⟨rfl,hi⟩;cases r:i.methods.find? (·.name==name)with
  |none=>exact aU
  |some m=>
   obtain⟨p,f,c,d⟩:=q t i m hi r;dsimp only;rw[p,c];have e:∀x,follow (#[]:Array FieldStep).toList t x=pure (t,x):=λx=>by rfl
   rw[e,e];show bN P Al F _ j (do pure (f,<-receiverAt t (.val v) aF (if(#[]:Array FieldStep).isEmpty=aF then aA ((name.splitOn ".").getLastD name)else aB))) (do pure (f,<-receiverAt t (.val v') aF (if(#[]:Array FieldStep).isEmpty=aF then aA ((name.splitOn ".").getLastD name)else aB)));refine aS _ (MY t (h.mono n) _) ?_;intro g x s o l k;exact aT ⟨rfl,d,k⟩
def DT (M:Met P Al F){name}(v:vH P Al name){x i}(m:bG Al π x i){a b}(h:aZ Al π a b)(B:a.size<=10):
  bN P Al F (oV Al) π (invoke (.fn (.method name) #[]) (#[x]++a)) (invoke (.fn (.method name) #[]) (#[i]++b)):=by
 have e:∀(x:zY)(a:zA),invoke (.fn (.method name) #[]) (#[x]++a)=callMethod x name a:=λx a=>by
  have d:(#[x]++a)[0]? =aA x:=by rw[zCr (by simp)];rfl
  have w:(#[x]++a).extract 1 (#[x]++a).size=a:=by rw[Array.extract_append];simp
  unfold invoke;rw[d,w]
 rw[e,e];cases m with
 |iface t n=>refine dN (λ_ _=>rfl) ?_;rintro y p q ok j ⟨u,s⟩;rw[u,s];refine aS _ (WR v _ t (n.mono j)) ?_;rintro l ⟨f,r⟩ ⟨C,z⟩ o g ⟨d,c,k⟩;dsimp only at d c k;subst d;exact wG M c ((aZ.one k).append ((h.mono j).mono g)) (by simp only[zEp,zAp,zAf,zAl];omega)
 |nilIface=>exact iJ
 |_=>exact aU
def AV (M:Met P Al F){d a}(h:II Al π d a):bN P Al F (oV Al) π (invoke d.target d.args) (invoke a.target a.args):=by
 cases h with
 |fn e f b c=>exact wG M e (b.append f) (by simpa only[zEp]using c)
 |nil b=>exact iJ
omit ok in
def CE {e f}(l:Array Operand)(h:∀x∈l,bG Al π (e x) (f x)):aZ Al π (l.map e) (l.map f):=by refine⟨by simp,λi v g d a=> ?_⟩;rw[zCg]at d a;obtain⟨x,c,rfl⟩:=zBp.1 d;obtain⟨y,b,rfl⟩:=zBp.1 a;rw[c]at b;cases b;exact h x (zBj c)
def QW {x d}(c:¬∃z,x=(.func (.method "") #[.iface 1000000 .nilIface] #[z]))(e:bG Al π x d){b a}(h:aZ Al π b a)(l:b.size<=10):bN P Al F (II Al) π (aEe x b) (aEe d a):=by
 cases e with
 |func f k j m i g=>exact aT (.fn f ⟨j,g⟩ ((aZ.mk k i).append h) (by simp only[zEp];omega))
 |nilFunc=>exact aT (.nil h)
 |junk v _=>exact absurd ⟨_,rfl⟩ c
 |same _ z=>exact absurd ⟨z,rfl⟩ c
 |_=>exact aU
def DX {x f}(i:bG Al π x f):bN P Al F (VR Al) π (Instr.panic x) (Instr.panic f):=by
 cases i with
 |iface t h=>exact mU (.iface t h)
 |nilIface=>
  refine aS ER ?_ ?_
  .unfold Instr.panicnil;refine .env λr=> ?_;refine aS ER (aT rfl) ?_;rintro d r _ ok g rfl;cases r<;>first|exact aU|skip
   refine dN (λ_ _=>rfl) ?_;rintro d p q ok g ⟨c,b⟩;rw[c,b];exact aT rfl
  .rintro d n _ ok g rfl;split
   .exact mU .nilIface
   .unfold aEc;refine dN (λ_ _=>rfl) ?_;rintro u p q ok l ⟨c,b⟩;rw[c,b];refine aS _ (uX _) ?_;rintro s e _ ok k ⟨rfl,_⟩;refine aS _ (uV (.agg rfl (by simp)) e) ?_;intro o a v ok j m;exact mU (.iface _ (.pointer (.some m)))
 |_=>exact aU
def MZ {x g}(l:∀i,P.info? 1000000=aA i->i.methods.find? (·.name== "")=aB)(r:bG Al π x g)(e m:Operand->zY)(o j)(y)(v:o.op= .nilCheck y)(f:j.op= .nilCheck y)(q:e y=x)(d:m y=g):bN P Al F (oV Al) π (aEd e o) (aEd m j):=by
 unfold aEd;rw[v,f];dsimp only;rw[q,d];cases r with
 |pointer u=>cases u with
  |none=>exact iJ
  |some h=>exact aT (.value (.pointer (.some h)))
 |nilIface=>exact iJ
 |nilFunc=>exact iJ
 |func w a E p D C=>exact aT (.value (.func w a E p D C))
 |bool b=>exact aT (.value (.bool b))
 |int k n=>exact aT (.value (.int k n))
 |string s=>exact aT (.value (.string s))
 |slice y n c=>exact aT (.value (.slice y n c))
 |void B a0=>exact aT (.value (.void B a0))
 |iface t i=>exact aT (.value (.iface t i))
 |iT=>exact aT (.value .iT)
 |gH=>exact aT (.value .gH)
 |agg a i=>exact aT (.value (.agg a i))
 |tuple a i=>exact aT (.value (.tuple a i))
 |junk G _=>exact .dead (AA (uO l _ _ qV))
 |same _ z=>exact .dead (AA (uO l _ _ qV))
omit ok in
def NL {e a}(x:Option Operand)(h:∀y∈x.toArray,bG Al π (e y) (a y)):kR Al π (x.map e) (x.map a):=by
 cases x with
 |none=>exact .none
 |some y=>exact .some (h y (by simp))
omit ok in
def KP {e a:Operand->zY}:∀(l:List (Nat×Operand)),(∀p∈l,bG Al π (e p.2) (a p.2))->uQ Al π (l.map λ(i,x)=>(i,e x)) (l.map λ(i,x)=>(i,a x))
 |[],_=>trivial
 |p::l,h=>⟨rfl,h p (by simp),KP l λq b=>h q (by simp[b])⟩
omit ok in
def KQ {e b:Operand->zY}(a:Array (Nat×Operand))(h:∀x∈(a.toList.map (·.2)).toArray,bG Al π (e x) (b x)):uQ Al π (a.map λ(i,x)=>(i,e x)).toList (a.map λ(i,x)=>(i,b x)).toList:=by rw[zFu,zFu];exact KP a.toList λp c=>h p.2 (by simp only[zAs,zBl];exact⟨p,c,rfl⟩)
def AX (M:Met P Al F){o:Oper}(N:OW P Al F o){e E:Operand->zY}(L:OX P F o e)(hs:Ze Al o e)(I:∀c,o.op≠.defer c)(O:∀x,AF P Al x->bG Al π (e x) (E x)):bN P Al F (oV Al) π (aEd e o) (aEd E o):=by
 obtain⟨D,k⟩:=N;have j:∀x∈o.op.operands,bG Al π (e x) (E x):=λx v=>O x (D x v);cases hk:o.op;case nilCheck x=>rw[hk]at j;exact MZ M.PN (j x (by simp[Op.operands])) e E o o x hk hk rfl rfl
 all_goals
  rw[hk]at k j
  unfold aEd
  rw[hk]
 case move x=>exact aT (.value (j _ (by simp[Op.operands])))
 case assign x=>exact aT (.value (j _ (by simp[Op.operands])))
 case pick c a b=>
  refine aS _ (EB (j c (by simp[Op.operands]))) ?_
  rintro B t _ ok hs rfl
  refine aT (.value ?_)
  cases t
  .exact(j b (by simp[Op.operands])).mono hs
  .exact(j a (by simp[Op.operands])).mono hs
 case alloc t=>exact fX (Ea M.Nc k)
 case box t x=>exact fX (Ri t (j x (by simp[Op.operands])))
 case build t G=>exact fX (Dx M.Nc k (KQ G j))
 case buildSlice t n G=>exact fX (EA M.Nc k n (KQ G j))
 case load t a=>
  refine fX ?_
  refine aS _ (kD (j a (by simp[Op.operands]))) ?_
  intro B x T ok hs v
  exact AU v t
 case store t a x=>
  refine bj ?_
  refine aS _ (kD (j a (by simp[Op.operands]))) ?_
  intro B y S ok hs w
  exact MX w ((j x (by simp[Op.operands])).mono hs) t
 case binOp op t x y u=>
  refine fX ?_
  refine aS _ (RD op t x y (j x (by simp[Op.operands])) (j y (by simp[Op.operands]))) ?_
  rintro B _ _ ok hs rfl
  exact Dy op t k.1 (L op t x y u hk) ((j x (by simp[Op.operands])).mono hs) ((j y (by simp[Op.operands])).mono hs)
 case unOp op t x=>exact fX (Dq op (j x (by simp[Op.operands])))
 case convert a b x=>exact fX (RE k (j x (by simp[Op.operands])))
 case makeInterface t x=>exact fX (wD t (j x (by simp[Op.operands])))
 case makeFunc fn first captured=>
  obtain⟨H,k⟩:=k
  cases fn with
  |func f=>
   have K:=CE first λx v=>j x (by simp[Op.operands,v])
   have J:=CE captured λx v=>j x (by simp[Op.operands,v]);exact aT (.value (.func k K.size J.size (by simpa only[aD9]using H) K.at' J.at'))
  |_=>exact k.elim
 case makeSlice t l c=>exact fX (IT M.Nc k (j l (by simp[Op.operands])) (j c (by simp[Op.operands])))
 case slice t x l h m=>
  exact fX (QT t (j x (by simp[Op.operands])) (NL l λy w=>j y (by simp only[Op.operands];simp only[zEc];exact aH (aH (aI w))))
   (NL h λy w=>j y (by simp only[Op.operands];simp only[zEc];exact aH (aI w))) (NL m λy w=>j y (by simp only[Op.operands];simp only[zEc];exact aI w)))
 case fieldAddr t x i=>exact fX (RA t (j x (by simp[Op.operands])) i)
 case field t x i=>exact fX (Dv t (j x (by simp[Op.operands])) i)
 case indexAddr t x i=>exact fX (QY t (j x (by simp[Op.operands])) (j i (by simp[Op.operands])))
 case index t x i=>exact fX (Du t (j x (by simp[Op.operands])) (j i (by simp[Op.operands])))
 case extract x i=>exact fX (RB (j x (by simp[Op.operands])) i)
 case panic x=>exact fX (DX (j x (by simp[Op.operands])))
 case call c=>
  have p:aZ Al π (c.args.map e) (c.args.map E):=CE c.args λx v=>j x (by simp only[Op.operands,Call.operands,zEc];exact aI v)
  obtain⟨H,k⟩:=k
  have C:(c.args.map e).size<=10:=by rw[aD9];exact H
  obtain⟨callee,args,U⟩:=c
  cases callee with
  |value f=>by_cases q:∃z,e f=(.func (.method "") #[.iface 1000000 .nilIface] #[z]);{obtain⟨z,q⟩:=q;refine .dead ?_;show mD P (do let d<-aEe (e f) (args.map e);invoke d.target d.args);rw[q];exact UM M.PN z _};refine aS _ (QW q (j f (by simp[Op.operands,Call.operands])) p C) ?_;intro B d V ok hs Q;exact AV M Q
  |builtin b=>exact RH M.Nc k _ (λR=>hs _ hk (by rw[R])) p
  |invoke r m=>exact DT M k (j r (by simp[Op.operands,Call.operands])) p C
 case defer c=>exact absurd hk (I c)
 case waits g=>
  refine fX (aS _ (eU (ok.gK g k)) ?_)
  rintro B s _ ok hs rfl
  exact aT (.bool _)
 all_goals exact k.elim
def DV (M:Met P Al F){d a}(h:II Al π d a):bN P Al F (HU Al) π (invoke d.target d.args) (invoke a.target a.args):=(AV M h).imp λ_ _ _ x=>x.to
def DZ (M:Met P Al F){o:Oper}(m:OW P Al F o){e b:Operand->zY}(r:OX P F o e)(hs:Ze Al o e)(j:∀x,AF P Al x->bG Al π (e x) (b x))(u:∀f,e (.func f)= .func (.func f) #[] #[]:=by exactλ_=>rfl)(k:∀f,b (.func f)= .func (.func f) #[] #[]:=by exactλ_=>rfl):bN P Al F (HU Al) π (aEd e o) (aEd b o):=by
 by_cases g:∃c,o.op= .defer c
 .obtain⟨c,n⟩:=g;obtain⟨h,d⟩:=m;rw[n]at h d;obtain⟨p,f,i,t⟩:=d;obtain⟨callee,args,v⟩:=c;dsimp only at i p;subst i;have a:=CE args λx q=>j x (h x (by simp[Op.operands,Call.operands,q]));have s:bG Al π (e (.func f)) (b (.func f)):=j _ (h _ (by simp[Op.operands,Call.operands]));unfold aEd;rw[n];show bN P Al F (HU Al) π (do pure (Next.defer (<-aEe (e (.func f)) (args.map e)))) (do pure (Next.defer (<-aEe (b (.func f)) (args.map b))));rw[u f,k f];have l:=h (.func f) (by simp[Op.operands,Call.operands]);exact aT (.defer ⟨.fn l .nil ((aZ.nil).append a) (by simp;omega),f,_,_,rfl,t⟩)
 exact(AX M m r hs (λc i=>g ⟨c,i⟩) j).imp λ_ _ _ x=>x.to
end
open Go.Conc (G)
def lE (P:zZ)(Al:zF)(F:Kp):Code->Prop
 | .region _ ops _=>∀o∈ops,OW P Al F o
 | .seq a b=>lE P Al F a/\lE P Al F b
 | .cond c a b=>AF P Al c/\lE P Al F a/\lE P Al F b
 | .block _ b| .loop b| .scope b=>lE P Al F b
 | .rangeFunc .. =>False
 |_=>True
def kM (P:zZ)(Al:zF)(F:Kp):Item->Prop
 | .code c| .inLoop c| .inScope c=>lE P Al F c
 | .inBlock _=>True
 |aN ops _=>∀o∈ops,OW P Al F o
 |_=>False
structure Cu (Al:zF)(π:Rn)(x x':PanicEntry):Prop where
 v:bG Al π x.v x'.v
 recovered:x'.recovered=x.recovered
 goexit:x'.goexit=x.goexit
inductive fZ {α:Type}(R:α->α->Prop):List α->List α->Prop
 |nil:fZ R [] []
 |cons {a a':α} {l l':List α} (h:R a a') (hl:fZ R l l'):fZ R (a::l) (a'::l')
inductive OZ (Al:zF)(π:Rn):FrameMode->FrameMode->Prop
 |run:OZ Al π .run .run
 |returning:OZ Al π .returning .returning
 |panicking {l l':List PanicEntry} (h:fZ (Cu Al π) l l'):OZ Al π (.panicking l) (.panicking l')
def fZ.imp {α:Type}{R S:α->α->Prop}(h:∀a b,R a b->S a b):∀{l c:List α},fZ R l c->fZ S l c
 |_,_,.nil=> .nil
 |_,_,.cons x y=> .cons (h _ _ x) (y.imp h)
def fZ.append {α:Type}{R:α->α->Prop}:∀{l b m a:List α},fZ R l b->fZ R m a->fZ R (l++m) (b++a)
 |_,_,_,_,.nil,k=>k
 |_,_,_,_,.cons x y,k=> .cons x (y.append k)
structure cJ (P:zZ)(Al:zF)(F:Kp)(π:Rn)(fr fr':zC):Prop where
 fn:fr'.fn=fr.fn
 al:Al fr.fn
 tmps:aZ Al π fr.tmps fr'.tmps
 todo:fr'.todo=fr.todo
 items:∀i∈fr.todo,kM P Al F i
 defers:fZ (IG Al π) fr.defers fr'.defers
 mode:OZ Al π fr.mode fr'.mode
 kind:fr'.kind=fr.kind
 kinds:fr.kind= .normal\/fr.kind= .deferred
 round:fr.roundOf=aB
 pD:fr'.roundOf=aB
def OZ.mono {Al π ρ}(h:∀b b',π b b'->ρ b b'){m c}(x:OZ Al π m c):OZ Al ρ m c:=by
 cases x with
 |run=>exact .run
 |returning=>exact .returning
 |panicking l=>exact .panicking (l.imp λa b y=>⟨y.v.mono h,y.recovered,y.goexit⟩)
def cJ.mono {P:zZ}{Al:zF}{F:Kp}{π ρ:Rn}(h:∀b b',π b b'->ρ b b'){fr fr':zC}(x:cJ P Al F π fr fr'):cJ P Al F ρ fr fr':=
 ⟨x.fn,x.al,x.tmps.mono h,x.todo,x.items,x.defers.imp λ_ _ y=>y.mono h,x.mode.mono h,x.kind,x.kinds,x.round,x.pD⟩
structure ua (P:zZ)(Al:zF)(F:Kp)(π:Rn)(cs cs':zL)(g g':zH)(fr fr':zC)(own own':zL):Prop where
 left:g=G fr (own++cs)
 right:g'=G fr' (own'++cs')
 frame:cJ P Al F π fr fr'
 own:fZ (cJ P Al F π) own own'
def GR (P:zZ)(Al:zF)(F:Kp)(π:Rn)(cs cs':zL)(g a:zH):Prop:=∃fr fr' own own',ua P Al F π cs cs' g a fr fr' own own'
structure cB (P:zZ)(Al:zF)(F:Kp):Prop where
 met:Met P Al F
 body:∀f fn c,Al f->P.funcs[f]? =aA fn->fn.body=aA c->lE P Al F c
def Stepped (P:zZ)(Al:zF)(F:Kp)(π:Rn)(cs cs':zL)(v w:zW)(s s':GStep):Prop:=
 (∃o u c,s= .ended o u c)\/(∃fr own a c,s= .go (G fr (own++cs)) a c/\Ul F a)\/
 ∃d f a c g w1 b,s= .go f a c/\s'= .go g w1 b/\GR P Al F d cs cs' f g/\bQ P Al F d a w1/\iQ F π d v a w w1/\∀e∈b,mC F d e
section
variable {P:zZ}{Al:zF}{F:Kp}{π:Rn}{cs cs' own own':zL}{v w:zW}{fr fr':zC}
def cJ.eval (h:cJ P Al F π fr fr')(ok:Ok P π)(x)(b:AF P Al x):bG Al π (fr.eval x) (fr'.eval x):=by
 cases x with
 |tmp t=>simp only[Frame.eval];obtain⟨d,e⟩|⟨a,j,d,e,i⟩:=h.tmps.get t;{simp only[zAu,d,e];exact dU};{simp only[zAu,d,e];exact i}
 |const c=>exact b π ok
 |global g=>exact .pointer (.some ⟨ok.gK g b,rfl,rfl⟩)
 |func f=>exact .func b rfl rfl (by simp) (by simp) (by simp)
def Stepped.same (h:bQ P Al F π v w){f f'}(b:cJ P Al F π f f')(a:fZ (cJ P Al F π) own own'):
  Stepped P Al F π cs cs' v w (.go (G f (own++cs)) v) (.go (G f' (own'++cs')) w):=by
 exact aI (aI ⟨π,_,v,_,_,w,#[],rfl,rfl,⟨f,f',own,own',rfl,rfl,b,a⟩,h,iQ.refl v w,by simp⟩)
def Stepped.ended {o u es s'}:Stepped P Al F π cs cs' v w (.ended o u es) s':=aH ⟨o,u,es,rfl⟩
def YY {id}:∀{k k'},exitTo id k=aA k'->∀i∈k',i∈k:=by
 intro k;induction k with
 |nil=>intro k' h;cases h
 |cons x k a=>
  intro k' h i hi;cases x with
  |inBlock b=>simp only[exitTo]at h;split at h;{cases h;exact zBc _ hi};{exact zBc _ (a h i hi)}
  |_=>simp only[exitTo]at h;exact zBc _ (a h i hi)
def NZ:∀{c l r},lE P Al F c->findLabel c l=aA r->lE P Al F r:=by
 intro c;induction c with
 |seq a b f i=>intro l r h d;simp only[findLabel]at d;split at d;{rename_i rest e;cases d;exact⟨f h.1 e,h.2⟩};{exact i h.2 d}
 |label g=>intro l r h d;simp only[findLabel]at d;split at d;{cases d;trivial};{cases d}
 |_=>intro l r h d;simp only[findLabel]at d;cases d
def Gm {l}:∀{k k'},(∀i∈k,kM P Al F i)->gotoIn l k=aA k'->∀i∈k',kM P Al F i:=by
 intro k;induction k with
 |nil=>intro k' h a;cases a
 |cons x k d=>
  intro k' h a i hi;have c:∀i∈k,kM P Al F i:=λi hi=>h i (zBc _ hi);cases x with
  |inScope body=>
   simp only[gotoIn]at a;split at a
   .rename_i rest b;cases a;have e:=h _ (zAy);obtain rfl|hi:=zAg.1 hi
    .exact NZ e b
    .obtain rfl|hi:=zAg.1 hi
     .exact e
     .exact c i hi
   .exact d c a i hi
  |_=>simp only[gotoIn]at a;exact d c a i hi
end
def XT:Nat->zY->Bool
 |0,_=>aG
 |n+1,v=>match v with
  | .bool _| .int _ _| .string _| .pointer aB| .slice aB _ _| .nilFunc| .nilIface| .map aB| .chan aB=>aF
  | .iface _ v=>XT n v
  | .agg cs| .tuple cs=>cs.toList.all (XT n)
  |_=>aG
def wV:∀(n:Nat)(v:zY),XT n v=aF->Flat v
 |0,_,h=>by simp[XT]at h
 |n+1,v,h=>by
  intro Al g;have d:∀cs:zA,cs.toList.all (XT n)=aF->∀(i:Nat)(v j:zY),cs[i]? =aA v->cs[i]? =aA j->bG Al g v j:=λcs q i v j o p=>by rw[o]at p;cases p;exact wV n v (zCb.1 q v (by rw[<-zBs]at o;exact zDf o)) Al g
  cases v with
  |bool b=>exact .bool b
  |int k n=>exact .int k n
  |string s=>exact .string s
  |pointer a=>
   cases a with
   |none=>exact .pointer .none
   |some a=>simp[XT]at h
  |slice a l c=>
   cases a with
   |none=>exact .slice .none l c
   |some a=>simp[XT]at h
  |nilFunc=>exact .nilFunc
  |nilIface=>exact .nilIface
  |map r=>
   cases r with
   |none=>exact .iT
   |some r=>simp[XT]at h
  |chan r=>
   cases r with
   |none=>exact .gH
   |some r=>simp[XT]at h
  |iface t v=>exact .iface t (wV n v (by simpa [XT]using h) Al g)
  |agg cs=>exact .agg rfl (d cs (by simpa only[XT]using h))
  |tuple cs=>exact .tuple rfl (d cs (by simpa only[XT]using h))
  |_=>simp[XT]at h
def TR (P:zZ):Nat->zD->Bool
 |0,_=>aG
 |f+1,t=>match P.underlying t with
  |some (.func _ _ _)|some (.interface _)=>aG
  |some (.struct a)=>a.toList.all λx=>TR P f x.type
  |some (.array _ e)=>TR P f e
  |_=>aF
def Sl {P}:∀f t,TR P f t=aF->∀d,GZ P d t:=by
 intro f;induction f with
 |zero=>intro t h;cases h
 |succ f i=>
  intro t g d;cases d with
  |zero=>trivial
  |succ d=>
   unfold GZ;unfold TR at g;cases hu:P.underlying t with
   |none=>trivial
   |some u=>
    rw[hu]at g;cases u with
    |func a b c=>cases g
    |interface ms=>cases g
    |struct k=>exactλx j=>i x.type (zCb.1 g x j) d
    |array n e=>exact i e g d
    |_=>trivial
def cz (op:BinOp):Bool:=match op with| .eql| .neq=>aG|_=>aF
structure Ck where
 al:zN->Bool
 uf:zD->Bool
 mt:String->Bool
 mark:Bool
section
variable(P:zZ)(C:Ck)
def XU:Operand->Bool
 | .tmp _=>aF
 | .const v=>XT 8 v
 | .global g=>decide (g<=P.globals.size)
 | .func f=>C.al f
def EZ (t:zD):Bool:=match P.underlying t with|some (.pointer e)=>C.uf e|_=>aF
def XV (s d:zD):Bool:=
 EZ P C s&&EZ P C d&&(match P.underlying d with|some (.slice _)=>C.mark||(match P.underlying s with|some (.slice _)=>aG|_=>aF)|some (.float _)|some (.complex _)=>aG|_=>aF)&&
  (match P.underlying s with|some (.slice e)=>(match P.underlying e with|some (.int .i32)=>aG|_=>aF)|_=>aF)&&(match P.underlying d with|some (.slice e)=>(match P.underlying e with|some (.int .i32)=>aG|_=>aF)|_=>aF)&&
  (match P.underlying s with|some (.slice _)=>(match P.underlying d with|some (.slice _)=>aG|_=>aF)|_=>aF)
def db (op:BinOp)(t:zD):Bool:=
 match op with
 | .eql| .neq=>(match P.underlying t with
  |some .bool|some (.int _)|some .string=>aF
  |some (.pointer e)=>(match P.info? e with|some i=>decide (i.size≠0)|none=>aG)
  |_=>aG)
 |_=>aF
def tH (b:Builtin)(ts:Array zD)(t:zD):Bool:=
 match b with
 | .append| .clear=>(match ts[0]? with|some u=>decide (u<P.types.size)|none=>aF)
 | .cap| .copy| .len| .min| .unsafeString=>aF
 | .unsafeSliceData=>EZ P C t
 |_=>aG
def Xk (o:Oper):Bool:=
 o.op.operands.toList.all (XU P C)&&
 match o.op with
 | .move _| .assign _| .pick .. | .box .. | .load .. | .store .. | .nilCheck _| .unOp .. | .makeInterface .. | .slice .. | .fieldAddr .. | .field .. | .indexAddr .. | .index .. | .extract .. | .panic _=>aF
 | .alloc t| .build t _| .buildSlice t _ _| .makeSlice t _ _=>decide (t<P.types.size)
 | .binOp op t _ _ _=>(cz op||TR P 9 t)&&(C.mark||db P op t)
 | .convert s d _=>XV P C s d
 | .makeFunc fn a b=>decide (a.size+b.size<=10)&&match fn with| .func f=>C.al f|_=>aG
 | .call c=>decide (c.args.size<=10)&&match c.callee with| .value _=>aF| .builtin b=>tH P C b c.argTypes o.type| .invoke _ m=>C.mt m
 | .defer c=>decide (c.args.size<=10)&&match c.callee with| .value (.func f)=>C.al (900000+f)|_=>aG
 | .waits g=>decide (g<=P.globals.size)
 |_=>aG
def nO:Code->Bool
 | .region _ ops _=>ops.toList.all (Xk P C)
 | .seq a b=>nO a&&nO b
 | .cond c a b=>XU P C c&&nO a&&nO b
 | .block _ b| .loop b| .scope b=>nO b
 | .rangeFunc .. =>aG
 |_=>aF
end
section
variable {P:zZ}{C:Ck}{F:Kp}(Iq:∀e,C.uf e=aF->jH P e)(kj:∀m,C.mt m=aF->vH P (λf=>C.al f=aF) m)(Xy:C.mark=aF->∀b,¬F b)(ae:C.mark=aG->¬F.cmp)
def KS {x}(h:XU P C x=aF):AF P (λf=>C.al f=aF) x:=by
 cases x with
 |tmp t=>trivial
 |const v=>exactλa _=>wV 8 v h _ a
 |global g=>exact(of_decide_eq_true h:g<=P.globals.size)
 |func f=>exact h
include Iq in
def yP {t:zD}(h:EZ P C t=aF)(e:zD)(a:P.underlying t=aA (.pointer e)):jH P e:=by unfold EZ at h;rw[a]at h;exact Iq e h
include Iq Xy ae in
def Ey {s d:zD}(h:XV P C s d=aF):Ad P F s d:=by
 unfold XV at h;simp only[zBh]at h;obtain⟨⟨⟨⟨⟨o,n⟩,c⟩,l⟩,j⟩,i⟩:=h;refine⟨λe a=>a.elim (yP Iq o e) (yP Iq n e),λ⟨e,a⟩=> ?_,λk a=> ?_,λk a=> ?_,λe p a g=> ?_,λe a hi=> ?_⟩
 .rw[a]at c;dsimp only at c;cases hm:C.mark with
  |true=>exact aH (Xy hm)
  |false=>rw[hm,zFx]at c;refine aI ⟨ae hm,λp g=> ?_⟩;rw[g]at c;cases c
 .rw[a]at c;cases c
 .rw[a]at c;cases c
 .rw[a]at i;dsimp only at i;rw[g]at i;cases i
 .obtain a|a:=a
  .rw[a]at l;dsimp only at l;rw[hi]at l;cases l
  .rw[a]at j;dsimp only at j;rw[hi]at j;cases j
include Iq in
def NM {b:Builtin}{ts:Array zD}{t:zD}(h:tH P C b ts t=aF):AH P b ts t:=by
 cases b with
 |append|clear=>intro u a;simp only[tH,a]at h;exact of_decide_eq_true h
 |cap|copy|len|min|unsafeString=>trivial
 |unsafeSliceData=>exact yP Iq h
 |_=>simp[tH]at h
include Iq kj Xy ae in
def Sg {o:Oper}(h:Xk P C o=aF):OW P (λf=>C.al f=aF) F o:=by
 unfold Xk at h;rw[zBh]at h;obtain⟨w,g⟩:=h;refine⟨λx q=>KS (zCb.1 w x (zDm.2 q)),?_⟩;cases p:o.op<;>rw[p]at g<;>dsimp only at g⊢<;>first|trivial|exact of_decide_eq_true g|exact Ey Iq Xy ae g|(cases g;done)|skip
 case binOp op t x y u=>
  rw[zBh]at g
  obtain⟨s,g⟩:=g
  refine⟨λv=>Sl 9 t ?_ _,?_⟩
  .obtain rfl|rfl:=v<;>simpa [cz]using s
  rw[zDs]at g;obtain g|g:=g;{exact aH (aI (Xy g))}
  .right;by_cases n:op≠.eql/\op≠.neq
   .exact aH n
   .right;have j:(match P.underlying t with|some .bool|some (.int _)|some .string=>aF|some (.pointer e)=>(match P.info? e with|some i=>decide (i.size≠0)|none=>aG)|_=>aG)=aF:=by
     cases op<;>first|exact g|exact absurd ⟨by simp,by simp⟩ n
    cases hu:P.underlying t with
    |none=>rw[hu]at j;cases j
    |some d=>
     rw[hu]at j;cases d with
     |bool=>exact aH (aH hu)
     |int k=>exact aH (aI (aH ⟨k,hu⟩))
     |string=>exact aH (aI (aI hu))
     |pointer e=>
      dsimp only at j;cases hi:P.info? e with
      |none=>rw[hi]at j;cases j
      |some i=>rw[hi]at j;exact aI ⟨e,i,rfl,hi,of_decide_eq_true j⟩
     |_=>cases j
 case makeFunc fn a b=>
  rw[zBh]at g
  refine⟨of_decide_eq_true g.1,?_⟩
  have n:=g.2
  cases fn<;>first|exact n|cases n
 case call c=>
  rw[zBh]at g
  refine⟨of_decide_eq_true g.1,?_⟩
  replace g:=g.2
  cases l:c.callee with
  |value f=>trivial
  |builtin b=>rw[l]at g;exact NM Iq g
  |invoke r m=>rw[l]at g;exact kj m g
 case defer c=>
  rw[zBh]at g
  refine⟨of_decide_eq_true g.1,?_⟩
  replace g:=g.2
  cases l:c.callee with
  |value x=>
   rw[l]at g;cases x with
   |func f=>exact⟨f,rfl,g⟩
   |_=>cases g
  |_=>rw[l]at g;cases g
include Iq kj Xy ae in
def Ez:∀{c:Code},nO P C c=aF->lE P (λf=>C.al f=aF) F c:=by
 intro c;induction c with
 |region id ops d=>exactλh o i=>Sg Iq kj Xy ae (zCb.1 h o (zDm.2 i))
 |seq a b g hb=>intro h;rw[nO,zBh]at h;exact⟨g h.1,hb h.2⟩
 |cond c a b g hb=>intro h;rw[nO,zBh,zBh]at h;exact⟨KS h.1.1,g h.1.2,hb h.2⟩
 |block id b hb=>exactλh=>hb h
 |loop b hb=>exactλh=>hb h
 |scope b hb=>exactλh=>hb h
 |rangeFunc=>intro h;simp[nO]at h
 |_=>intro _;trivial
end
end Go.Ren
