import Derived.Conc.Own4
import Derived.Conc.Own5
set_option linter.all false
set_option maxRecDepth 100000
set_option maxHeartbeats 16000000
open Option renaming some->aA,none->aB
open Bool renaming true->aE,false->aF
open Or renaming inl->aG,inr->aH
open Go.Item renaming inRegion->aM
open Go.Obj renaming cells->aI
open Go.IntKind renaming u64->aQ,u8->aP
open Array renaming size_extract->aEy,replicate->aEz,foldl_toList->aEA,toList_zipIdx->aEB,range->aEC,size_map->aED
open Except renaming ok->aEE,error->aEF
open Go renaming runtimePanic->aEG,execOp->aEH
open Go.Deferred renaming ofValue->aEI
open Nat renaming le_succ->aEJ,le_of_lt->aEK,min->aEL
namespace Go
abbrev zT:=Nat->Question->Nat
abbrev zS:=Frame->List Frame->World->Prop
abbrev zU:=Goroutine->World->Prop
abbrev zR:=Value->World->Prop
abbrev zX:=Exit->Act->World->Prop
abbrev zF:=FuncId->Prop
abbrev zP:=Nat->Prop
abbrev zLL:=List (List UInt8)
abbrev zII:=List (Int × Int)
abbrev zA:=Array Value
abbrev zB:=List UInt8
abbrev zO:=Option Addr
abbrev zL:=List Frame
abbrev zE:=Array Event
abbrev zG:=Array Goroutine
abbrev zV:=List Value
abbrev zQ:=Array Oper
abbrev zI:=List Item
abbrev zJ:=Array Obj
abbrev zW:=World
abbrev zY:=Value
abbrev zH:=Goroutine
abbrev zZ:=Program
abbrev zD:=TypeId
abbrev zN:=FuncId
abbrev zC:=Frame
abbrev zAa:=@Array.getElem?_eq_some_iff
abbrev zAb:=@Nat.le_refl
abbrev zAc:=@Nat.lt_of_lt_of_le
abbrev zAd:=@Array.getElem?_setIfInBounds_ne
abbrev zAe:=@List.mem_cons
abbrev zAf:=@List.getElem?_eq_getElem
abbrev zAg:=@List.mem_append
abbrev zAh:=@List.length_cons
abbrev zAi:=@List.length_append
abbrev zAj:=@Array.getElem?_eq_getElem
abbrev zAk:=@Option.some.inj
abbrev zAl:=@Array.getElem?_setIfInBounds_self_of_lt
abbrev zAm:=@List.mem_singleton
abbrev zAn:=@if_neg
abbrev zAo:=@List.not_mem_nil
abbrev zAp:=@List.mem_toArray
abbrev zAq:=@if_pos
abbrev zAr:=@List.size_toArray
abbrev zAs:=@List.filter_cons_of_neg
abbrev zAt:=@Array.getD_eq_getD_getElem?
abbrev zAu:=@List.getElem?_eq_some_iff
abbrev zAv:=@Classical.choose_spec
abbrev zAw:=@Nat.le_trans
abbrev zAx:=@Nat.zero_add
abbrev zAy:=@List.append_nil
abbrev zAz:=@Bool.false_eq_true
abbrev zBa:=@List.mem_filter
abbrev zBb:=@List.length_nil
abbrev zBc:=@Bool.and_eq_true
abbrev zBd:=@List.filter_cons_of_pos
abbrev zBe:=@Option.map_some
abbrev zBf:=@Array.mem_of_getElem?
abbrev zBg:=@Array.getElem?_push
abbrev zBh:=@List.mem_cons_of_mem
abbrev zBi:=@Array.getElem?_eq_none
abbrev zBj:=@List.length_take
abbrev zBk:=@List.mem_cons_self
abbrev zBl:=@decide_eq_true_eq
abbrev zBm:=@Option.map_eq_some_iff
abbrev zBn:=@Array.getElem?_setIfInBounds
abbrev zBo:=@List.getD_eq_getElem?_getD
abbrev zBp:=@Array.getElem?_toList
abbrev zBq:=@List.all_eq_true
abbrev zBr:=@Nat.zero_le
abbrev zBs:=@decide_eq_false
abbrev zBt:=@Array.size_push
abbrev zBu:=@List.mem_range
abbrev zBv:=@List.take_of_length_le
abbrev zBw:=@beq_eq_false_iff_ne
abbrev zBx:=@Array.getElem?_append_right
abbrev zBy:=@Array.ext_getElem?
abbrev zBz:=@Array.empty_append
abbrev zCa:=@or_false
abbrev zCb:=@Classical.byContradiction
abbrev zCc:=@Nat.add_assoc
abbrev zCd:=@Array.getElem?_map
abbrev zCe:=@List.cons_append
abbrev zCf:=@List.setIfInBounds_toArray
abbrev zCg:=@List.mem_map
abbrev zCh:=@List.length_drop
abbrev zCi:=@Array.size_setIfInBounds
abbrev zCj:=@Option.getD_some
abbrev zCk:=@Array.toList_inj
abbrev zCl:=@Option.bind_eq_some_iff
abbrev zCm:=@List.pairwise_cons
abbrev zCn:=@List.nil_append
abbrev zCo:=@beq_iff_eq
abbrev zCp:=@List.take_succ_eq_append_getElem
abbrev zCq:=@if_true
abbrev zCr:=@Option.bind_some
abbrev zCs:=@List.getElem?_take
abbrev zCt:=@Array.append_empty
abbrev zCu:=@List.getElem?_append_right
abbrev zCv:=@Array.getElem?_append_left
abbrev zCw:=@List.getElem?_cons_zero
abbrev zCx:=@List.getElem_mem
abbrev zCy:=@decide_eq_true
abbrev zCz:=@List.getElem?_append_left
abbrev zDa:=@List.append_assoc
abbrev zDb:=@List.mem_of_getElem?
abbrev zDc:=@if_false
abbrev zDd:=@List.set_cons_succ
abbrev zDe:=@List.length_replicate
abbrev zDf:=@Nat.lt_or_ge
abbrev zDg:=@List.set_cons_zero
abbrev zDh:=@List.filter_append
abbrev zDi:=@List.map_append
abbrev zDj:=@List.length_map
abbrev zDk:=@Bool.or_eq_true
abbrev zDl:=@List.eq_nil_of_length_eq_zero
abbrev zDm:=@Array.length_toList
abbrev zDn:=@List.pairwise_map
abbrev zDo:=@List.getElem?_map
abbrev zDp:=@List.append_cancel_right
abbrev zDq:=@Array.getElem?_modify
abbrev zDr:=@UInt8.toNat_ofNat'
abbrev zDs:=@ByteArray.ext
abbrev zDt:=@Array.mem_toList_iff
abbrev zDu:=@Array.toList_setIfInBounds
abbrev zDv:=@Nat.mul_one
abbrev zDw:=@List.map_cons
abbrev zDx:=@beq_false_of_ne
abbrev zDy:=@Std.Legacy.Range.forIn_eq_forIn_range'
abbrev zDz:=@Int.natCast_nonneg
abbrev zEa:=@Ne.symm
abbrev zEb:=@List.mem_of_mem_take
abbrev zEc:=@List.push_toArray
abbrev zEd:=@Array.size_append
abbrev zEe:=@List.length_set
abbrev zEf:=@List.filterMap_cons
abbrev zEg:=@Array.mem_append
abbrev zEh:=@List.map_map
abbrev zEi:=@List.getElem?_toArray
abbrev zEj:=@List.filter_filter
abbrev zEk:=@List.filterMap_append
abbrev zEl:=@ByteArray.data_append
abbrev zEm:=@Array.append_assoc
abbrev zEn:=@List.mem_of_mem_drop
abbrev zEo:=@Array.replicate_succ
abbrev zEp:=@Array.setIfInBounds_comm
abbrev zEq:=@Array.getElem?_replicate
abbrev zEr:=@decide_eq_false_iff_not
abbrev zEs:=@List.drop_zero
abbrev zEt:=@Nat.eq_zero_or_pos
abbrev zEu:=@List.getElem?_drop
abbrev zEv:=@Array.forIn_toList
abbrev zEw:=@UInt8.not_lt
abbrev zEx:=@List.foldl_cons
abbrev zEy:=@Nat.not_lt
abbrev zEz:=@Nat.lt_irrefl
abbrev zFa:=@Classical.not_forall
abbrev zFb:=@List.take_zero
abbrev zFc:=@Array.mapM_eq_mapM_toList
abbrev zFd:=@beq_self_eq_true
abbrev zFe:=@Nat.le_add_right
abbrev zFf:=@List.map_toArray
abbrev zFg:=@List.take_succ_cons
abbrev zFh:=@List.map_congr_left
abbrev zFi:=@List.filter_eq_self
abbrev zFj:=@List.drop_succ_cons
abbrev zFk:=@Nat.zero_mul
abbrev zFl:=@List.length_eq_zero_iff
abbrev zFm:=@List.filter_eq_nil_iff
abbrev zFn:=@List.take_append_drop
abbrev zFo:=@List.length_filter_le
abbrev zFp:=@List.take_append_of_le_length
abbrev zFq:=@Array.toList_map
abbrev zFr:=@List.cons.inj
abbrev zFs:=@Bool.false_or
abbrev zFt:=@Nat.mod_lt
abbrev zFu:=@Array.toList_append
abbrev zFv:=@getElem!_pos
abbrev zFw:=@Nat.add_comm
abbrev zFx:=@List.mem_filterMap
abbrev zFy:=@UInt8.le_antisymm
abbrev zFz:=@List.length_filterMap_le
abbrev zGa:=@Int.toNat_natCast
abbrev zGb:=@Go.Conc.stepG_region_end
abbrev zGc:=@Go.Conc.stepG_seq
abbrev zGg:=@Go.Conc.stepG_region
abbrev zGi:=@Go.Conc.stepG_skip
abbrev zGj:=@Go.IntKind.wrap_i64
abbrev zGp:=@Go.Conc.stepG_ret'
abbrev zGs:=@Go.bodyPost_ret
abbrev zGu:=@Go.Conc.stepG_block
abbrev zGw:=@Go.Conc.mem_listed
end Go
namespace Go.Ren
abbrev Rn:=Nat->zP
def bT (π:Rn)(a a':Addr):Prop:=π a.block a'.block/\a'.off=a.off/\a'.spot=a.spot
def bT.add {π a a'}(h:bT π a a')(n):bT π (a.add n) (a'.add n):=by
 obtain⟨c,b,d⟩:=h;unfold Addr.add;split
 .exact⟨c,b,d⟩
 .exact⟨c,by simp[b],rfl⟩
inductive vU (π:Rn):zO->zO->Prop
 |none:vU π aB aB
 |some {a a':Addr} (h:bT π a a'):vU π (aA a) (aA a')
def Jk:zY->Prop
 | .float _ _| .complex _ _ _| .pointer _| .slice (aA _) _ _| .map (aA _)| .chan (aA _)| .func _ _ _=>True
 |_=>False
def Jk.cells {x}(h:Jk x):x.cells= #[x]:=by cases x<;>first|rfl|exact h.elim
def enc (a:Addr):Nat:=(a.block+a.off)*(a.block+a.off)+a.block
def Ue {a b}(h:enc a=enc b):a.block=b.block/\a.off=b.off:=by
 unfold enc at h;have k:∀s t x y:Nat,x<=s->s*s+x=t*t+y->¬s<t:=λs t x y g e bW=>by have f:(s+1)*(s+1)<=t*t:=Nat.mul_le_mul bW bW;have d:(s+1)*(s+1)=s*s+s+s+1:=by{rw[Nat.add_mul,Nat.mul_add];omega};omega
 have f:=k _ _ _ _ (zFe a.block a.off) h;have d:=k _ _ _ _ (zFe b.block b.off) h.symm;have c:a.block+a.off=b.block+b.off:=by omega
 rw[c]at h;omega
inductive bF (Al:zF)(π:Rn):zY->zY->Prop
 |bool (b:Bool):bF Al π (.bool b) (.bool b)
 |int (k:IntKind) (n:Int):bF Al π (.int k n) (.int k n)
 |string (s:ByteArray):bF Al π (.string s) (.string s)
 |pointer {a a':zO} (h:vU π a a'):bF Al π (.pointer a) (.pointer a')
 |slice {a a':zO} (h:vU π a a') (n c:Nat):bF Al π (.slice a n c) (.slice a' n c)
 |func {f:zN} (hf:Al f) {fs su cs cs':zA} (h1:su.size=fs.size) (h2:cs'.size=cs.size) (hz:fs.size+cs.size<=10)
   (h3:∀(i:Nat)(v v':zY),fs[i]? =aA v->su[i]? =aA v'->bF Al π v v') (h4:∀(i:Nat)(v v':zY),cs[i]? =aA v->cs'[i]? =aA v'->bF Al π v v'):
   bF Al π (.func (.func f) fs cs) (.func (.func f) su cs')
 |nilFunc:bF Al π .nilFunc .nilFunc
 |iface (t:zD) {v v':zY} (h:bF Al π v v'):bF Al π (.iface t v) (.iface t v')
 |nilIface:bF Al π .nilIface .nilIface
 |jC:bF Al π (.map aB) (.map aB)
 |gL:bF Al π (.chan aB) (.chan aB)
 |agg {cs cs':zA} (h1:cs'.size=cs.size) (h2:∀(i:Nat)(v v':zY),cs[i]? =aA v->cs'[i]? =aA v'->bF Al π v v'):bF Al π (.agg cs) (.agg cs')
 |tuple {cs cs':zA} (h1:cs'.size=cs.size) (h2:∀(i:Nat)(v v':zY),cs[i]? =aA v->cs'[i]? =aA v'->bF Al π v v'):bF Al π (.tuple cs) (.tuple cs')
 |junk (hJ:Al 1000000) {x:zY} (h:Jk x):bF Al π (.func (.method "") #[.iface 1000000 .nilIface] #[x]) x
 |void {vb:Nat} (hV:Al (1000002+vb)) (a:Addr):bF Al π (.slice (aA ⟨vb,enc a,a.spot⟩) 0 0) (.slice (aA a) 0 0)
 |same (hS:Al 1000001) (x:zY):bF Al π (.func (.method "") #[.iface 1000000 .nilIface] #[x]) (.func (.method "") #[.iface 1000000 .nilIface] #[x])
structure aY (Al:zF)(π:Rn)(cs cs':zA):Prop where
 size:cs'.size=cs.size
 at':∀(i:Nat)(v v':zY),cs[i]? =aA v->cs'[i]? =aA v'->bF Al π v v'
variable {Al:zF}{π ρ:Rn}
def bT.mono (h:∀b b',π b b'->ρ b b'){a a'}(x:bT π a a'):bT ρ a a':=⟨h _ _ x.1,x.2⟩
def vU.mono (h:∀b b',π b b'->ρ b b'){a a'}(x:vU π a a'):vU ρ a a':=by
 cases x with
 |none=>exact .none
 |some y=>exact .some (y.mono h)
def bF.mono (h:∀b b',π b b'->ρ b b'){v v'}(x:bF Al π v v'):bF Al ρ v v':=by
 induction x with
 |bool b=>exact .bool b
 |int k n=>exact .int k n
 |string s=>exact .string s
 |pointer y=>exact .pointer (y.mono h)
 |slice y n c=>exact .slice (y.mono h) n c
 |func g d l f _ _ i3 i4=>exact .func g d l f i3 i4
 |nilFunc=>exact .nilFunc
 |iface t _ i=>exact .iface t i
 |nilIface=>exact .nilIface
 |jC=>exact .jC
 |gL=>exact .gL
 |agg d _ i=>exact .agg d i
 |tuple d _ i=>exact .tuple d i
 |junk e h=>exact .junk e h
 |same hb x=>exact .same hb x
 |void j a=>exact .void j a
def aY.mono (h:∀b b',π b b'->ρ b b'){v v'}(x:aY Al π v v'):aY Al ρ v v':=⟨x.size,λi a b d c=>(x.at' i a b d c).mono h⟩
def aY.get {cs cs'}(h:aY Al π cs cs')(i:Nat):(cs[i]? =aB/\cs'[i]? =aB)\/∃v b,cs[i]? =aA v/\cs'[i]? =aA b/\bF Al π v b:=by
 by_cases hi:i<cs.size
 .have a:i<cs'.size:=by{rw[h.size];exact hi};exact aH ⟨cs[i],cs'[i],by simp[hi],by simp[a],h.at' i _ _ (by simp[hi]) (by simp[a])⟩
 .exact aG ⟨by simp;omega,by simp[h.size];omega⟩
def aY.nil:aY Al π #[] #[]:=⟨rfl,λi v a h=>by simp at h⟩
def aY.of {cs cs':zA}(hs:cs'.size=cs.size)(h:∀(i:Nat)(hi:i<cs.size)(c:i<cs'.size),bF Al π cs[i] cs'[i]):aY Al π cs cs':=
 ⟨hs,λi v f b a=>by obtain⟨e,rfl⟩:=zAa.1 b;obtain⟨d,rfl⟩:=zAa.1 a;exact h i e d⟩
def aY.push {cs cs':zA}(h:aY Al π cs cs'){v v':zY}(f:bF Al π v v'):aY Al π (cs.push v) (cs'.push v'):=
 ⟨by simp[h.size],λi a b d c=>by
  rw[zBg]at d c;rw[h.size]at c;split at d;{rename_i e;simp only[e,zCq]at c;cases d;cases c;exact f}
  .rename_i e;simp only[e,zDc]at c;exact h.at' i a b d c⟩
def aY.append {cs cs' ds d:zA}(h:aY Al π cs cs')(k:aY Al π ds d):aY Al π (cs++ds) (cs'++d):=
 ⟨by simp[h.size,k.size],λi a b f c=>by
  rw[Array.getElem?_append]at f c;rw[h.size]at c;split at f;{rename_i e;simp only[e,zCq]at c;exact h.at' i a b f c}
  .rename_i e;simp only[e,zDc]at c;exact k.at' _ a b f c⟩
def aY.one {v v'}(h:bF Al π v v'):aY Al π #[v] #[v']:=by simpa using(aY.nil (Al:=Al) (π:=π)).push h
def aY.set {cs cs':zA}(h:aY Al π cs cs'){v v':zY}(g:bF Al π v v')(k:Nat):aY Al π (cs.setIfInBounds k v) (cs'.setIfInBounds k v'):=
 ⟨by simp[h.size],λi a b d c=>by
  rw[zBn]at d c;rw[h.size]at c;by_cases e:k=i
  .rw[zAq e]at d c;by_cases f:i<cs.size
   .simp only[e,f,zCq]at d c;cases d;cases c;exact g
   .simp[e,f]at d
  .rw[zAn e]at d c;exact h.at' i a b d c⟩
def aY.extract {cs cs':zA}(h:aY Al π cs cs')(i j:Nat):aY Al π (cs.extract i j) (cs'.extract i j):=
 ⟨by rw[aEy,aEy,h.size],λk a b d c=>by
  rw[Array.getElem?_extract]at d c;rw[h.size]at c;split at d;{rename_i e;simp only[e,zCq]at c;exact h.at' _ a b d c}
  .cases d⟩
def aY.replicate {v v':zY}(d:bF Al π v v')(n:Nat):aY Al π (aEz n v) (aEz n v'):=
 ⟨by simp,λi a b h c=>by
  rw[zEq]at h c;split at h;{rename_i e;simp only[e,zCq]at c;cases h;cases c;exact d}
  .cases h⟩
def bF.cells {v v'}(h:bF Al π v v'):aY Al π v.cells v'.cells:=by
 cases h with
 |agg d e=>exact⟨d,e⟩
 |bool b=>exact .one (.bool b)
 |int k n=>exact .one (.int k n)
 |string s=>exact .one (.string s)
 |pointer y=>exact .one (.pointer y)
 |slice y n c=>exact .one (.slice y n c)
 |func j d e g o m=>exact .one (.func j d e g o m)
 |nilFunc=>exact .one .nilFunc
 |iface t i=>exact .one (.iface t i)
 |nilIface=>exact .one .nilIface
 |jC=>exact .one .jC
 |gL=>exact .one .gL
 |tuple d i=>exact .one (.tuple d i)
 |junk f h=>rw[h.cells];exact .one (.junk f h)
 |same hb x=>exact .one (.same hb x)
 |void l a=>exact .one (.void l a)
end Go.Ren
namespace Go.Ren
structure Kp where
 keep:zP
 rX:Option Nat
 cmp:Prop
instance:CoeFun Kp λ_=>zP:=⟨Kp.keep⟩
def Kp.upto (K:Kp)(i:Nat):Prop:=∀u,K.rX=aA u->i<u
@[simp]def Fatal (hl:Halt):Prop:=(∃s,hl= .stuck s)\/∃u,hl= .unsupported u/\∀g,u≠.initOrder g
class Ok (P:zZ) (π:Rn):Prop where
 inj:∀{a a' b b':Nat},π a a'->π b b'->(a=b↔a'=b')
 base:∀{b b':Nat},π b b'->(b<=P.globals.size\/b'<=P.globals.size)->b=b'
 gW:∀b,b<=P.globals.size->π b b
def Ql (Al:zF)(F:Kp)(π:Rn)(b:Nat)(o a:Option Obj):Prop:=
 ∃c c' ty fr f,o=aA (aI c ty fr)/\a=aA (aI c' ty f)/\aY Al π c c'/\(F b->fr.1=0/\c.size<=fr.2/\(∀(i:Nat) m,c[i]?≠aA (.int aP m))/\f.2<=c.size)/\(¬F b->f=fr)/\((F.cmp/\∃x,F x)->fr.2<=c.size/\f.2<=c.size)
def jR (P:zZ)(u:zD):Prop:=∀d off x,plainCell P d u off=aA x->∀(Al:zF)(π:Rn),bF Al π x x
inductive Ow (P:zZ)(π:Rn):Obj->Obj->Prop
 |view {x x':Addr} (h:bT π x x') (u:zD) (hu:jR P u):Ow P π (.view x u) (.view x' u)
 |number {x x':Addr} (h:bT π x x') (l:Bool):Ow P π (.number x l) (.number x' l)
def Ze (P:zZ)(π:Rn)(o b:Option Obj):Prop:=∃y a,o=aA y/\b=aA a/\Ow P π y a
def Ow.mono {P π ρ}(h:∀b b',π b b'->ρ b b'){y c}(x:Ow P π y c):Ow P ρ y c:=by
 cases x with
 |view a u hu=>exact .view (a.mono h) u hu
 |number a l=>exact .number (a.mono h) l
def CX (o:Obj):Prop:=(∀c t f,o≠aI c t f)/\(∀x u,o≠.view x u)/\(∀x l,o≠.number x l)/\∀c t,o≠.pending c t
structure bQ (P:zZ)(Al:zF)(F:Kp)(π:Rn)(v w:zW):Prop where
 ok:Ok P π
 blk:∀b b',π b b'->Ql Al F π b v.heap[b]? w.heap[b']?\/(b<=P.globals.size/\∃o,v.heap[b]? =aA o/\w.heap[b']? =aA o/\CX o)\/Ze P π v.heap[b]? w.heap[b']?
 tape:∀k,F.upto (v.drawn+k)->w.tape (w.drawn+k)=v.tape (v.drawn+k)
 fresh:∀b,F b->b<v.heap.size
 low:P.globals.size<v.heap.size/\P.globals.size<w.heap.size
 os:w.os=v.os
 rows:∀b,F b->∃o,v.heap[b]? =aA o/\((∃c t fr,o=aI c t fr)\/CX o)
def Shape (P:zZ)(fs:Array Func):Prop:=∀f:Nat,fs[f]? =P.funcs[f]?\/∃a b,P.funcs[f]? =aA a/\fs[f]? =aA b/\b.name=a.name/\a.body.isSome=aE/\b.body.isSome=aE/\b.norace=a.norace
inductive bN (P:zZ)(Al:zF)(F:Kp){α β:Type}(A:Rn->α->β->Prop):Rn->Sem α->Sem β->Prop
 |pure {π:Rn} {a:α} {b:β} (h:A π a b):bN P Al F A π (.pure a) (.pure b)
 |load {π:Rn} {m:Mode} {a a':Addr} {k:zY->Sem α} {k':zY->Sem β} (h:bT π a a') (hk:∀v v',bF Al π v v'->bN P Al F A π (k v) (k' v')):bN P Al F A π (.load m a k) (.load m a' k')
 |store {π:Rn} {m:Mode} {a a':Addr} {x x':zY} {k:Sem α} {k':Sem β} (h:bT π a a') (hx:bF Al π x x') (hk:bN P Al F A π k k'):bN P Al F A π (.store m a x k) (.store m a' x' k')
 |new {π:Rn} {c c':zA} {ty:zD} {k:Nat->Sem α} {k':Nat->Sem β} (h:aY Al π c c') (hk:∀(ρ:Rn) r r',Ok P ρ->(∀b b',π b b'->ρ b b')->ρ r r'->bN P Al F A ρ (k r) (k' r')):bN P Al F A π (.new (aI c ty) k) (.new (aI c' ty) k')
 |view {π:Rn} {x x':Obj} {k:Nat->Sem α} {k':Nat->Sem β} (h:Ow P π x x') (hk:∀(ρ:Rn) r r',Ok P ρ->(∀b b',π b b'->ρ b b')->ρ r r'->bN P Al F A ρ (k r) (k' r')):bN P Al F A π (.new x k) (.new x' k')
 |marked {π:Rn} {c c':zA} {ty:zD} {k:Nat->Sem α} {k':Nat->Sem β} (hC:¬F.cmp) (h:aY Al π c c') (hk:∀(ρ:Rn) r r',Ok P ρ->(∀b b',π b b'->ρ b b')->ρ r r'->bN P Al F A ρ (k r) (k' r')):bN P Al F A π (.new (aI c ty) λr=>markStringish ⟨r,0,aB⟩>>=λ_=>k r) (.new (aI c' ty) λr=>markStringish ⟨r,0,aB⟩>>=λ_=>k' r)
 |getObj {π:Rn} {r r':Nat} {k:Obj->Sem α} {k':Obj->Sem β} (h:π r r') (hk:∀o o',(CX o/\o'=o)\/Ze P π (aA o) (aA o')->bN P Al F A π (k o) (k' o')):bN P Al F A π (.getObj r k) (.getObj r' k')
 |shape {π:Rn} {r r':Nat} {k:Option (zD×Nat)->Sem α} {k':Option (zD×Nat)->Sem β} (h:π r r') (hk:∀s,bN P Al F A π (k s) (k' s)):bN P Al F A π (.shape r k) (.shape r' k')
 |freeze {π:Rn} {a a':Addr} {n:Nat} {k:Sem α} {k':Sem β} (hF:∀b,¬F b) (h:bT π a a') (hk:bN P Al F A π k k'):bN P Al F A π (.freeze a n k) (.freeze a' n k')
 |frozen {π:Rn} {a a':Addr} {k:Bool->Sem α} {k':Bool->Sem β} (hF:∀b,¬F b) (h:bT π a a') (hk:∀t,bN P Al F A π (k t) (k' t)):bN P Al F A π (.frozen a k) (.frozen a' k')
 |share {π:Rn} {a a':Addr} {n:Nat} {k:ByteArray->Sem α} {k':ByteArray->Sem β} (h:bT π a a') (hk:∀s,bN P Al F A π (k s) (k' s)):bN P Al F A π (loadBytes a .empty n>>=λs=>freeze a n>>=λ_=>k s) (loadBytes a' .empty n>>=λs=>freeze a' n>>=λ_=>k' s)
 |same {π:Rn} {a a' b b':Addr} {k:Bool->Sem α} {k':Bool->Sem β} (hN:F.cmp/\∃x,F x) (h:bT π a a') (h':bT π b b') (hk:∀t,bN P Al F A π (k t) (k' t)):bN P Al F A π (sameAddr a b>>=k) (sameAddr a' b'>>=k')
 |choose {π:Rn} {q:Question} {k:Nat->Sem α} {k':Nat->Sem β} (hk:∀n,bN P Al F A π (k n) (k' n)):bN P Al F A π (.choose q k) (.choose q k')
 |program {π:Rn} {k:zZ->Sem α} {k':zZ->Sem β} (he:∀fs,Shape P fs->k' ⟨P.toTables,fs⟩=k' P) (hk:bN P Al F A π (k P) (k' P)):bN P Al F A π (.program k) (.program k')
 |env {π:Rn} {k:SysRet->Sem α} {k':SysRet->Sem β} (hk:∀r,bN P Al F A π (k r) (k' r)):bN P Al F A π (.sys .env k) (.sys .env k')
 |mark {π:Rn} {m:Mark} {k:Sem α} {k':Sem β} (hm:m= .noRoom\/∃f,m= .extern f) (hk:bN P Al F A π k k'):bN P Al F A π (.mark m k) (.mark m k')
 |panic {π:Rn} {x x':zY} (h:bF Al π x x'):bN P Al F A π (.halt (.panic x)) (.halt (.panic x'))
 |dead {π:Rn} {s:Sem α} {s':Sem β} (h:∀v es,∃hl w gk,s.runT P v es=(.halt hl w,gk)/\Fatal hl):bN P Al F A π s s'
structure iY (F:Kp)(π ρ:Rn)(v v' w w':zW):Prop where
 sub:∀b b',π b b'->ρ b b'
 QS:v.heap.size<=v'.heap.size
 size:w.heap.size<=w'.heap.size
 still:∀b',b'<w.heap.size->(∀b,π b b'->F b)->w'.heap[b']? =w.heap[b']?
 rR:∀b b',ρ b b'->π b b'\/(v.heap.size<=b/\w.heap.size<=b'/\b'<w'.heap.size)
 tape:w'.tape=w.tape
 os:w'.os=w.os
 out:w'.output=w.output
 Bp:v'.tape=v.tape
 jh:v'.os=v.os
 Rl:v'.output=v.output
 drawn:∃k,v'.drawn=v.drawn+k/\w'.drawn=w.drawn+k
 same:v.heap.size=w.heap.size->(∀b b',π b b'->b=b')->v'.heap.size=w'.heap.size/\∀b b',ρ b b'->b=b'
 EC:∀b,b<v.heap.size->(∀b',¬π b b')->v'.heap[b]? =v.heap[b]?
 full:∀b,v.heap.size<=b->b<v'.heap.size->∃b',ρ b b'
def mS (F:Kp)(ρ:Rn)(e:Event):Prop:=
 (∃a c wr s,e=⟨.cell c,wr,s⟩/\bT ρ a c/\(wr=aE->¬F a.block))\/(e.loc= .mark .noRoom\/e.loc= .output)\/(∃f,e.loc= .mark (.extern f))\/∃r b s,e=⟨.obj b,aF,s⟩/\ρ r b
def mS.mono {F π ρ}(h:∀b b',π b b'->ρ b b'){e}(x:mS F π e):mS F ρ e:=by
 obtain⟨a,i,wr,s,d,c,g⟩|x|x|⟨r,f,s,d,c⟩:=x
 .exact aG ⟨a,i,wr,s,d,c.mono h,g⟩
 .exact aH (aG x)
 .exact aH (aH (aG x))
 .exact aH (aH (aH ⟨r,f,s,d,h _ _ c⟩))
def iY.refl {F:Kp}{π:Rn}(v w:zW):iY F π π v v w w:=
 ⟨λ_ _ h=>h,zAb _,zAb _,λ_ _ _=>rfl,λ_ _ h=>aG h,rfl,rfl,rfl,rfl,rfl,rfl,⟨0,rfl,rfl⟩,λh k=>⟨h,k⟩,λ_ _ _=>rfl,λb c a=>by omega⟩
def iY.trans {F:Kp}{π ρ m:Rn}{v d f w w₁ e:zW}(h:iY F π ρ v d w w₁)(k:iY F ρ m d f w₁ e):iY F π m v f w e where
 sub b c x:=k.sub _ _ (h.sub _ _ x)
 QS:=zAw h.QS k.QS
 size:=zAw h.size k.size
 still c i o:=by rw[k.still c (zAc i h.size) (λb g=> ?_),h.still c i o];obtain x|⟨_,x,_⟩:=h.rR b c g;{exact o b x};{omega}
 rR b c x:=by
  obtain y|⟨j,r,q⟩:=k.rR b c x
  .obtain z|⟨p,z2,z3⟩:=h.rR b c y
   .exact aG z
   .exact aH ⟨p,z2,zAc z3 k.size⟩
  .exact aH ⟨zAw h.QS j,zAw h.size r,q⟩
 tape:=k.tape.trans h.tape
 os:=k.os.trans h.os
 out:=k.out.trans h.out
 Bp:=k.Bp.trans h.Bp
 jh:=k.jh.trans h.jh
 Rl:=k.Rl.trans h.Rl
 drawn:=by obtain⟨a,C,a2⟩:=h.drawn;obtain⟨b,B,A⟩:=k.drawn;exact⟨a+b,by omega,by omega⟩
 same x y:=let⟨s,j⟩:=h.same x y;k.same s j
 EC b i n:=by rw[k.EC b (zAc i h.QS) (λc g=> ?_),h.EC b i n];obtain x|⟨x,_⟩:=h.rR b c g;{exact n c x};{omega}
 full b u t:=by obtain l|l:=zDf b d.heap.size;{obtain⟨c,i⟩:=h.full b u l;exact⟨c,k.sub _ _ i⟩};{exact k.full b l t}
section
variable {P:zZ}{Al:zF}{F:Kp}{π:Rn}{v w:zW}
def MN {x a}(h:bF Al π x a):x.bytes? =aB\/a.bytes? =x.bytes? :=by cases h<;>first|exact aG rfl|exact aH rfl
def sS {x b}(h:bF Al π x b)(bs):(x.ofBytes bs=aB\/b.ofBytes bs=x.ofBytes bs)/\∀y,x.ofBytes bs=aA y->bF Al π y y:=by
 cases h<;>refine⟨by first|exact aG rfl|exact aH rfl,λy a=> ?_⟩<;>simp only[Value.ofBytes]at a<;>first|(cases a;done)|skip
 .split at a<;>first|(cases a;exact .bool _)|cases a
 .split at a<;>first|(cases a;exact .int _ _)|cases a
def JM {p c c'}(h:aY Al π c c')(e):∀(f x stop),(∃a,seenCells p c e f x stop= .error a)\/seenCells p c' e f x stop=seenCells p c e f x stop:=by
 intro f;induction f with
 |zero=>intro x stop;exact aH rfl
 |succ f l=>
  intro x stop;simp only[seenCells];split;{exact aH rfl}
  .split
   .exact aH rfl
   .split
    .exact aH rfl
    .rename_i i s _;obtain⟨j,g⟩|⟨y,o,j,g,m⟩:=h.get i
     .rw[j,g];exact aH rfl
     .rw[j,g];dsimp only;obtain d|d:=MN m
      .rw[d];exact aG ⟨_,rfl⟩
      .rw[d];cases y.bytes? with
       |none=>exact aH rfl
       |some n=>
        cases n with
        |nil=>exact aH rfl
        |cons q k=>dsimp only;obtain⟨a,b⟩|b:=l (s+(q::k).length) stop;{rw[b];exact aG ⟨a,rfl⟩};{rw[b];exact aH rfl}
def Fx {x f k k'}(n:bT π x f)(p:bT π k k')(u)(m){c c' e fr fr'}
  (A:v.heap[x.block]? =aA (aI c e fr)) (z:w.heap[f.block]? =aA (aI c' e fr')) (y:aY Al π c c'):
  (∃a,v.seen P x u k m= .error a)\/∃first l cells,v.seen P x u k m= .ok (c,e,fr,first,l,cells)/\w.seen P f u k' m= .ok (c',e,fr',first,l,cells)/\plainCell P P.depth u k.off=aA l:=by
 unfold World.seen;simp only[n.2.1,n.2.2,p.2.1,p.2.2,A,z];by_cases o:(k.spot.isSome||x.spot.isSome)=aE
 .left;rw[zAq o];exact⟨_,rfl⟩
 simp only[zAn o];cases B:plainCell P P.depth u k.off with
 |none=>left;exact⟨_,rfl⟩
 |some l=>
  have h:aA l=aA l:=rfl;dsimp only;cases hb:l.bytes?.map (·.length)with
  |none=>left;exact⟨_,rfl⟩
  |some size=>
   cases r:byteOfCell P P.depth u k.off with
   |none=>left;exact⟨_,rfl⟩
   |some β=>
    dsimp only;by_cases q:P.cellsOf e=0;{left;rw[zAq q];exact⟨_,rfl⟩};simp only[zAn q];cases s:byteOfCell P P.depth e (x.off%P.cellsOf e)with
    |none=>left;exact⟨_,rfl⟩
    |some b=>
     dsimp only;obtain⟨a,g⟩|g:=JM y e (size+1) (x.off/P.cellsOf e*P.bytesOf e+b+β) (x.off/P.cellsOf e*P.bytesOf e+b+β+size);{left;rw[g];exact⟨_,rfl⟩};rw[g];cases C:seenCells P c e (size+1) (x.off/P.cellsOf e*P.bytesOf e+b+β) (x.off/P.cellsOf e*P.bytesOf e+b+β+size)with
     |error a=>left;exact⟨_,rfl⟩
     |ok cells=>
      cases m with
      |false=>right;exact⟨_,l,cells,rfl,rfl,h⟩
      |true=>
       match cells with
       |[]=>left;exact⟨_,rfl⟩
       |[(i,t,d)]=>
        by_cases j:(decide (t≠x.off/P.cellsOf e*P.bytesOf e+b+β)||decide (d.length≠size))=aE;{left;refine⟨ "memory seen as another type: an atomic access to a part of a cell",?_⟩;show(if(decide (t≠x.off/P.cellsOf e*P.bytesOf e+b+β)||decide (d.length≠size))=aE then _ else _)=_;rw[zAq j];rfl}
        .right;refine⟨x.off/P.cellsOf e*P.bytesOf e+b+β,l,[(i,t,d)],?_,?_,h⟩
         .show(if(decide (t≠x.off/P.cellsOf e*P.bytesOf e+b+β)||decide (d.length≠size))=aE then _ else _)=_;rw[zAn j];rfl
         .show(if(decide (t≠x.off/P.cellsOf e*P.bytesOf e+b+β)||decide (d.length≠size))=aE then _ else _)=_;rw[zAn j];rfl
       |_::_::_=>left;exact⟨_,rfl⟩
def KX {x k}(u)(m)(h:∀c t f,v.heap[x.block]?≠aA (aI c t f)):∃a,v.seen P x u k m= .error a:=by
 unfold World.seen;by_cases b:(k.spot.isSome||x.spot.isSome)=aE
 .rw[zAq b];exact⟨_,rfl⟩
 rw[zAn b];cases g:plainCell P P.depth u k.off with
 |none=>exact⟨_,rfl⟩
 |some l=>
  dsimp only;cases hb:l.bytes?.map (·.length)with
  |none=>exact⟨_,rfl⟩
  |some size=>
   cases d:byteOfCell P P.depth u k.off with
   |none=>exact⟨_,rfl⟩
   |some β=>
    cases e:v.heap[x.block]? with
    |none=>exact⟨_,rfl⟩
    |some o=>cases o with
     |cells c t f=>exact absurd e (h c t f)
     |_=>exact⟨_,rfl⟩
def SI (h:bQ P Al F π v w){x g k k'}(n:bT π x g)(s:bT π k k')(u)(m):
  (∃j,v.seen P x u k m= .error j)\/∃c c' e fr a first l cells,v.seen P x u k m= .ok (c,e,fr,first,l,cells)/\w.seen P g u k' m= .ok (c',e,a,first,l,cells)/\
   v.heap[x.block]? =aA (aI c e fr)/\w.heap[g.block]? =aA (aI c' e a)/\aY Al π c c'/\plainCell P P.depth u k.off=aA l/\(F x.block->fr.1=0/\c.size<=fr.2/\(∀(i:Nat) m,c[i]?≠aA (.int aP m))/\a.2<=c.size)/\(¬F x.block->a=fr)/\((F.cmp/\∃x,F x)->fr.2<=c.size/\a.2<=c.size):=by
 obtain⟨c,c',e,fr,a,d,p,b,B,A⟩|⟨_,o,r,_,q⟩|⟨z,G,d,_,b⟩:=h.blk _ _ n.1
 .obtain y|⟨first,l,cells,E,D,C⟩:=Fx n s u m d p b
  .exact aG y
  .exact aH ⟨c,c',e,fr,a,first,l,cells,E,D,d,p,b,C,B,A⟩
 .left;refine KX u m λc t f e=> ?_;rw[r]at e;cases e;exact q.1 _ _ _ rfl
 .left;refine KX u m λc t f e=> ?_;rw[d]at e;cases e;cases b
def bQ.cell (h:bQ P Al F π v w){a a'}(i:bT π a a'):
  (∃x l,v.cell? a=aA x/\w.cell? a'=aA l/\bF Al π x l)\/(v.cell? a=aB/\w.cell? a'=aB):=by
 obtain⟨c,c',ty,fr,r,k,e,j,_⟩|⟨_,e,j,q,p⟩|⟨z,A,k,e,j⟩:=h.blk _ _ i.1
 .cases g:a.spot with
  |some s=>have d:a'.spot=aA s:=by{rw[i.2.2,g]};exact aH ⟨by simp[World.cell?,k,g],by simp[World.cell?,e,d]⟩
  |none=>have d:a'.spot=aB:=by{rw[i.2.2,g]};obtain⟨n,m⟩|⟨x,l,n,m,y⟩:=j.get a.off;{exact aH ⟨by simp[World.cell?,k,g,n],by simp[World.cell?,e,d,i.2.1,m]⟩};{refine aG ⟨x,l,by simp[World.cell?,k,g,n],?_,y⟩;simp only[World.cell?,e,d,i.2.1,m];rfl}
 .have no:∀(u:zW)(b:Addr),u.heap[b.block]? =aA e->u.cell? b=aB:=λu b o=>by
   unfold World.cell?;rw[o];cases e with
   |cells c t f=>exact absurd rfl (p.1 c t f)
   |_=>rfl
  exact aH ⟨no v a j,no w a' q⟩
 .cases j<;>exact aH ⟨by simp[World.cell?,k],by simp[World.cell?,e]⟩
def tT (first:Nat)(l:zY)(cells:List (Nat×Nat×zB)):zB:=
 cells.flatMap λ(_,s,b)=>(b.drop (first-s)).take (first+(l.bytes?.map (·.length)).getD 0-max first s)
def BJ {z k:Addr}{t:zD}{m:Bool}{c:zA}{e:zD}{fr:Nat×Nat}{first:Nat}{l:zY}{cells:List (Nat×Nat×zB)}
  (h:w.seen P z t k m= .ok (c,e,fr,first,l,cells)):
  w.viewLoad P z t k m=match l.ofBytes (tT first l cells)with|some x=>aEE (x,cells.map λi=>(⟨z.block,i.1,aB⟩:Addr))|none=>aEF "memory seen as another type: a bool from a byte other than 0 or 1":=by
 unfold World.viewLoad;rw[h];show(match l.ofBytes (tT first l cells)with|some v=>_|_=>_)=_;cases l.ofBytes (tT first l cells)<;>rfl
def bQ.sw (h:bQ P Al F π v w){a a'}(r:bT π a a')(m):
  (∃hl,v.farLoad P a m= .error hl/\Fatal hl)\/
  ∃(x:zY)(b B:Nat)(l:List Nat),v.farLoad P a m= .ok (x,l.map λi=>⟨b,i,aB⟩)/\w.farLoad P a' m= .ok (x,l.map λi=>⟨B,i,aB⟩)/\π b B/\bF Al π x x:=by
 have no:∀o,v.heap[a.block]? =o->(∀x u,o≠aA (.view x u))->(∀c t,o≠aA (.pending c t))->∃hl,v.farLoad P a m= .error hl/\Fatal hl:=by
  intro o n E D;unfold World.farLoad;rw[n];cases o with
  |none=>exact⟨_,rfl,by simp[World.noCell,n]⟩
  |some o=>
   cases o with
   |view x u=>exact absurd rfl (E x u)
   |pending c t=>exact absurd rfl (D c t)
   |_=>exact⟨_,rfl,by simp[World.noCell,n]⟩
 obtain⟨c,c',ty,fr,p,g,A,f,_⟩|⟨_,o,f,_,s⟩|⟨q,j,g,A,f⟩:=h.blk _ _ r.1
 .exact aG (no _ g (by simp) (by simp))
 .exact aG (no _ f (λx u e=>s.2.1 x u (zAk e)) (λc t e=>s.2.2.2 c t (zAk e)))
 .cases f with
  |number _ _=>exact aG (no _ g (by simp) (by simp))
  | @view z C f t hu=>
  unfold World.farLoad;simp only[g,A];obtain⟨k,e⟩|⟨c,c',e,fr,p,first,d,cells,I,H,L,K,J,G,_⟩:=SI h f r t m;{left;have:v.viewLoad P z t a m= .error k:=by{unfold World.viewLoad;rw[e];rfl};rw[this];exact⟨_,rfl,by simp⟩}
  .rw[BJ I,BJ H];cases hb:d.ofBytes (tT first d cells)with
   |none=>left;exact⟨_,rfl,by simp⟩
   |some y=>right;exact⟨y,z.block,C.block,cells.map (·.1),by simp only[zEh];rfl,by simp only[zEh];rfl,f.1,(sS (hu _ _ _ G Al π) _).2 y hb⟩
def bP {h:zJ}{b i}(f:Obj->Obj)(a:b≠i):(h.modify b f)[i]? =h[i]? :=by rw[zDq];simp[a]
def bX {h:zJ}{b}(f:Obj->Obj):(h.modify b f)[b]? =(h[b]?).map f:=by rw[zDq];simp
def bQ.CO (h:bQ P Al F π v w){b b'}(u:π b b'){f f'}
  (r:∀o,(∃c t fr c' fr',o=aI c t fr/\f o=aI c' t fr'/\c'.size=c.size)\/f o=o)
  (j:∀o,(∃c t fr c' fr',o=aI c t fr/\f' o=aI c' t fr'/\c'.size=c.size)\/f' o=o)
  (G:∀o C,Ql Al F π b (aA o) (aA C)->Ql Al F π b (aA (f o)) (aA (f' C))):
  bQ P Al F π {v with heap:=v.heap.modify b f} {w with heap:=w.heap.modify b' f'}:=by
 have i:∀(g:Obj->Obj) y,(∀c t f,y≠aI c t f)->(∀o,(∃c t fr c' fr',o=aI c t fr/\g o=aI c' t fr'/\c'.size=c.size)\/g o=o)->g y=y:=λg y E p=>by obtain⟨c,t,fr,c',fr',e,_⟩|e:=p y;{exact absurd e (E c t fr)};{exact e}
 refine⟨h.ok,λx D a=> ?_,h.tape,λx a=>by simpa using h.fresh x a,by simpa using h.low,h.os,λx a=> ?_⟩;rotate_left
 .obtain⟨o,s,k⟩:=h.rows x a;by_cases e:b=x
  .subst e;obtain⟨c1,t1,L,c2,K,O,M,N⟩|e:=r o
   .exact⟨_,by rw[bX,s,zBe,M],aG ⟨_,_,_,rfl⟩⟩
   .exact⟨o,by rw[bX,s,zBe,e],k⟩
  .exact⟨o,by rw[bP f e];exact s,k⟩
 by_cases e:b=x
 .have l:=(h.ok.inj u a).1 e;subst e;subst l;obtain y|⟨n,o,m,d,B⟩|⟨z,A,n,m,d⟩:=h.blk _ _ u
  .left;obtain⟨c,c',ty,fr,fr',J,I,H⟩:=y;have:=G (aI c ty fr) (aI c' ty fr') ⟨c,c',ty,fr,fr',rfl,rfl,H⟩;simp only[bX,J,I,zBe];exact this
  .right;left;have k:∀(g:Obj->Obj),(∀o,(∃c t fr c' fr',o=aI c t fr/\g o=aI c' t fr'/\c'.size=c.size)\/g o=o)->g o=o:=λg p=>by
    obtain⟨c,t,fr,c',fr',e,_⟩|e:=p o;{exact absurd e (B.1 c t fr)};{exact e}
   exact⟨n,o,by rw[bX,m,zBe,k f r],by rw[bX,d,zBe,k f' j],B⟩
  .right;right;refine⟨z,A,?_,?_,d⟩
   .rw[bX,n,zBe,i f z (by cases d<;>simp) r]
   .rw[bX,m,zBe,i f' A (by cases d<;>simp) j]
 .have l:b'≠D:=λq=>e ((h.ok.inj u a).2 q);obtain y|y|y:=h.blk _ _ a
  .left;simp only[bP f e,bP f' l];exact y
  .right;left;simp only[bP f e,bP f' l];exact y
  .right;right;simp only[bP f e,bP f' l];exact y
def bQ.setCell (h:bQ P Al F π v w){a a'}(b:bT π a a')(hF:¬F a.block){x e}(j:bF Al π x e):bQ P Al F π (v.setCell a x) (w.setCell a' e):=by
 refine h.CO b.1 (λo=> ?_) (λo=> ?_) (λo p l=> ?_)
 .cases o<;>first|exact aH rfl|skip
  rename_i c t fr;exact aG ⟨c,t,fr,_,fr,rfl,rfl,by split<;>simp⟩
 .cases o<;>first|exact aH rfl|skip
  rename_i c t fr;exact aG ⟨c,t,fr,_,fr,rfl,rfl,by split<;>simp⟩
 .obtain⟨c,c',ty,fr,f,n,m,i,q,g⟩:=l;cases n;cases m;refine⟨_,_,ty,fr,f,rfl,rfl,?_,λd=>absurd d hF,g.1,λk=> ?_⟩
  .rw[b.2.2,b.2.1];split
   .exact i
   .exact i.set j _
  .have:=g.2 k;split
   .exact this
   .simpa using this
def bQ.frozen (h:bQ P Al F π v w){a a'}(i:bT π a a')(hF:¬F a.block):w.frozen? a'=v.frozen? a:=by
 obtain⟨c,c',ty,fr,m,g,d,e,j,l⟩|⟨_,o,d,e,j⟩|⟨_,_,g,d,e⟩:=h.blk _ _ i.1
 .have:=l.1 hF;subst this;simp only[World.frozen?,g,d,i.2.1]
 .have no:∀(u:zW)(b:Addr),u.heap[b.block]? =aA o->u.frozen? b=aF:=λu b k=>by
   unfold World.frozen?;rw[k];cases o with
   |cells c t f=>exact absurd rfl (j.1 c t f)
   |_=>rfl
  rw[no v _ d,no w _ e]
 .cases e<;>simp only[World.frozen?,g,d]
def bQ.Db (h:bQ P Al F π v w){a a'}(j:bT π a a')(hF:F a.block){x}(b:v.cell? a=aA x):v.frozen? a=aE:=by
 obtain⟨c,c',ty,fr,k,d,i,g,e,n⟩|⟨_,o,i,g,e⟩|⟨_,_,d,i,g⟩:=h.blk _ _ j.1
 .obtain⟨lo,hi⟩:=fr;obtain⟨m,l,_⟩:=e hF;simp only[World.cell?,d]at b;split at b
  .cases b
  .obtain⟨bW,_⟩:=zAa.1 b;simp only[World.frozen?,d,zBc,zBl];simp only at m l;omega
 .unfold World.cell? at b;rw[i]at b;cases o with
  |cells c t f=>exact absurd rfl (e.1 c t f)
  |_=>cases b
 .cases g<;>(simp only[World.cell?,d]at b;cases b)
def bQ.freeze (h:bQ P Al F π v w)(hF:∀b,¬F b){a a'}(d:bT π a a')(n):bQ P Al F π (v.freeze a n) (w.freeze a' n):=by
 unfold World.freeze;split
 .exact h
 .refine h.CO d.1 (λo=> ?_) (λo=> ?_) (λo m f=> ?_)
  .cases o<;>first|exact aH rfl|skip
   rename_i c t fr;exact aG ⟨c,t,fr,_,_,rfl,rfl,rfl⟩
  .cases o<;>first|exact aH rfl|skip
   rename_i c t fr;exact aG ⟨c,t,fr,_,_,rfl,rfl,rfl⟩
  .obtain⟨c,c',ty,fr,l,k,j,i,p,g⟩:=f;cases k;cases j;have:=g.1 (hF _);subst this;refine⟨_,_,ty,_,_,rfl,rfl,i,λx=>absurd x (hF _),λ_=> ?_,λ⟨_,x,e⟩=>absurd e (hF x)⟩;rw[d.2.1]
def bQ.UW (h:bQ P Al F π v w){a a'}(A:bT π a a'){n}(M:∀c t fr,v.heap[a.block]? =aA (aI c t fr)->a.off+n<=c.size)(hF:n≠0->¬F a.block):bQ P Al F π (v.freeze a n) (w.freeze a' n):=by
 unfold World.freeze;split
 .exact h
 .rename_i J;replace hF:=hF J;have hcut:∀(g:Nat×Nat)(m:Nat),g.2<=m->a.off+n<=m->(if g.1==g.2 then(a.off,a.off+n)else(min g.1 a.off,max g.2 (a.off+n))).2<=m:=by
   intro g m S O;split;{exact O};{skip;omega}
  obtain⟨k,p,d,l,B,E,R,Q,g4,g5⟩|z|z:=h.blk _ _ A.1
  .have s:=M k d l E;refine⟨h.ok,λx H j=> ?_,h.tape,λx j=>by simpa using h.fresh x j,by simpa using h.low,h.os,λx j=> ?_⟩;rotate_left
   .obtain⟨o,L,z⟩:=h.rows x j;have:a.block≠x:=λq=>hF (q▸j);exact⟨o,by rw[bP _ this];exact L,z⟩
   by_cases e:a.block=x;{have C:=(h.ok.inj A.1 j).1 e;subst e;subst C;left;have:=g5.1 hF;subst this;refine⟨k,p,d,_,_,by rw[bX,E];rfl,by rw[bX,R];rfl,Q,λq=>absurd q hF,λ_=>by rw[A.2.1],λN=> ?_⟩;have:=g5.2 N;rw[A.2.1];exact⟨hcut _ _ this.1 s,hcut _ _ this.2 s⟩};{have C:a'.block≠H:=λq=>e ((h.ok.inj A.1 j).2 q);have:=h.blk _ _ j;simpa only[bP _ e,bP _ C]using this}
  all_goals
   have same:∀(u:zW)(b:Addr)(o:Obj)(f:Obj->Obj),u.heap[b.block]? =aA o->f o=o->u.heap.modify b.block f=u.heap:=λu b o f I D=>by apply zBy;intro i;rw[zDq];by_cases hi:b.block=i;{subst hi;simp[I,D]};{simp[hi]}
  .obtain⟨_,o,k1,k2,r⟩:=z;have D:∀(g:Obj->Obj),(∀o,CX o->g o=o)->g o=o:=λg K=>K o r;rw[same v a o _ k1 (by cases o<;>first|rfl|exact absurd rfl (r.1 _ _ _)),same w a' o _ k2 (by cases o<;>first|rfl|exact absurd rfl (r.1 _ _ _))];exact h
  .obtain⟨y,G,k1,k2,r⟩:=z;rw[same v a y _ k1 (by cases r<;>rfl),same w a' G _ k2 (by cases r<;>rfl)];exact h
def more (π:Rn)(r r':Nat):Rn:=λb a=>π b a\/(b=r/\a=r')
def bQ.lt (h:bQ P Al F π v w){b b'}(e:π b b'):b<v.heap.size/\b'<w.heap.size:=by
 obtain⟨c,c',ty,fr,f,a,d,_⟩|⟨a,_⟩|⟨_,_,a,d,_⟩:=h.blk _ _ e
 .exact⟨(zAa.1 a).1,(zAa.1 d).1⟩
 .have:=h.ok.base e (aG a);have:=h.low;omega
 .exact⟨(zAa.1 a).1,(zAa.1 d).1⟩
def bQ.YL (h:bQ P Al F π v w)(o g)
  (s:Ql Al F (more π v.heap.size w.heap.size) v.heap.size (aA o) (aA g)\/Ze P (more π v.heap.size w.heap.size) (aA o) (aA g)):
  bQ P Al F (more π v.heap.size w.heap.size) {v with heap:=v.heap.push o} {w with heap:=w.heap.push g}:=by
 have c:∀b f,π b f->more π v.heap.size w.heap.size b f:=λ_ _ x=>aG x;refine⟨⟨?_,?_,λb e=>aG (h.ok.gW b e)⟩,?_,h.tape,λb e=>by have:=h.fresh b e;simp;omega,by have:=h.low;simp;omega,h.os,λb e=>let⟨i,A,u⟩:=h.rows b e;⟨i,by rw[zBg,zAn (by have:=h.fresh b e;omega)];exact A,u⟩⟩
 .rintro a H b f (x|⟨rfl,rfl⟩) (y|⟨rfl,rfl⟩)
  .exact h.ok.inj x y
  .have:=h.lt x;omega
  .have:=h.lt y;omega
  .simp
 .rintro b f (x|⟨rfl,rfl⟩) e
  .exact h.ok.base x e
  .have:=h.low;omega
 .rintro b f (x|⟨rfl,rfl⟩)
  .have hl:=h.lt x;have k:(v.heap.push o)[b]? =v.heap[b]? :=by{rw[zBg,zAn (by omega)]};have j:(w.heap.push g)[f]? =w.heap[f]? :=by{rw[zBg,zAn (by omega)]};obtain⟨d,G,t,fr,p,E,D,C,B⟩|⟨n,o,m,l,r⟩|⟨z,q,n,m,l⟩:=h.blk _ _ x;{left;exact⟨d,G,t,fr,p,by rw[k];exact E,by rw[j];exact D,C.mono c,B⟩};{right;left;exact⟨n,o,by rw[k];exact m,by rw[j];exact l,r⟩};{right;right;exact⟨z,q,by rw[k];exact n,by rw[j];exact m,l.mono c⟩}
  .have k:(v.heap.push o)[v.heap.size]? =aA o:=by{simp};have j:(w.heap.push g)[w.heap.size]? =aA g:=by{simp};simp only[k,j];obtain y|y:=s;{exact aG y};{exact aH (aH y)}
def bQ.push (h:bQ P Al F π v w){c c':zA}(a:aY Al π c c')(ty:zD):
  bQ P Al F (more π v.heap.size w.heap.size) {v with heap:=v.heap.push (aI c ty)} {w with heap:=w.heap.push (aI c' ty)}:=
 h.YL _ _ (aG ⟨c,c',ty,(0,0),(0,0),rfl,rfl,a.mono (λ_ _ x=>aG x),λhF=>absurd (h.fresh _ hF) (by omega),λ_=>rfl,λ_=>⟨zBr _,zBr _⟩⟩)
def bQ.qQ (h:bQ P Al F π v w)(b:¬F.cmp){c c':zA}(a:aY Al π c c')(ty:zD):
  bQ P Al F (more π v.heap.size w.heap.size) {v with heap:=v.heap.push (aI c ty (c.size,c.size+1))} {w with heap:=w.heap.push (aI c' ty (c'.size,c'.size+1))}:=
 h.YL _ _ (aG ⟨c,c',ty,(c.size,c.size+1),(c'.size,c'.size+1),rfl,rfl,a.mono (λ_ _ x=>aG x),λhF=>absurd (h.fresh _ hF) (by omega),λ_=>by rw[a.size],λx=>absurd x.1 b⟩)
def nZ {α}(Q)(c)(ty)(k:Nat->Sem α)(u)(es):
  (Sem.new (aI c ty) λr=>markStringish ⟨r,0,aB⟩>>=λ_=>k r).runT Q u es=(k u.heap.size).runT Q {u with heap:=u.heap.push (aI c ty (c.size,c.size+1))} es:=by
 have b:(u.heap.push (aI c ty))[u.heap.size]? =aA (aI c ty):=by simp
 have a:({u with heap:=u.heap.push (aI c ty)}:zW).shape? u.heap.size=aA (ty,c.size):=by simp only[World.shape?,b]
 have e:(({u with heap:=u.heap.push (aI c ty)}:zW).freeze ⟨u.heap.size,c.size,aB⟩ 1)={u with heap:=u.heap.push (aI c ty (c.size,c.size+1))}:=by unfold World.freeze;simp only[Nat.one_ne_zero,zDc];congr 1;apply zBy;intro i;by_cases hi:u.heap.size=i;{subst hi;rw[bX];simp};{rw[bP _ hi,zBg,zBg,zAn (zEa hi),zAn (zEa hi)]}
 simp only[Sem.runT];show(Sem.shape u.heap.size _).runT Q _ es=_;simp only[Sem.runT,a];show(Sem.freeze ⟨u.heap.size,c.size,aB⟩ 1 _).runT Q _ es=_;simp only[Sem.runT,e];rfl
def bQ.xF (h:bQ P Al F π v w){x a:Obj}(b:Ow P π x a):
  bQ P Al F (more π v.heap.size w.heap.size) {v with heap:=v.heap.push x} {w with heap:=w.heap.push a}:=
 h.YL _ _ (aH ⟨x,a,rfl,rfl,b.mono (λ_ _ x=>aG x)⟩)
def bQ.shape (h:bQ P Al F π v w){b b'}(f:π b b'):w.shape? b'=v.shape? b:=by
 obtain⟨c,c',ty,fr,g,e,d,a,_⟩|⟨_,o,d,a,_⟩|⟨_,_,e,d,a⟩:=h.blk _ _ f
 .simp only[World.shape?,e,d,a.size]
 .simp only[World.shape?,d,a]
 .cases a<;>simp only[World.shape?,e,d]
def kQ (first n:Nat)(bytes:zB)(fr:Nat×Nat)(c:zA)(x:Nat×Nat×zB):Except String (zA):=
 if(decide (x.2.1<first)||decide (x.2.1+x.2.2.length>first+n))=aE then .error "memory seen as another type: a part of a cell written"
 else if(decide (fr.1<=x.1)&&decide (x.1<fr.2))=aE then .error "a write to bytes that a string shares"
 else match c[x.1]? with
  |none=> .error "memory seen as another type: no such cell"
  |some old=>match old.ofBytes ((bytes.drop (x.2.1-first)).take x.2.2.length)with
   |none=> .error "memory seen as another type: a bool from a byte other than 0 or 1"
   |some new=> .ok (c.setIfInBounds x.1 new)
def qJ {z k:Addr}{t:zD}{m:Bool}{c:zA}{e:zD}{fr:Nat×Nat}{first:Nat}{l y:zY}{cells:List (Nat×Nat×zB)}
  (h:w.seen P z t k m= .ok (c,e,fr,first,l,cells)):
  w.viewStore P z t k y m=if(!tight P P.depth t)=aE then aEF "memory seen as another type: a store through a type with padding" else match y.bytes? with
   |none=>aEF "memory seen as another type: a value that is no plain data"
   |some bytes=>if aA bytes.length≠l.bytes?.map (·.length)then aEF "memory seen as another type: a value of another size" else
    match cells.foldlM (kQ first bytes.length bytes fr) c with
    | .error a=> .error a
    | .ok c1=>aEE ({w with heap:=w.heap.setIfInBounds z.block (aI c1 e fr)},cells.map λi=>(⟨z.block,i.1,aB⟩:Addr)):=by
 unfold World.viewStore;by_cases b:(!tight P P.depth t)=aE
 .rw[zAq b,zAq b];rfl
 .rw[zAn b,zAn b,h];show(match y.bytes? with|some bytes=>_|_=>_)=_;cases n:y.bytes? with
  |none=>rfl
  |some bytes=>
   dsimp only;by_cases d:aA bytes.length≠l.bytes?.map (·.length);{rw[zAq d,zAq d];rfl}
   .rw[zAn d,zAn d];have f:∀(g:zA->Nat×Nat×zB->Except String (zA)),g=kQ first bytes.length bytes fr->
      (Bind.bind (List.foldlM g c cells) λc1=>(Pure.pure ({w with heap:=w.heap.setIfInBounds z.block (aI c1 e fr)},cells.map λi=>(⟨z.block,i.1,aB⟩:Addr)):Except String (zW×List Addr)))=
       match cells.foldlM (kQ first bytes.length bytes fr) c with
       | .error a=> .error a
       | .ok c1=>aEE ({w with heap:=w.heap.setIfInBounds z.block (aI c1 e fr)},cells.map λi=>(⟨z.block,i.1,aB⟩:Addr)):=by
     rintro g rfl
     cases cells.foldlM (kQ first bytes.length bytes fr) c<;>rfl
    refine f _ ?_;funext c x;obtain⟨i,s,j⟩:=x;unfold kQ;dsimp only;split;{rfl}
    .split
     .rfl
     .cases c[i]? with
      |none=>rfl
      |some old=>dsimp only;cases old.ofBytes ((bytes.drop (s-first)).take j.length)<;>rfl
def Ob {first n bytes fr}:∀(cells:List (Nat×Nat×zB)){c c'},aY Al π c c'->
  (∃b,cells.foldlM (kQ first n bytes fr) c= .error b)\/∃c1 a,cells.foldlM (kQ first n bytes fr) c= .ok c1/\cells.foldlM (kQ first n bytes fr) c'= .ok a/\aY Al π c1 a/\c1.size=c.size:=by
 intro cells;induction cells with
 |nil=>intro c c' h;exact aH ⟨c,c',rfl,rfl,h,rfl⟩
 |cons x cells j=>
  intro c c' h;simp only[List.foldlM_cons];unfold kQ;split;{left;exact⟨_,rfl⟩}
  .split
   .left;exact⟨_,rfl⟩
   .obtain⟨f,i⟩|⟨y,k,f,i,g⟩:=h.get x.1
    .rw[f];left;exact⟨_,rfl⟩
    .rw[f,i];dsimp only;obtain d|d:=(sS g ((bytes.drop (x.2.1-first)).take x.2.2.length)).1
     .rw[d];left;exact⟨_,rfl⟩
     rw[d];cases hb:y.ofBytes ((bytes.drop (x.2.1-first)).take x.2.2.length)with
     |none=>left;exact⟨_,rfl⟩
     |some new=>obtain⟨b,e⟩|⟨c1,a,f1,f2,f3,f4⟩:=j (h.set ((sS g _).2 new hb) x.1);{left;exact⟨b,e⟩};{right;exact⟨c1,a,f1,f2,f3,by rw[f4];simp⟩}
def UX {first n bytes fr}(cells){c}(b:fr.1=0)(d:c.size<=fr.2):
  (∃a,cells.foldlM (kQ first n bytes fr) c= .error a)\/cells=[]:=by
 cases cells with
 |nil=>exact aH rfl
 |cons x cells=>
  left;simp only[List.foldlM_cons];unfold kQ;split;{exact⟨_,rfl⟩}
  .split
   .exact⟨_,rfl⟩
   .rename_i h;have:c[x.1]? =aB:=by
     rw[Array.getElem?_eq_none_iff];simp only[b,zBc,zBl]at h;omega
    rw[this];exact⟨_,rfl⟩
def dL {h:zJ}{b o}(e:h[b]? =aA o):h.setIfInBounds b o=h:=by
 apply zBy;intro i;rw[zBn];by_cases hi:b=i
 .subst hi;have:=(zAa.1 e).1;rw[zAq rfl,zAq this,e]
 .simp[hi]
def AA (c1:zA)(e:zD)(fr:Nat×Nat):Obj->Obj
 |aI d t g=>if d.size=c1.size/\t=e then aI c1 e fr else aI d t g
 |o=>o
def LA (c1)(e)(fr:Nat×Nat)(o):(∃c t f c' a,o=aI c t f/\AA c1 e fr o=aI c' t a/\c'.size=c.size)\/AA c1 e fr o=o:=by
 cases o with
 |cells d t g=>unfold AA;dsimp only;by_cases h:d.size=c1.size/\t=e;{left;exact⟨d,t,g,c1,fr,rfl,by rw[zAq h,h.2],h.1.symm⟩};{right;rw[zAn h]}
 |_=>exact aH rfl
def FB {h:zJ}{b c t fr}(c1)(hs:c1.size=c.size)(e:h[b]? =aA (aI c t fr)):
  h.setIfInBounds b (aI c1 t fr)=h.modify b (AA c1 t fr):=by
 apply zBy;intro i;rw[zBn,zDq];have:=(zAa.1 e).1;by_cases hi:b=i
 .subst hi;rw[zAq rfl,zAq this,zAq rfl,e];simp[AA,hs]
 .simp[hi]
def bQ.farStore (h:bQ P Al F π v w){a a'}(S:bT π a a'){y Q}(hy:bF Al π y Q)(m):
  (∃hl,v.farStore P a y m= .error hl/\Fatal hl)\/
  ∃(K w1:zW)(b I:Nat)(l:List Nat),v.farStore P a y m= .ok (K,l.map λi=>⟨b,i,aB⟩)/\w.farStore P a' Q m= .ok (w1,l.map λi=>⟨I,i,aB⟩)/\π b I/\
   bQ P Al F π K w1/\iY F π π v K w w1/\(F b->l=[]):=by
 have no:∀o,v.heap[a.block]? =o->(∀x u,o≠aA (.view x u))->(∀c t,o≠aA (.pending c t))->∃hl,v.farStore P a y m= .error hl/\Fatal hl:=by
  intro o N hn hp;unfold World.farStore;rw[N];cases o with
  |none=>exact⟨_,rfl,by simp[World.noCell,N]⟩
  |some o=>
   cases o with
   |view x u=>exact absurd rfl (hn x u)
   |pending c t=>exact absurd rfl (hp c t)
   |_=>exact⟨_,rfl,by simp[World.noCell,N]⟩
 obtain⟨c,c',ty,fr,j,G,H,n,_⟩|⟨_,o,n,_,T⟩|⟨O,J,G,H,n⟩:=h.blk _ _ S.1
 .exact aG (no _ G (by simp) (by simp))
 .exact aG (no _ n (λx u e=>T.2.1 x u (zAk e)) (λc t e=>T.2.2.2 c t (zAk e)))
 .cases n with
  |number _ _=>exact aG (no _ G (by simp) (by simp))
  | @view z B n t hu=>
  unfold World.farStore;simp only[G,H];obtain⟨k,e⟩|⟨c,c',e,fr,j,first,C,cells,e1,e2,Y,X,W,e6,V,U⟩:=SI h n S t m
  .left;have:∃k,v.viewStore P z t a y m= .error k:=by
    unfold World.viewStore;by_cases r:(!tight P P.depth t)=aE;{rw[zAq r];exact⟨_,rfl⟩};{rw[zAn r,e];exact⟨_,rfl⟩}
   obtain⟨k,hw⟩:=this;rw[hw];exact⟨_,rfl,by simp⟩
  .rw[qJ e1,qJ e2];obtain s|s:=MN hy
   .rw[s];by_cases r:(!tight P P.depth t)=aE
    .rw[zAq r];left;exact⟨_,rfl,by simp⟩
    .rw[zAn r];left;exact⟨_,rfl,by simp⟩
   rw[s];by_cases r:(!tight P P.depth t)=aE;{rw[zAq r];left;exact⟨_,rfl,by simp⟩};simp only[zAn r];cases hb:y.bytes? with
   |none=>left;exact⟨_,rfl,by simp⟩
   |some bytes=>
    dsimp only;by_cases R:aA bytes.length≠C.bytes?.map (·.length);{rw[zAq R];left;exact⟨_,rfl,by simp⟩};simp only[zAn R];by_cases hF:F z.block
    .obtain⟨k,f⟩|f:=UX cells (V hF).1 (V hF).2.1
     .rw[f];left;exact⟨_,rfl,by simp⟩
     .subst f;right;refine⟨v,w,z.block,B.block,[],?_,?_,n.1,h,iY.refl v w,λ_=>rfl⟩
      .simp only[List.foldlM_nil];show aEE (({v with heap:=v.heap.setIfInBounds z.block (aI c e fr)}:zW),_)=_;rw[dL Y];rfl
      .simp only[List.foldlM_nil];show aEE (({w with heap:=w.heap.setIfInBounds B.block (aI c' e j)}:zW),_)=_;rw[dL X];rfl
    .have:=U.1 hF;subst this;obtain⟨k,f⟩|⟨c1,p,f1,f2,f3,f4⟩:=Ob cells W
     .rw[f];left;exact⟨_,rfl,by simp⟩
     .rw[f1,f2];right;have D:=f4;have M:p.size=c'.size:=by{rw[f3.size,f4,W.size]};refine⟨_,_,z.block,B.block,cells.map (·.1),by simp only[zEh];rfl,by simp only[zEh];rfl,n.1,?_,?_,λx=>absurd x hF⟩
      .have:=h.CO n.1 (LA c1 e j) (LA p e j) ?_
       .rw[<-FB c1 D Y,<-FB p M X]at this;exact this
       .rintro o o' ⟨d,d',ty,g,g',q1,q2,L,q4,Z⟩;cases q1;cases q2;unfold AA;dsimp only;by_cases E:d.size=c1.size/\ty=e
        .rw[zAq E,zAq ⟨by rw[L.size,E.1,f3.size],E.2⟩];exact⟨c1,p,e,j,j,rfl,rfl,f3,λx=>absurd x hF,λ_=>rfl,λhN=>by have:=U.2 hN;rw[D];exact this⟩
        .rw[zAn E,zAn (λx=>E ⟨by rw[<-L.size,x.1,f3.size],x.2⟩)];exact⟨d,d',ty,g,g',rfl,rfl,L,q4,Z⟩
      .refine⟨λ_ _ x=>x,by simp,by simp,λI _ A=> ?_,λ_ _ x=>aG x,rfl,rfl,rfl,rfl,rfl,rfl,⟨0,rfl,rfl⟩,λx y=>⟨by simpa using x,y⟩,λb _ A=> ?_,λb G H=>by simp at H;omega⟩
       .have:B.block≠I:=λq=>hF (A z.block (q▸n.1));simp only[zAd this]
       .have:z.block≠b:=λq=>A B.block (q▸n.1);simp only[zAd this]
end
section
variable {P:zZ}{Al:zF}{F:Kp}{α β:Type}{A:Rn->α->β->Prop}
def Sr {α:Type}:Result α×zE->zW
 |(.ok _ w,_)=>w
 |(.halt _ w,_)=>w
def Uo (F:Kp)(u:zW):Prop:=∃n,F.rX=aA n/\n<u.drawn
def Form {α β:Type}(A:Rn->α->β->Prop)(r:Result α×zE):Prop:=
 (∃(a:α)(b:β)(d:Rn)(c:zW)(e:zE),r=(.ok a c,e)/\A d a b)\/∃(x:zY)(c:zW)(e:zE),r=(.halt (.panic x) c,e)
def pU (P:zZ)(Al:zF)(F:Kp)(A:Rn->α->β->Prop)(π:Rn)(v w:zW)(g:zE)(r:Result α×zE)(r':Result β×zE):Prop:=
 ((∃hl j c,r=(.halt hl j,c)/\Fatal hl)\/(Uo F (Sr r)/\Form A r))\/
 ∃(f:Rn)(h w1:zW)(c:zE)(d:zE),bQ P Al F f h w1/\iY F π f v h w w1/\(∀e∈d,mS F f e)/\
  ((∃a b,r=(.ok a h,c)/\r'=(.ok b w1,g++d)/\A f a b)\/(∃x i,r=(.halt (.panic x) h,c)/\r'=(.halt (.panic i) w1,g++d)/\bF Al f x i))
def pU.step {π ρ v v1 w w1 a d r r'}
  (g:iY F π ρ v v1 w w1) (j:∀e∈d,mS F ρ e) (h:pU P Al F A ρ v1 w1 (a++d) r r'):pU P Al F A π v w a r r':=by
 obtain h|⟨f,v2,w2,b,d2,m,c,l,k⟩:=h
 .exact aG h
 .refine aH ⟨f,v2,w2,b,d++d2,m,g.trans c,λe i=> ?_,?_⟩
  .obtain x|x:=zEg.1 i
   .exact(j e x).mono c.sub
   .exact l e x
  .rw[<-zEm];exact k
def nD (es)(e:Event):es++ #[e]=es.push e:=by simp
end
section
variable {P:zZ}{α β γ:Type}
def bD {s:Sem α}{f:α->Sem β}(v:zW)(es:zE):(s>>=f).runT P v es=match s.runT P v es with|(.ok a w,e)=>(f a).runT P w e|(.halt h w,e)=>(.halt h w,e):=by
 show(s.bind f).runT P v es=_;induction s generalizing v es with
 |pure a=>rfl
 |load m a k i=>
  simp only[Sem.bind,Sem.runT];split;{exact i _ _ _}
  .split
   .exact i _ _ _
   .rfl
 |store m a x k i=>cases x<;>simp only[Sem.bind,Sem.runT]<;>(repeat' split)<;>first|rfl|exact i _ _|(simp_all;done)
 |new o k i=>simp only[Sem.bind,Sem.runT];exact i _ _ _
 |shape r k i=>simp only[Sem.bind,Sem.runT];exact i _ _ _
 |freeze a n k i=>simp only[Sem.bind,Sem.runT];exact i _ _
 |frozen a k i=>simp only[Sem.bind,Sem.runT];exact i _ _ _
 |getObj r k i=>simp only[Sem.bind,Sem.runT];split<;>first|rfl|exact i _ _ _
 |setObj r o k i=>simp only[Sem.bind,Sem.runT];split<;>first|rfl|exact i _ _
 |choose q k i=>simp only[Sem.bind,Sem.runT];split<;>exact i _ _ _
 |sys c k i=>simp only[Sem.bind,Sem.runT];exact i _ _ _
 |program k i=>simp only[Sem.bind,Sem.runT];exact i _ _ _
 |mark m k i=>simp only[Sem.bind,Sem.runT];exact i _ _
 |halt h=>rfl
def bind_assoc' {s}{f:α->Sem β}{g:β->Sem γ}:(s>>=f)>>=g=s>>=λa=>f a>>=g:=by
 show(s.bind f).bind g=s.bind λa=>(f a).bind g
 induction s with
 |pure a=>rfl
 |load m a k i=>simp only[Sem.bind,i]
 |store m a x k i=>simp only[Sem.bind,i]
 |new o k i=>simp only[Sem.bind,i]
 |shape r k i=>simp only[Sem.bind,i]
 |freeze a n k i=>simp only[Sem.bind,i]
 |frozen a k i=>simp only[Sem.bind,i]
 |getObj r k i=>simp only[Sem.bind,i]
 |setObj r o k i=>simp only[Sem.bind,i]
 |choose q k i=>simp only[Sem.bind,i]
 |sys c k i=>simp only[Sem.bind,i]
 |program k i=>simp only[Sem.bind,i]
 |mark m k i=>simp only[Sem.bind,i]
 |halt h=>rfl
end
section
variable {P:zZ}{Al:zF}{F:Kp}{π:Rn}{v w:zW}
def xN (a:Addr)(acc:ByteArray)(n:Nat)(x:zY):Sem ByteArray:=
 match x with| .int aP b=>loadBytes (a.add 1) (acc.push b.toNat.toUInt8) n|_=>stuck "a byte variable that holds no byte"
def uY (M:bQ P Al F π v w):∀(n){a z}(acc)(r j),bT π a z->
  (∃hl g,(loadBytes a acc n).runT P v r=(.halt hl v,g)/\Fatal hl)\/
  ∃s g d,(loadBytes a acc n).runT P v r=(.ok s v,g)/\(loadBytes z acc n).runT P w j=(.ok s w,j++d)/\(∀e∈d,mS F π e)/\
   (n≠0->(∀c t fr,v.heap[a.block]? =aA (aI c t fr)->a.off+n<=c.size)/\¬F a.block):=by
 intro n;induction n with
 |zero=>intro a z acc r j h;exact aH ⟨acc,r,#[],rfl,by simp[loadBytes,pure,Sem.runT],by simp,λh=>absurd rfl h⟩
 |succ n Z=>
  intro a z acc r j h;have H:∀(x G:zY)(d:zE)(u:zE),bF Al π x G->(∀e∈d,mS F π e)->
    (loadBytes a acc (n+1)).runT P v r=(xN a acc n x).runT P v u->
    (loadBytes z acc (n+1)).runT P w j=(xN z acc n G).runT P w (j++d)->
    (∀m,x= .int aP m->(∀c t fr,v.heap[a.block]? =aA (aI c t fr)->a.off+1<=c.size/\a.spot=aB)/\¬F a.block)->
    (∃hl g,(loadBytes a acc (n+1)).runT P v r=(.halt hl v,g)/\Fatal hl)\/
    ∃s g d,(loadBytes a acc (n+1)).runT P v r=(.ok s v,g)/\(loadBytes z acc (n+1)).runT P w j=(.ok s w,j++d)/\(∀e∈d,mS F π e)/\
     (n+1≠0->(∀c t fr,v.heap[a.block]? =aA (aI c t fr)->a.off+(n+1)<=c.size)/\¬F a.block):=by
   intro x G d u hx E p K hb
   rw[p,K]
   have no:xN a acc n x=stuck "a byte variable that holds no byte"->
     ∃hl g,(xN a acc n x).runT P v u=(.halt hl v,g)/\Fatal hl:=λe=>by rw[e];exact⟨_,_,rfl,by simp⟩
   cases hx with
   |int k m=>
    cases k<;>first|exact aG (no rfl)|skip
    obtain⟨R,Q⟩:=hb m rfl;show(∃hl g,(loadBytes (a.add 1) (acc.push m.toNat.toUInt8) n).runT P v u=(.halt hl v,g)/\Fatal hl)\/∃s g L,(loadBytes (a.add 1) (acc.push m.toNat.toUInt8) n).runT P v u=(.ok s v,g)/\(loadBytes (z.add 1) (acc.push m.toNat.toUInt8) n).runT P w (j++d)=(.ok s w,j++L)/\_;obtain y|⟨s,g,d2,Y,X,W,V⟩:=Z (acc.push m.toNat.toUInt8) u (j++d) (h.add 1);{exact aG y}
    .refine aH ⟨s,g,d++d2,Y,by rw[X,zEm],λe D=> ?_,λ_=>⟨λc t fr B=> ?_,Q⟩⟩
     .obtain q|q:=zEg.1 D
      .exact E e q
      .exact W e q
     .have q1:=R c t fr B;by_cases hn:n=0
      .omega
      .have:=(V hn).1 c t fr (by simpa [Addr.add]using B);simp[Addr.add]at this;omega
   |_=>exact aG (no rfl)
  obtain⟨x,G,p,K,C⟩|⟨p,K⟩:=M.cell h
  .refine H x G #[⟨.cell z,aF,aF⟩] (r.push ⟨.cell a,aF,aF⟩) C (λe D=> ?_) ?_ ?_ ?_
   .simp only[zAp,zAm]at D;subst D;exact aG ⟨a,z,aF,_,rfl,h,by simp⟩
   .show(Sem.load .plain a _).runT P v r=_;simp only[Sem.runT,p];rfl
   .show(Sem.load .plain z _).runT P w j=_;rw[nD];simp only[Sem.runT,K];rfl
   .intro m T;subst T;refine⟨λc t fr B=> ?_,λhF=> ?_⟩
    .simp only[World.cell?,B]at p;split at p
     .cases p
     .rename_i O;have:=(zAa.1 p).1;exact⟨by omega,by simpa using O⟩
    .obtain⟨c,c',ty,fr,fr',J,g2,N,g4,g5⟩|⟨_,o,J,_,N⟩|⟨y,y',J,_,N⟩:=M.blk _ _ h.1
     .simp only[World.cell?,J]at p;split at p
      .cases p
      .exact(g4 hF).2.2.1 _ _ p
     .unfold World.cell? at p;rw[J]at p;cases o with
      |cells c t f=>exact absurd rfl (N.1 c t f)
      |_=>cases p
     .unfold World.cell? at p;rw[J]at p;cases N<;>cases p
  .obtain⟨hl,C,S⟩|⟨x,b,U,l,C,S,e5,e6⟩:=M.sw h aF
   .left;refine⟨hl,r,?_,S⟩;show(Sem.load .plain a _).runT P v r=_;simp only[Sem.runT,p];rw[show((Mode.plain==Mode.atomic):Bool)=aF from rfl,C]
   .refine H x x ((l.map λi=>(⟨U,i,aB⟩:Addr)).toArray.map λa=>(⟨.cell a,aF,aF⟩:Event)) (r++(l.map λi=>(⟨b,i,aB⟩:Addr)).toArray.map λa=>(⟨.cell a,aF,aF⟩:Event)) e6 (λe D=> ?_) ?_ ?_ ?_
    .simp only[zFf,zEh,zAp,zCg]at D;obtain⟨i,_,rfl⟩:=D;exact aG ⟨⟨b,i,aB⟩,⟨U,i,aB⟩,aF,_,rfl,⟨e5,rfl,rfl⟩,by simp⟩
    .show(Sem.load .plain a _).runT P v r=_;simp only[Sem.runT,p];rw[show((Mode.plain==Mode.atomic):Bool)=aF from rfl,C];rfl
    .show(Sem.load .plain z _).runT P w j=_;simp only[Sem.runT,K];rw[show((Mode.plain==Mode.atomic):Bool)=aF from rfl,S];rfl
    .intro m T;have I:∀c t fr,v.heap[a.block]?≠aA (aI c t fr):=λc t fr B=>by
      unfold World.farLoad at C;rw[B]at C;cases C
     exact⟨λc t fr B=>absurd B (I c t fr),λhF=>by
      obtain⟨o,B,⟨c,t,fr,rfl⟩|E⟩:=M.rows _ hF;{exact I c t fr B}
      .unfold World.farLoad at C;rw[B]at C;cases o<;>first|(cases C;done)|exact absurd rfl (E.2.1 _ _)|exact absurd rfl (E.2.2.1 _ _)|exact absurd rfl (E.2.2.2 _ _)|exact absurd rfl (E.1 _ _ _)⟩
def qU (B:bQ P Al F π v w){a a'}(h:bT π a a')(es j):
  (∃hl n,(noView a).runT P v es=(.halt hl v,n)/\Fatal hl)\/
  ∃n d,(noView a).runT P v es=(.ok () v,n)/\(noView a').runT P w j=(.ok () w,j++d)/\∀e∈d,mS F π e:=by
 have i:∀(u:zW)(b:Addr) c t fr (es:zE),u.heap[b.block]? =aA (aI c t fr)->(noView b).runT P u es=(.ok () u,es):=λu b c t fr es p=>by have:u.shape? b.block=aA (t,c.size):=by{simp only[World.shape?,p]};show(Sem.shape b.block _).runT P u es=_;simp only[Sem.runT,this];rfl
 have g:∀(u:zW)(b:Addr) o (es:zE),u.heap[b.block]? =aA o->(∀c t f,o≠aI c t f)->(∀x t,o≠.view x t)->(noView b).runT P u es=(.ok () u,es.push ⟨.obj b.block,aF,o.isChan⟩):=λu b o es p s C=>by
  have:u.shape? b.block=aB:=by
   simp only[World.shape?,p];cases o with
   |cells c t f=>exact absurd rfl (s c t f)
   |_=>rfl
  show(Sem.shape b.block _).runT P u es=_;simp only[Sem.runT,this];show(Sem.getObj b.block _).runT P u es=_;simp only[Sem.runT,p];cases o with
  |cells c t f=>exact absurd rfl (s c t f)
  |view x t=>exact absurd rfl (C x t)
  |_=>rfl
 obtain⟨c,c',ty,fr,D,m,r,k,g4,g5⟩|⟨_,o,m,r,k⟩|⟨y,E,m,r,k⟩:=B.blk _ _ h.1
 .exact aH ⟨es,#[],i v a _ _ _ es m,by rw[i w a' _ _ _ j r,zCt],by simp⟩
 .refine aH ⟨_,#[⟨.obj a'.block,aF,o.isChan⟩],g v a o es m k.1 k.2.1,by rw[g w a' o j r k.1 k.2.1,nD],λe q=> ?_⟩;simp only[zAp,zAm]at q;subst q;exact aH (aH (aH ⟨a.block,a'.block,_,rfl,h.1⟩))
 .cases k with
  |view z u p=>left;refine⟨.unsupported (.unsafePointer "memory seen as another type"),es.push ⟨.obj a.block,aF,aF⟩,?_,by simp⟩;have:v.shape? a.block=aB:=by{simp only[World.shape?,m]};show(Sem.shape a.block _).runT P v es=_;simp only[Sem.runT,this];show(Sem.getObj a.block _).runT P v es=_;simp only[Sem.runT,m];rfl
  |number z l=>refine aH ⟨_,#[⟨.obj a'.block,aF,aF⟩],g v a _ es m (by simp) (by simp),by rw[g w a' _ j r (by simp) (by simp),nD];rfl,λe q=> ?_⟩;simp only[zAp,zAm]at q;subst q;exact aH (aH (aH ⟨a.block,a'.block,_,rfl,h.1⟩))
def CM (u:zW)(a:Addr):Prop:=∀c t fr,u.heap[a.block]? =aA (aI c t fr)->fr.2<=c.size
def uR {u a}(h:CM u a)(es):(stringish a).runT P u es=(.ok (u.frozen? a) u,es):=by
 show(Sem.frozen a _).runT P u es=_;simp only[Sem.runT];cases d:u.frozen? a with
 |true=>rfl
 |false=>
  show(Sem.shape a.block _).runT P u es=_;simp only[Sem.runT];cases hu:u.heap[a.block]? with
  |none=>simp only[World.shape?,hu];rfl
  |some o=>
   cases o with
   |cells c t fr=>
    simp only[World.shape?,hu];show(Sem.frozen {block:=a.block,off:=c.size} _).runT P u es=_;have:u.frozen? {block:=a.block,off:=c.size}=aF:=by obtain⟨lo,hi⟩:=fr;have:=h c t (lo,hi) hu;simp only[World.frozen?,hu];simp only at this;have b:¬c.size<hi:=by{omega};simp[b]
    simp only[Sem.runT,this]
   |_=>simp only[World.shape?,hu];rfl
def xO {u a b}(f:CM u a)(e:CM u b)(es):(mayBeOne a b).runT P u es=(.ok (u.frozen? a&&u.frozen? b) u,es):=by
 have pos:∀(x:Addr),CM u x->u.frozen? x=aE->(u.shape? x.block matches aA (_,0))=aF:=λx g h=>by
  unfold World.frozen? at h;unfold World.shape?;cases hu:u.heap[x.block]? with
  |none=>rfl
  |some o=>
   cases o with
   |cells c t fr=>
    obtain⟨lo,hi⟩:=fr;rw[hu]at h;have:=g c t (lo,hi) hu;simp only[zBc,zBl]at h;simp only at this;cases i:c.size with
    |zero=>omega
    |succ n=>simp[i]
   |_=>rfl
 unfold mayBeOne;rw[bD,uR f];dsimp only;rw[bD,uR e];show(Sem.shape a.block _).runT P u es=_;simp only[Sem.runT];show(Sem.shape b.block _).runT P u es=_;simp only[Sem.runT];show(Result.ok ((u.frozen? a&&u.frozen? b)||(u.frozen? a&&(u.shape? a.block matches aA (_,0)))||(u.frozen? b&&(u.shape? b.block matches aA (_,0)))) u,es)=_;have k:(u.frozen? a&&(u.shape? a.block matches aA (_,0)))=aF:=by
  cases d:u.frozen? a with
  |false=>rfl
  |true=>rw[Bool.true_and];exact pos a f d
 have j:(u.frozen? b&&(u.shape? b.block matches aA (_,0)))=aF:=by
  cases d:u.frozen? b with
  |false=>rfl
  |true=>rw[Bool.true_and];exact pos b e d
 rw[k,j,Bool.or_false,Bool.or_false]
def MD (m:bQ P Al F π v w){a a'}(h:bT π a a')(q:F.cmp/\∃x,F x):CM v a/\CM w a'/\(w.frozen? a'=aE->v.frozen? a=aE):=by
 obtain⟨c,c',ty,fr,l,j,i,g,g4,g5⟩|⟨_,o,j,i,g⟩|⟨y,u,j,i,g⟩:=m.blk _ _ h.1
 .have k:=g5.2 q;refine⟨λc1 t1 e b=> ?_,λc1 t1 e b=> ?_,λd=> ?_⟩
  .rw[j]at b;cases b;exact k.1
  .rw[i]at b;cases b;rw[g.size];exact k.2
  .by_cases hF:F a.block
   .obtain⟨s,r,_⟩:=g4 hF;obtain⟨lo,hi⟩:=fr;obtain⟨n,p⟩:=l;simp only[World.frozen?,i,zBc,zBl]at d;simp only[World.frozen?,j,zBc,zBl];simp only at s r k;rw[h.2.1]at d;omega
   .rw[m.frozen h hF]at d;exact d
 .refine⟨λc1 t1 e b=> ?_,λc1 t1 e b=> ?_,λd=> ?_⟩
  .rw[j]at b;cases b;exact absurd rfl (g.1 _ _ _)
  .rw[i]at b;cases b;exact absurd rfl (g.1 _ _ _)
  .unfold World.frozen? at d;rw[i]at d;cases o with
   |cells c t f=>exact absurd rfl (g.1 c t f)
   |_=>cases d
 .refine⟨λc1 t1 e b=> ?_,λc1 t1 e b=> ?_,λd=> ?_⟩
  .rw[j]at b;cases b;cases g
  .rw[i]at b;cases b;cases g
  .unfold World.frozen? at d;rw[i]at d;cases g<;>cases d
def SJ (s:bQ P Al F π v w)(H:F.cmp/\∃x,F x){a a' b b'}(h:bT π a a')(k:bT π b b')(es i):
  (∃hl f,(sameAddr a b).runT P v es=(.halt hl v,f)/\Fatal hl)\/
  ∃t f d,(sameAddr a b).runT P v es=(.ok t v,f)/\(sameAddr a' b').runT P w i=(.ok t w,i++d)/\∀e∈d,mS F π e:=by
 have j:=s.ok.inj h.1 k.1;obtain⟨G,o,N⟩:=MD s h H;obtain⟨E,m,M⟩:=MD s k H;by_cases e:a.block=b.block
 .have D:=j.1 e;refine aH ⟨a==b,es,#[],?_,?_,by simp⟩
  .unfold sameAddr;simp only[e,BEq.rfl,zCq];rfl
  .unfold sameAddr;have:(a'==b')=(a==b):=by
    obtain⟨_,I,R⟩:=h;obtain⟨_,k2,Q⟩:=k;by_cases l:a=b;{subst l;have:a'=b':=by{cases a';cases b';simp_all};simp[this]};{have:a'≠b':=λq=>l (by cases a;cases b;cases a';cases b';simp_all);rw[zDx l,zDx this]}
   simp only[D,BEq.rfl,zCq,this,zCt];rfl
 .have D:a'.block≠b'.block:=λq=>e (j.2 q);have run:∀(u:zW)(c d:Addr)(es:zE),c.block≠d.block->CM u c->CM u d->(sameAddr c d).runT P u es=
    if(u.frozen? c&&u.frozen? d)=aE then(.halt (.unsupported .addressObserved) u,es)else
     match(noView c).runT P u es with
     |(.ok _ u1,f)=>match(noView d).runT P u1 f with
      |(.ok _ u2,g)=>((mayBeOne c d)>>=λt=>if t=aE then(choose (.extern "sameAddr.stringBytes" 2)>>=λn=>pure (n==1))else pure aF).runT P u2 g
      |(.halt h u2,g)=>(.halt h u2,g)
     |(.halt h u1,f)=>(.halt h u1,f):=by
   intro u c d es C O nd
   unfold sameAddr
   rw[zDx C]
   simp only[zAz,zDc]
   show(Sem.frozen c _).runT P u es=_
   simp only[Sem.runT]
   show(Sem.frozen d _).runT P u es=_
   simp only[Sem.runT]
   show Sem.runT P (if(u.frozen? c&&u.frozen? d)=aE then _ else _) u es=_
   cases(u.frozen? c&&u.frozen? d)with
   |true=>rfl
   |false=>
    simp only[zAz,zDc];rw[bD];cases(noView c).runT P u es with
    |mk r f=>
     cases r with
     |halt h u1=>rfl
     |ok _ u1=>
      dsimp only;rw[bD];cases(noView d).runT P u1 f with
      |mk r g=>cases r<;>rfl
  rw[run v a b es e G E,run w a' b' i D o m];cases B:(v.frozen? a&&v.frozen? b)with
  |true=>exact aG ⟨_,_,rfl,by simp⟩
  |false=>
   have p:(w.frozen? a'&&w.frozen? b')=aF:=by
    cases L:w.frozen? a' with
    |false=>rfl
    |true=>
     cases I:w.frozen? b' with
     |false=>rfl
     |true=>rw[N L,M I]at B;cases B
   rw[p];simp only[zAz,zDc];obtain⟨hl,f,z,y⟩|⟨f,d,z,y,J⟩:=qU s h es i;{rw[z];exact aG ⟨hl,f,rfl,y⟩};rw[z,y];dsimp only;obtain⟨hl,g,r1,r2⟩|⟨g,d2,r1,r2,r3⟩:=qU s k f (i++d);{rw[r1];exact aG ⟨hl,g,rfl,r2⟩};rw[r1,r2];dsimp only;rw[bD,xO G E,bD,xO o m,B,p];refine aH ⟨aF,g,d++d2,rfl,by rw[<-zEm];rfl,λx K=> ?_⟩;obtain q|q:=zEg.1 K;{exact J x q};{exact r3 x q}
end
section
variable {P:zZ}{Al:zF}{F:Kp}{α β:Type}{A:Rn->α->β->Prop}
def Jc {γ}:∀(a:Ask γ)(u:zW),u.drawn<=(u.ask a).2.drawn:=by
 intro a;induction a with
 |done x=>intro u;exact zAb _
 |ask b range k i=>intro u;unfold World.ask;dsimp only;split;{exact i _ u};{exact zAw (aEJ _) (i _ {u with drawn:=u.drawn+1})}
def Ev (u:zW)(c:Sys):u.drawn<=(u.sys c).2.drawn:=by
 have:=Jc (Kernel.perform c u.os) u;unfold World.sys;split
 .exact zAb _
 .rename_i h;rw[h]at this;exact this
def YC {γ}:∀(s:Sem γ)(u)(b),u.drawn<=(Sr (s.runT P u b)).drawn:=by
 intro s;induction s with
 |pure a=>intro u b;exact zAb _
 |load m a k i=>
  intro u b;simp only[Sem.runT];split;{exact i _ _ _}
  .split
   .exact i _ _ _
   .exact zAb _
 |store m a x k i=>
  intro u b;have D:(u.setCell a x).drawn=u.drawn:=rfl;have j:∀y p l,u.farStore P a y (m== .atomic)= .ok (p,l)->p.drawn=u.drawn:=by
   intro y p l h;unfold World.farStore at h;cases hb:u.heap[a.block]? with
   |none=>rw[hb]at h;cases h
   |some o=>
    rw[hb]at h;cases o with
    |view at_ t=>
     dsimp only at h;cases d:u.viewStore P at_ t a y (m== .atomic)with
     |error f=>rw[d]at h;cases h
     |ok r=>
      rw[d]at h;cases h;cases g:u.seen P at_ t a (m== .atomic)with
      |error f=>
       have:∃f,u.viewStore P at_ t a y (m== .atomic)= .error f:=by unfold World.viewStore;by_cases C:(!tight P P.depth t)=aE;{rw[zAq C];exact⟨_,rfl⟩};{rw[zAn C,g];exact⟨_,rfl⟩}
       obtain⟨f,G⟩:=this;rw[G]at d;cases d
      |ok z=>
       obtain⟨c,e,fr,first,B,cells⟩:=z;rw[qJ g]at d;split at d;{cases d}
       .split at d
        .cases d
        .split at d
         .cases d
         .split at d
          .cases d
          .cases d;rfl
    |_=>cases h
  cases x<;>simp only[Sem.runT]<;>first|exact zAb _|skip
  all_goals
   split
   .split
    .exact zAb _
    .refine zAw ?_ (i _ _);exact zAb _
   .split
    .rename_i h;rw[<-j _ _ _ h];exact i _ _
    .exact zAb _
 |new o k i=>intro u b;exact i _ {u with heap:=u.heap.push o} b
 |shape r k i=>intro u b;exact i _ u b
 |freeze a n k i=>intro u b;have:(u.freeze a n).drawn=u.drawn:=by{unfold World.freeze;split<;>rfl};have E:=i (u.freeze a n) b;rw[this]at E;exact E
 |frozen a k i=>intro u b;exact i _ u b
 |getObj r k i=>intro u b;simp only[Sem.runT];split<;>first|exact zAb _|exact i _ _ _
 |setObj r o k i=>intro u b;simp only[Sem.runT];split<;>first|exact zAb _|exact i {u with heap:=u.heap.setIfInBounds r o} _
 |choose q k i=>intro u b;simp only[Sem.runT];split;{exact i _ _ _};{exact zAw (aEJ _) (i _ {u with drawn:=u.drawn+1} b)}
 |sys c k i=>intro u b;exact zAw (Ev u c) (i _ _ _)
 |program k i=>intro u b;exact i _ u b
 |mark m k i=>intro u b;exact i u _
 |halt h=>intro u b;exact zAb _
def bN.runT {π s s'}(h:bN P Al F A π s s'):∀(v w)(p g),bQ P Al F π v w->pU P Al F A π v w g (s.runT P v p) (s'.runT P w g):=by
 induction h with
 |pure h=>intro v w p g j;exact aH ⟨_,v,w,p,#[],j,iY.refl v w,by simp,aG ⟨_,_,rfl,by simp[Sem.runT],h⟩⟩
 | @load π m a D k L h O B=>
  intro v w p g j;obtain⟨x,R,I,K,Q⟩|⟨I,K⟩:=j.cell h;{simp only[Sem.runT,I,K];have:=B x R Q v w (p.push ⟨.cell a,aF,m== .atomic⟩) (g.push ⟨.cell D,aF,m== .atomic⟩) j;refine pU.step (iY.refl v w) (λe J=> ?_) (by rw[nD];exact this);simp only[zAp,zAm]at J;subst J;exact aG ⟨a,D,aF,_,rfl,h,by simp⟩}
  .obtain⟨hl,Q,S⟩|⟨x,b,E,l,Q,S,e5,e6⟩:=j.sw h (m== .atomic)
   .left;left;refine⟨hl,v,p,?_,S⟩;simp only[Sem.runT,I,Q]
   .simp only[Sem.runT,I,K,Q,S];refine pU.step (iY.refl v w) (λe J=> ?_) (B x x e6 v w _ _ j);simp only[zFf,zEh,zAp,zCg]at J;obtain⟨i,_,rfl⟩:=J;exact aG ⟨⟨b,i,aB⟩,⟨E,i,aB⟩,aF,_,rfl,⟨e5,rfl,rfl⟩,by simp⟩
 | @store π m a D x R k L h hx O B=>
  intro v w p g j;have W:(∀(cs:zA),x≠.agg cs)->(∀(cs:zA),x≠.tuple cs)->(∀(cs:zA),R≠.agg cs)->(∀(cs:zA),R≠.tuple cs)->pU P Al F A π v w g ((Sem.store m a x k).runT P v p) ((Sem.store m D R L).runT P w g):=by
   intro n1 n2 n3 n4;rw[Sem.runT.eq_5 _ _ _ _ _ _ _ (λcs h=>n1 cs h) (λcs h=>n2 cs h),Sem.runT.eq_5 _ _ _ _ _ _ _ (λcs h=>n3 cs h) (λcs h=>n4 cs h)];obtain⟨y,y',I,K,Q⟩|⟨I,K⟩:=j.cell h
   .simp only[I,K];by_cases hF:F a.block
    .left;left;rw[j.Db h hF I];exact⟨_,_,_,rfl,by simp⟩
    .rw[j.frozen h hF];cases hf:v.frozen? a with
     |true=>left;left;exact⟨_,_,_,rfl,by simp⟩
     |false=>have:=B (v.setCell a x) (w.setCell D R) (p.push ⟨.cell a,aE,m== .atomic⟩) (g.push ⟨.cell D,aE,m== .atomic⟩) (j.setCell h hF hx);refine pU.step (ρ:=π) (v1:=v.setCell a x) (w1:=w.setCell D R) ⟨λ_ _ z=>z,by simp[World.setCell],by simp[World.setCell],λE _ G=> ?_,λ_ _ z=>aG z,rfl,rfl,rfl,rfl,rfl,rfl,⟨0,rfl,rfl⟩,λx y=>⟨by simpa [World.setCell]using x,y⟩,λb _ G=> ?_,λb N M=>by simp[World.setCell]at M;omega⟩ (λe J=> ?_) (by rw[nD];exact this);{have:D.block≠E:=λq=>hF (G a.block (q▸h.1));simp only[World.setCell,bP _ this]};{have:a.block≠b:=λq=>G D.block (q▸h.1);simp only[World.setCell,bP _ this]};{simp only[zAp,zAm]at J;subst J;exact aG ⟨a,D,aE,_,rfl,h,λ_=>hF⟩}
   .simp only[I,K];obtain⟨hl,Q,S⟩|⟨v1,w1,b,E,l,Q,S,e5,e6,e7,e8⟩:=j.farStore h hx (m== .atomic)
    .left;left;exact⟨hl,v,p,by simp only[Q],S⟩
    .simp only[Q,S];refine pU.step e7 (λe J=> ?_) (B v1 w1 _ _ e6);simp only[zFf,zEh,zAp,zCg]at J;obtain⟨i,hi,rfl⟩:=J;exact aG ⟨⟨b,i,aB⟩,⟨E,i,aB⟩,aE,_,rfl,⟨e5,rfl,rfl⟩,λ_ hF=>by rw[e8 hF]at hi;cases hi⟩
  cases hx with
  |agg _ _=>left;left;exact⟨_,_,_,rfl,by simp⟩
  |tuple _ _=>left;left;exact⟨_,_,_,rfl,by simp⟩
  |junk vb hj=>exact W (by simp) (by simp) (λcs e=>by rw[e]at hj;exact hj) (λcs e=>by rw[e]at hj;exact hj)
  |_=>exact W (by simp) (by simp) (by simp) (by simp)
 | @new π c c' ty k L h O B=>
  intro v w p g j;have:=B (more π v.heap.size w.heap.size) v.heap.size w.heap.size (j.push h ty).ok (λ_ _ x=>aG x) (aH ⟨rfl,rfl⟩) _ _ p g (j.push h ty);simp only[Sem.runT];refine pU.step (ρ:=more π v.heap.size w.heap.size) (v1:={v with heap:=v.heap.push (aI c ty)}) (w1:={w with heap:=w.heap.push (aI c' ty)}) (d:= #[]) ⟨λ_ _ x=>aG x,by simp only[zBt];omega,by simp only[zBt];omega,λE Z _=> ?_,λb E x=> ?_,rfl,rfl,rfl,rfl,rfl,rfl,⟨0,rfl,rfl⟩,λx y=>⟨by simp only[zBt];omega,λb E z=> ?_⟩,λb Z _=> ?_,λb N M=>⟨w.heap.size,aH ⟨by simp only[zBt]at M;omega,rfl⟩⟩⟩ (by simp) (by rw[zCt];exact this);{show(w.heap.push _)[E]? =_;rw[zBg,zAn (by omega)]}
  .obtain x|⟨rfl,rfl⟩:=x
   .exact aG x
   .exact aH ⟨zAb _,zAb _,by show _<(w.heap.push _).size;rw[zBt];omega⟩
  .obtain z|⟨rfl,rfl⟩:=z
   .exact y _ _ z
   .exact x
  .show(v.heap.push _)[b]? =_;rw[zBg,zAn (by omega)]
 | @marked π c c' ty k L hC h O B=>
  intro v w p g j;have:=B (more π v.heap.size w.heap.size) v.heap.size w.heap.size (j.qQ hC h ty).ok (λ_ _ x=>aG x) (aH ⟨rfl,rfl⟩) _ _ p g (j.qQ hC h ty);rw[nZ,nZ];refine pU.step (ρ:=more π v.heap.size w.heap.size) (v1:={v with heap:=v.heap.push (aI c ty (c.size,c.size+1))}) (w1:={w with heap:=w.heap.push (aI c' ty (c'.size,c'.size+1))}) (d:= #[]) ⟨λ_ _ x=>aG x,by simp only[zBt];omega,by simp only[zBt];omega,λE Z _=> ?_,λb E x=> ?_,rfl,rfl,rfl,rfl,rfl,rfl,⟨0,rfl,rfl⟩,λx y=>⟨by simp only[zBt];omega,λb E z=> ?_⟩,λb Z _=> ?_,λb N M=>⟨w.heap.size,aH ⟨by simp only[zBt]at M;omega,rfl⟩⟩⟩ (by simp) (by rw[zCt];exact this);{show(w.heap.push _)[E]? =_;rw[zBg,zAn (by omega)]}
  .obtain x|⟨rfl,rfl⟩:=x
   .exact aG x
   .exact aH ⟨zAb _,zAb _,by show _<(w.heap.push _).size;rw[zBt];omega⟩
  .obtain z|⟨rfl,rfl⟩:=z
   .exact y _ _ z
   .exact x
  .show(v.heap.push _)[b]? =_;rw[zBg,zAn (by omega)]
 | @view π x R k L h O B=>
  intro v w p g j;have:=B (more π v.heap.size w.heap.size) v.heap.size w.heap.size (j.xF h).ok (λ_ _ x=>aG x) (aH ⟨rfl,rfl⟩) _ _ p g (j.xF h);simp only[Sem.runT];refine pU.step (ρ:=more π v.heap.size w.heap.size) (v1:={v with heap:=v.heap.push x}) (w1:={w with heap:=w.heap.push R}) (d:= #[]) ⟨λ_ _ x=>aG x,by simp only[zBt];omega,by simp only[zBt];omega,λE Z _=> ?_,λb E x=> ?_,rfl,rfl,rfl,rfl,rfl,rfl,⟨0,rfl,rfl⟩,λx y=>⟨by simp only[zBt];omega,λb E z=> ?_⟩,λb Z _=> ?_,λb N M=>⟨w.heap.size,aH ⟨by simp only[zBt]at M;omega,rfl⟩⟩⟩ (by simp) (by rw[zCt];exact this);{show(w.heap.push _)[E]? =_;rw[zBg,zAn (by omega)]}
  .obtain x|⟨rfl,rfl⟩:=x
   .exact aG x
   .exact aH ⟨zAb _,zAb _,by show _<(w.heap.push _).size;rw[zBt];omega⟩
  .obtain z|⟨rfl,rfl⟩:=z
   .exact y _ _ z
   .exact x
  .show(v.heap.push _)[b]? =_;rw[zBg,zAn (by omega)]
 | @getObj π r T k L h O B=>
  intro v w p g j;have Y:∀(t:Bool)(e:Event),e∈#[(⟨.obj T,aF,t⟩:Event)]->mS F π e:=λt e J=>by simp only[zAp,zAm]at J;subst J;exact aH (aH (aH ⟨r,T,t,rfl,h⟩))
  obtain⟨c,c',ty,fr,fr',N,M,_⟩|⟨_,o,N,M,U⟩|⟨x,R,N,M,U⟩:=j.blk _ _ h;{left;left;exact⟨.stuck "getObj: a row of cells",v,p,by simp only[Sem.runT,N],by simp⟩}
  .have I:(Sem.getObj r k).runT P v p=(k o).runT P v (p.push ⟨.obj r,aF,o.isChan⟩):=by
    simp only[Sem.runT,N];cases o with
    |cells c t f=>exact absurd rfl (U.1 c t f)
    |_=>rfl
   have K:(Sem.getObj T L).runT P w g=(L o).runT P w (g.push ⟨.obj T,aF,o.isChan⟩):=by
    simp only[Sem.runT,M];cases o with
    |cells c t f=>exact absurd rfl (U.1 c t f)
    |_=>rfl
   rw[I,K];exact pU.step (iY.refl v w) (d:= #[⟨.obj T,aF,o.isChan⟩]) (Y _) (by rw[nD];exact B o o (aG ⟨U,rfl⟩) v w _ _ j)
  .have I:(Sem.getObj r k).runT P v p=(k x).runT P v (p.push ⟨.obj r,aF,aF⟩):=by
    simp only[Sem.runT,N];cases U<;>rfl
   have K:(Sem.getObj T L).runT P w g=(L R).runT P w (g.push ⟨.obj T,aF,aF⟩):=by simp only[Sem.runT,M];cases U<;>rfl
   rw[I,K];exact pU.step (iY.refl v w) (d:= #[⟨.obj T,aF,aF⟩]) (Y _) (by rw[nD];exact B _ _ (aH ⟨x,R,rfl,rfl,U⟩) v w _ _ j)
 | @shape π r T k L h O B=>intro v w p g j;simp only[Sem.runT,j.shape h];exact B _ v w p g j
 | @freeze π a D n k L hF h O B=>
  intro v w p g j;have:=B (v.freeze a n) (w.freeze D n) p g (j.freeze hF h n);simp only[Sem.runT];have C:∀(u:zW)(x:Addr),(u.freeze x n).heap.size=u.heap.size/\(u.freeze x n).tape=u.tape/\(u.freeze x n).os=u.os/\(u.freeze x n).output=u.output/\(u.freeze x n).drawn=u.drawn:=λu x=>by{unfold World.freeze;split<;>simp};refine pU.step (d:= #[]) ⟨λ_ _ x=>x,by rw[(C v a).1];exact zAb _,by rw[(C w D).1];exact zAb _,λE _ G=> ?_,λb E x=>aG x,(C _ _).2.1,(C _ _).2.2.1,(C _ _).2.2.2.1,(C _ _).2.1,(C _ _).2.2.1,(C _ _).2.2.2.1,⟨0,(C v a).2.2.2.2,(C w D).2.2.2.2⟩,λx y=>⟨by rw[(C v a).1,(C w D).1];exact x,y⟩,λb _ G=> ?_,λb N M=>by rw[(C v a).1]at M;omega⟩ (by simp) (by rw[zCt];exact this)
  .have:D.block≠E:=λq=>hF _ (G a.block (q▸h.1));unfold World.freeze;split
   .rfl
   .simp only[bP _ this]
  .have:a.block≠b:=λq=>G D.block (q▸h.1);unfold World.freeze;split
   .rfl
   .simp only[bP _ this]
 | @frozen π a D k L hF h O B=>intro v w p g j;simp only[Sem.runT,j.frozen h (hF _)];exact B _ v w p g j
 | @share π a D n k L h O B=>
  intro v w p g j;rw[bD,bD];obtain⟨hl,H,I,K⟩|⟨s,H,d,I,K,Q,S⟩:=uY j n .empty p g h;{rw[I];exact aG (aG ⟨hl,v,H,rfl,K⟩)}
  .rw[I,K];show pU P Al F A π v w g ((Sem.freeze a n (k s)).runT P v H) ((Sem.freeze D n (L s)).runT P w (g++d));simp only[Sem.runT];have C:∀(u:zW)(x:Addr),(u.freeze x n).heap.size=u.heap.size/\(u.freeze x n).tape=u.tape/\(u.freeze x n).os=u.os/\(u.freeze x n).output=u.output/\(u.freeze x n).drawn=u.drawn:=λu x=>by unfold World.freeze;split<;>simp
   have hW:bQ P Al F π (v.freeze a n) (w.freeze D n):=by by_cases X:n=0;{subst X;exact j};{exact j.UW h (S X).1 λ_=>(S X).2}
   refine pU.step (v1:=v.freeze a n) (w1:=w.freeze D n) ⟨λ_ _ x=>x,by rw[(C v a).1];exact zAb _,by rw[(C w D).1];exact zAb _,λE _ G=> ?_,λb E x=>aG x,(C _ _).2.1,(C _ _).2.2.1,(C _ _).2.2.2.1,(C _ _).2.1,(C _ _).2.2.1,(C _ _).2.2.2.1,⟨0,(C v a).2.2.2.2,(C w D).2.2.2.2⟩,λx y=>⟨by rw[(C v a).1,(C w D).1];exact x,y⟩,λb _ G=> ?_,λb N M=>by rw[(C v a).1]at M;omega⟩ Q (B s _ _ _ _ hW)
   .unfold World.freeze;split
    .rfl
    .rename_i X;have:D.block≠E:=λq=>(S X).2 (G a.block (q▸h.1));simp only[bP _ this]
   .have:a.block≠b:=λq=>G D.block (q▸h.1);unfold World.freeze;split
    .rfl
    .simp only[bP _ this]
 | @same π a D b E k L hN h h' O B=>intro v w p g j;rw[bD,bD];obtain⟨hl,H,I,K⟩|⟨t,H,d,I,K,Q⟩:=SJ j hN h h' p g;{rw[I];exact aG (aG ⟨hl,v,H,rfl,K⟩)};{rw[I,K];exact pU.step (iY.refl v w) Q (B t v w _ _ j)}
 | @choose π q k L O B=>
  intro v w p g j;simp only[Sem.runT];split;{exact B 0 v w p g j}
  .by_cases hl:F.upto v.drawn
   .have e0:w.tape w.drawn=v.tape v.drawn:=j.tape 0 hl;have I:q.cut (w.tape w.drawn q)=q.cut (v.tape v.drawn q):=by{rw[e0]};rw[I];have:=B (q.cut (v.tape v.drawn q)) {v with drawn:=v.drawn+1} {w with drawn:=w.drawn+1} p g ⟨j.ok,j.blk,λk O=>by have:=j.tape (k+1) (by rw[zFw k 1,<-zCc];exact O);rw[zFw k 1,<-zCc,<-zCc]at this;exact this,j.fresh,j.low,j.os,j.rows⟩;exact pU.step (v1:={v with drawn:=v.drawn+1}) (w1:={w with drawn:=w.drawn+1}) (d:= #[]) ⟨λ_ _ x=>x,zAb _,zAb _,λ_ _ _=>rfl,λ_ _ x=>aG x,rfl,rfl,rfl,rfl,rfl,rfl,⟨1,rfl,rfl⟩,λx y=>⟨x,y⟩,λ_ _ _=>rfl,λb N M=>absurd M (zEy.2 N)⟩ (by simp) (by rw[zCt];exact this)
   .obtain⟨u,hu⟩:=zFa.1 hl;obtain⟨jx,pb⟩:=Classical.not_imp.1 hu;have hov:Uo F (Sr ((k (q.cut (v.tape v.drawn q))).runT P {v with drawn:=v.drawn+1} p)):=
     ⟨u,jx,zAc (show u<v.drawn+1 by omega) (YC (k (q.cut (v.tape v.drawn q))) {v with drawn:=v.drawn+1} p)⟩
    have:=B (q.cut (v.tape v.drawn q)) {v with drawn:=v.drawn+1} {w with drawn:=v.drawn+1,tape:=v.tape} p g ⟨j.ok,j.blk,λ_ _=>rfl,j.fresh,j.low,j.os,j.rows⟩;obtain(N|N)|⟨V,v1,w1,H,d,g1,g2,g3,g4⟩:=this;{exact aG (aG N)};{exact aG (aH N)}
    .refine aG (aH ⟨hov,?_⟩);obtain⟨a,b,r1,r2,aa⟩|⟨x,R,r1,r2,hx⟩:=g4
     .exact aG ⟨a,b,V,v1,H,r1,aa⟩
     .exact aH ⟨x,v1,H,r1⟩
 | @program π k L J O B=>intro v w p g j;simp only[Sem.runT];exact B v w p g j
 | @mark π m k L hm O B=>intro v w p g j;simp only[Sem.runT];have:=B v w (p.push ⟨.mark m,aF,aE⟩) (g.push ⟨.mark m,aF,aE⟩) j;refine pU.step (iY.refl v w) (d:= #[⟨.mark m,aF,aE⟩]) (λe J=> ?_) (by rw[nD];exact this);simp only[zAp,zAm]at J;subst J;obtain rfl|⟨f,rfl⟩:=hm;{exact aH (aG (aG rfl))};{exact aH (aH (aG ⟨f,rfl⟩))}
 | @env π k L O B=>intro v w p g j;have C:∀(u:zW),u.sys .env=(.strings u.os.env,u):=λu=>rfl;simp only[Sem.runT,C,j.os];have:=B (.strings v.os.env) v w (p.push ⟨.output,aE,aF⟩) (g.push ⟨.output,aE,aF⟩) j;refine pU.step (iY.refl v w) (d:= #[⟨.output,aE,aF⟩]) (λe J=> ?_) (by rw[nD];exact this);simp only[zAp,zAm]at J;subst J;exact aH (aG (aH rfl))
 |panic h=>intro v w p g j;exact aH ⟨_,v,w,p,#[],j,iY.refl v w,by simp,aH ⟨_,_,rfl,by simp[Sem.runT],h⟩⟩
 |dead h=>intro v w p g j;obtain⟨hl,w1,H,e,K⟩:=h v p;exact aG (aG ⟨hl,w1,H,e,K⟩)
end
section
variable {P:zZ}{Al:zF}{F:Kp}{α β γ δ:Type}
def FE {s:Sem α}{f:α->Sem β}(v)(es){hl w e}(h:s.runT P v es=(.halt hl w,e)):(s.bind f).runT P v es=(.halt hl w,e):=by
 have b:∀(s:Sem α)(v:zW)(es:zE),(s.bind f).runT P v es=match s.runT P v es with|(.ok a w,e)=>(f a).runT P w e|(.halt h w,e)=>(.halt h w,e):=by
  intro s;induction s with
  |pure a=>intro v es;rfl
  |load m a k i=>
   intro v es;simp only[Sem.bind,Sem.runT];split;{exact i _ _ _}
   .split
    .exact i _ _ _
    .rfl
  |store m a x k i=>intro v es;cases x<;>simp only[Sem.bind,Sem.runT]<;>(repeat' split)<;>first|rfl|exact i _ _|(simp_all;done)
  |new o k i=>intro v es;simp only[Sem.bind,Sem.runT];exact i _ _ _
  |shape r k i=>intro v es;simp only[Sem.bind,Sem.runT];exact i _ _ _
  |freeze a n k i=>intro v es;simp only[Sem.bind,Sem.runT];exact i _ _
  |frozen a k i=>intro v es;simp only[Sem.bind,Sem.runT];exact i _ _ _
  |getObj r k i=>intro v es;simp only[Sem.bind,Sem.runT];split<;>first|rfl|exact i _ _ _
  |setObj r o k i=>intro v es;simp only[Sem.bind,Sem.runT];split<;>first|rfl|exact i _ _
  |choose q k i=>intro v es;simp only[Sem.bind,Sem.runT];split<;>exact i _ _ _
  |sys c k i=>intro v es;simp only[Sem.bind,Sem.runT];exact i _ _ _
  |program k i=>intro v es;simp only[Sem.bind,Sem.runT];exact i _ _ _
  |mark m k i=>intro v es;simp only[Sem.bind,Sem.runT];exact i _ _
  |halt h=>intro v es;rfl
 rw[b,h]
def bN.bind {A:Rn->α->β->Prop}{B:Rn->γ->δ->Prop}{π:Rn}{s:Sem α}{s':Sem β}{f:α->Sem γ}{f':β->Sem δ}(ok:Ok P π)(h:bN P Al F A π s s')
  (g:∀(ρ:Rn) a b,Ok P ρ->(∀x y,π x y->ρ x y)->A ρ a b->bN P Al F B ρ (f a) (f' b)):bN P Al F B π (s.bind f) (s'.bind f'):=by
 induction h with
 |pure h=>exact g _ _ _ ok (λ_ _ x=>x) h
 |load h j i=>exact .load h λv L O=>i v L O ok g
 |store h N j i=>exact .store h N (i ok g)
 |new h j i=>exact .new h λρ r E d q G=>i ρ r E d q G d λD a b l p=>g D a b l λx y m=>p _ _ (q _ _ m)
 | @marked π c c' ty k u hC h j i=>
  have H:(Sem.new (aI c ty) λr=>markStringish ⟨r,0,aB⟩>>=λ_=>k r).bind f= .new (aI c ty) λr=>markStringish ⟨r,0,aB⟩>>=λ_=>(k r).bind f:=by show Sem.new _ _=Sem.new _ _;congr 1;funext r;exact bind_assoc'
  have z:(Sem.new (aI c' ty) λr=>markStringish ⟨r,0,aB⟩>>=λ_=>u r).bind f'= .new (aI c' ty) λr=>markStringish ⟨r,0,aB⟩>>=λ_=>(u r).bind f':=by show Sem.new _ _=Sem.new _ _;congr 1;funext r;exact bind_assoc'
  rw[H,z];exact .marked hC h λρ r E d q G=>i ρ r E d q G d λD a b l p=>g D a b l λx y m=>p _ _ (q _ _ m)
 |view h j i=>exact .view h λρ r E d q G=>i ρ r E d q G d λD a b l p=>g D a b l λx y m=>p _ _ (q _ _ m)
 |getObj h j i=>exact .getObj h λo M Q=>i o M Q ok g
 |shape h j i=>exact .shape h λs=>i s ok g
 |freeze hF h j i=>exact .freeze hF h (i ok g)
 |frozen hF h j i=>exact .frozen hF h λt=>i t ok g
 | @share π a C n k u h j i=>have H:(loadBytes a .empty n>>=λs=>Go.freeze a n>>=λ_=>k s).bind f=loadBytes a .empty n>>=λs=>Go.freeze a n>>=λ_=>(k s).bind f:=bind_assoc';have z:(loadBytes C .empty n>>=λs=>Go.freeze C n>>=λ_=>u s).bind f'=loadBytes C .empty n>>=λs=>Go.freeze C n>>=λ_=>(u s).bind f':=bind_assoc';rw[H,z];exact .share h λs=>i s ok g
 | @same π a C b K k u R h S j i=>have H:(sameAddr a b>>=k).bind f=sameAddr a b>>=λt=>(k t).bind f:=bind_assoc';have z:(sameAddr C K>>=u).bind f'=sameAddr C K>>=λt=>(u t).bind f':=bind_assoc';rw[H,z];exact .same R h S λt=>i t ok g
 |choose j i=>exact .choose λn=>i n ok g
 | @program π k u he j i=>exact .program (λT q=>congrArg (λs:Sem β=>s.bind f') (he T q)) (i ok g)
 |mark hm j i=>exact .mark hm (i ok g)
 |env j i=>exact .env λr=>i r ok g
 |panic h=>exact .panic h
 |dead h=>exact .dead λv J=>let⟨hl,w,I,e,z⟩:=h v J;⟨hl,w,I,FE v J e,z⟩
end
def Flat (v:zY):Prop:=∀(Al:zF)(π:Rn),bF Al π v v
structure IX (P:zZ):Prop where
 zero:∀t i z,t<P.types.size->P.info? t=aA i->i.zero=aA z->Flat z
 slice:∀t e,t<P.types.size->P.underlying t=aA (.slice e)->e<P.types.size
 array:∀t n e,t<P.types.size->P.underlying t=aA (.array n e)->e<P.types.size
 pointer:∀t e,t<P.types.size->P.underlying t=aA (.pointer e)->e<P.types.size
abbrev ER {α:Type}:Rn->α->α->Prop:=λ_ a b=>a=b
abbrev VR (Al:zF):Rn->zY->zY->Prop:=λπ a b=>bF Al π a b
abbrev ag (Al:zF):Rn->zA->zA->Prop:=λπ a b=>aY Al π a b
abbrev AR:Rn->Addr->Addr->Prop:=λπ a b=>bT π a b
section
variable {P:zZ}{Al:zF}{F:Kp}{π:Rn}{α β γ δ:Type}{A:Rn->α->β->Prop} [ok:Ok P π]
def aR {B:Rn->γ->δ->Prop}(A:Rn->α->β->Prop){s:Sem α}{s':Sem β}{f:α->Sem γ}{f':β->Sem δ}(h:bN P Al F A π s s')
  (c:∀(ρ:Rn) a b,Ok P ρ->(∀x y,π x y->ρ x y)->A ρ a b->bN P Al F B ρ (f a) (f' b)):bN P Al F B π (s>>=f) (s'>>=f'):=bN.bind ok h c
def RV {hl s'}(h:Fatal hl):bN P Al F A π (.halt hl) s':= .dead λv e=>⟨hl,v,e,rfl,h⟩
def aT {w s'}:bN P Al F A π (stuck w) s':=RV (by simp)
def aU {u:Unsupported}{s':Sem β}(h:∀g,u≠.initOrder g:=by simp):bN P Al F A π (unsupported u) s':=RV (aH ⟨u,rfl,h⟩)
def aS {a b}(h:A π a b):bN P Al F A π (Pure.pure a) (Pure.pure b):= .pure h
def nF {x a}(h:bF Al π x a):bN P Al F A π (goPanic x) (goPanic a):= .panic h
def fW (q):bN P Al F ER π (choose q) (choose q):= .choose λ_=> .pure rfl
def dU {B:Rn->γ->δ->Prop}{k:zZ->Sem γ}{k':zZ->Sem δ}(a:∀fs,Shape P fs->k' ⟨P.toTables,fs⟩=k' P)
  (h:∀(ρ:Rn)(p q:zZ),Ok P ρ->(∀x y,π x y->ρ x y)->(p=P/\q=P)->bN P Al F B ρ (k p) (k' q)):bN P Al F B π (program>>=k) (program>>=k'):=
 .program a (h π P P ok (λ_ _ x=>x) ⟨rfl,rfl⟩)
def Kx {s s'}(h:∀v es,∃hl w e,s.runT P v es=(.halt hl w,e)/\Fatal hl):bN P Al F A π s s':= .dead h
def bB (t):bN P Al F (λ_ a b=>a=b/\P.underlying t=aA a) π (underlying t) (underlying t):=by
 refine dU (λ_ _=>rfl) ?_;rintro f p q ok g ⟨e,c⟩;rw[e,c];cases h:P.underlying t with
 |none=>exact aT
 |some d=>exact aS ⟨rfl,rfl⟩
def eN (t):bN P Al F (λ_ a b=>a=b/\P.info? t=aA a) π (typeInfo t) (typeInfo t):=by
 refine dU (λ_ _=>rfl) ?_;rintro f p q ok g ⟨e,c⟩;rw[e,c];cases h:P.info? t with
 |none=>exact aT
 |some d=>exact aS ⟨rfl,rfl⟩
def bU (t):bN P Al F ER π (sizeOf t) (sizeOf t):=by refine aR _ (eN t) ?_;rintro b a _ ok h ⟨rfl,_⟩;exact aS rfl
def KT (t):bN P Al F ER π (isAgg t) (isAgg t):=by refine aR _ (bB t) ?_;rintro b a _ ok h ⟨rfl,_⟩;cases a<;>exact aS rfl
def fV (d:IX P){t:zD}(c:t<P.types.size):bN P Al F (VR Al) π (zeroValue t) (zeroValue t):=by
 refine aR _ (eN t) ?_;rintro b a _ ok e ⟨rfl,hi⟩;cases h:a.zero with
 |none=>exact aU
 |some z=>exact aS (d.zero t a z c hi h Al b)
def RS {a a'}(h:bT π a a')(m):bN P Al F (VR Al) π (load a m) (load a' m):= .load h λ_ _ b=> .pure b
def wR {a a'}(h:bT π a a')(n):∀(i){acc b},aY Al π acc b->bN P Al F (ag Al) π (loadCellsFrom a i n acc) (loadCellsFrom a' i n b):=by
 induction n with
 |zero=>intro i acc b c;exact aS c
 |succ n d=>intro i acc b c;exact .load (h.add i) λv f e=>d (i+1) (c.push e)
def pJ {a a'}(h:bT π a a')(n):bN P Al F (ag Al) π (loadCells a n) (loadCells a' n):=wR h n 0 .nil
def bY {x a:zY}{l c:zV}(h:aY Al π (x::l).toArray (a::c).toArray):bF Al π x a/\aY Al π l.toArray c.toArray:=
 ⟨h.at' 0 x a (by simp) (by simp),by have:=h.size;simp at this⊢;exact this,λi v d e b=>h.at' (i+1) v d (by simpa using e) (by simpa using b)⟩
def kP:∀(l b){a d}(i),bT π a d->aY Al π l.toArray b.toArray->bN P Al F ER π (storeCells a l i) (storeCells d b i):=by
 intro l;induction l with
 |nil=>
  intro b a d i h c;have:=c.size;cases b with
  |nil=>exact aS rfl
  |cons _ _=>simp at this
 |cons x l e=>
  intro b a d i h c;cases b with
  |nil=>have:=c.size;simp at this
  |cons j b=>obtain⟨g,f⟩:=bY c;exact .store (h.add i) g (e b (i+1) h f)
def BP {a a'}(h:bT π a a')(t):bN P Al F (VR Al) π (loadVar t a) (loadVar t a'):=by
 refine aR _ (KT t) ?_;rintro k b _ ok e rfl;cases b with
 |false=>exact RS (h.mono e) _
 |true=>refine aR _ (bU t) ?_;rintro j n _ ok d rfl;refine aR _ (pJ ((h.mono e).mono d) n) ?_;intro i c c' ok g f;exact aS (.agg f.size f.at')
def toArray_toList (c:zA):c.toList.toArray=c:=by simp
def NS {a a'}(h:bT π a a'){x b}(f:bF Al π x b)(t):bN P Al F ER π (storeVar t a x) (storeVar t a' b):=by
 have d:=f.cells;refine aR _ (bU t) ?_;rintro g n _ ok c rfl;rw[d.size];by_cases e:x.cells.size=n
 .simp only[e,ne_eq,not_true_eq_false,zDc];exact kP _ _ 0 (h.mono c) (by rw[toArray_toList,toArray_toList];exact d.mono c)
 .simp only[e,ne_eq,not_false_eq_true,zCq];exact aT
def lE {c c'}(h:aY Al π c c')(ty):bN P Al F AR π (newRow ty c) (newRow ty c'):= .new h λ_ _ _ _ _ a=> .pure ⟨a,rfl,rfl⟩
def vL {x a}(h:bF Al π x a)(ty):bN P Al F AR π (newVar ty x) (newVar ty a):=lE h.cells ty
def jG {c c'}(h:aY Al π c c')(t)(off):bN P Al F (VR Al) π (part t c off) (part t c' off):=by
 refine aR _ (KT t) ?_;rintro j b _ ok d rfl;cases b with
 |true=>refine aR _ (bU t) ?_;rintro i n _ ok a rfl;have:=((h.mono d).mono a).extract off (off+n);exact aS (.agg this.size this.at')
 |false=>obtain⟨e,_⟩|⟨x,k,e,g,f⟩:=h.get off;{simp only[e];exact aT};{simp only[e,g];exact aS (f.mono d)}
def eA:bF Al π (.tuple #[]) (.tuple #[]):= .tuple rfl (by simp)
def lW {x a}(h:bF Al π x a):bN P Al F ER π (asIntOf x) (asIntOf a):=by
 cases h with
 |int k n=>exact aS rfl
 |pointer b=>cases b with
  |none=>exact aT
  |some _=>exact aU
 |_=>exact aT
def nG {x b}(h:bF Al π x b):bN P Al F ER π (asInt x) (asInt b):=by refine aR _ (lW h) ?_;rintro c a _ ok d rfl;exact aS rfl
def EX {x a}(h:bF Al π x a):bN P Al F ER π (asBool x) (asBool a):=by
 cases h with
 |bool b=>exact aS rfl
 |_=>exact aT
def Fp {x a}(h:bF Al π x a):bN P Al F (ag Al) π (asAgg x) (asAgg a):=by
 cases h with
 |agg c b=>exact aS ⟨c,b⟩
 |_=>exact aT
def kO {x a}(h:bF Al π x a):bN P Al F AR π (Instr.sureAddr x) (Instr.sureAddr a):=by
 cases h with
 |pointer b=>cases b with
  |none=>exact aT
  |some h=>exact aS h
 |_=>exact aT
def iN {s:Rn->α->β->Prop}:bN P Al F s π (aEG .nilDeref) (aEG .nilDeref):=by refine dU (λ_ _=>rfl) ?_;rintro b p q ok c ⟨a,h⟩;rw[a,h];exact nF (.iface _ (.string _))
def dB (m){s:Rn->α->β->Prop}:bN P Al F s π (aEG (.error m)) (aEG (.error m)):=by refine dU (λ_ _=>rfl) ?_;rintro b p q ok c ⟨a,h⟩;rw[a,h];exact nF (.iface _ (.string _))
def wM (x y)(t)(c:BoundsCode){s:Rn->α->β->Prop}:bN P Al F s π (aEG (.bounds x y t c)) (aEG (.bounds x y t c)):=by
 refine dU (λ_ _=>rfl) ?_;rintro g p q ok j ⟨f,d⟩;rw[f,d];refine nF (.iface _ (.agg rfl ?_));intro i v b a h;have e:v=b:=by rw[a]at h;exact zAk h
 subst e;have:i=0\/i=1\/i=2\/i=3:=by have:=(zAa.1 a).1;simp at this;omega
 obtain rfl|rfl|rfl|rfl:=this<;>simp at a<;>subst a<;>constructor
def eV (k:IntKind)(x y)(c:BoundsCode){s:Rn->α->β->Prop}:bN P Al F s π (boundsPanic k x y c) (boundsPanic k x y c):=by
 unfold boundsPanic;split
 .refine aR ER ?_ ?_
  .skip;refine aR ER (fW _) ?_;rintro b a _ ok h rfl;exact aS rfl
  .rintro b a _ ok h rfl;exact wM _ _ _ _
 .refine aR ER (aS rfl) ?_;rintro b a _ ok h rfl;exact wM _ _ _ _
def EY {x a}(h:bF Al π x a):bN P Al F AR π (asAddr x) (asAddr a):=by
 cases h with
 |pointer b=>cases b with
  |none=>exact iN
  |some h=>exact aS h
 |_=>exact aT
end
section
variable(P:zZ)(fs:Array Func)
def jF:∀(d:Nat)(t:zD)(off:Nat),byteOfCell ⟨P.toTables,fs⟩ d t off=byteOfCell P d t off
 |0,_,_=>rfl
 |d+1,t,off=>by unfold byteOfCell;simp only[jF d];rfl
def uQ:∀(d:Nat)(t:zD)(off:Nat),cellOfByte ⟨P.toTables,fs⟩ d t off=cellOfByte P d t off
 |0,_,_=>rfl
 |d+1,t,off=>by unfold cellOfByte;simp only[uQ d];rfl
def sJ (d)(e)(c o)(b):cellAtBytes ⟨P.toTables,fs⟩ d e c o b=cellAtBytes P d e c o b:=by unfold cellAtBytes;simp only[jF,uQ];rfl
def RH:∀(d:Nat)(t u:zD),Program.alikeButTags ⟨P.toTables,fs⟩ d t u=P.alikeButTags d t u
 |0,_,_=>rfl
 |d+1,t,u=>by unfold Program.alikeButTags;simp only[RH d]
def NL (t):Program.stoodInAs ⟨P.toTables,fs⟩ t=P.stoodInAs t:=by unfold Program.stoodInAs;simp only[RH];rfl
def kM (t):Program.stoodInHeld ⟨P.toTables,fs⟩ t=P.stoodInHeld t:=by unfold Program.stoodInHeld;rw[NL]
def rN:∀(d:Nat)(t:zD),Program.holdsStoodIn ⟨P.toTables,fs⟩ d t=P.holdsStoodIn d t
 |0,_=>rfl
 |d+1,t=>by unfold Program.holdsStoodIn;simp only[rN d,kM];rfl
def sH:∀(d:Nat)(t:zD),Program.eqGuardType ⟨P.toTables,fs⟩ d t=P.eqGuardType d t
 |0,_=>rfl
 |d+1,t=>by unfold Program.eqGuardType;simp only[sH d];rfl
def RE (fits:zD->Bool):∀(d:Nat)(e:zD)(c o n:Nat),rowAt ⟨P.toTables,fs⟩ fits d e c o n=rowAt P fits d e c o n
 |0,_,_,_,_=>rfl
 |d+1,e,c,o,n=>by unfold rowAt;simp only[RE fits d,kM];rfl
def uP:∀(d:Nat)(t u:zD),sameLayout ⟨P.toTables,fs⟩ d t u=sameLayout P d t u
 |0,_,_=>rfl
 |d+1,t,u=>by unfold sameLayout;simp only[uP d,kM];rfl
def KQ:∀(d:Nat)(e:zD)(c o:Nat)(u:zD)(n:Nat),liesAt ⟨P.toTables,fs⟩ d e c o u n=liesAt P d e c o u n
 |0,_,_,_,_,_=>rfl
 |d+1,e,c,o,u,n=>by unfold liesAt;simp only[KQ d,RE,uP];rfl
end
section
variable {P:zZ}{Al:zF}{F:Kp}{π:Rn}{α β γ δ:Type}{A:Rn->α->β->Prop} [ok:Ok P π]
def fQ {r r'}(h:π r r'):bN P Al F ER π (shape r) (shape r'):= .shape h λ_=> .pure rfl
def lF (hF:∀b,¬F b){a a'}(h:bT π a a'):bN P Al F ER π (frozen a) (frozen a'):= .frozen hF h λ_=> .pure rfl
def XT (hF:∀b,¬F b){a a'}(h:bT π a a')(n):bN P Al F ER π (freeze a n) (freeze a' n):= .freeze hF h (.pure rfl)
def sN (n):bN P Al F ER π (askRoom n) (askRoom n):=by
 unfold askRoom;split
 .exact .mark (aG rfl) (.pure rfl)
 .exact .pure rfl
inductive Qp (π:Rn):Option (Addr×zD)->Option (Addr×zD)->Prop
 |none:Qp π aB aB
 |some {a a':Addr} {t:zD} (h:bT π a a'):Qp π (aA (a,t)) (aA (a',t))
def qN {r r'}(h:π r r'):bN P Al F Qp π (viewAt r) (viewAt r'):=by
 refine aR _ (fQ h) ?_;rintro e s _ ok c rfl;cases s with
 |some x=>exact aS .none
 |none=>
  refine .getObj (c _ _ h) ?_;rintro o g (⟨b,a⟩|⟨x,f,b,a,d⟩)
  .rw[a];cases o with
   |view x u=>exact absurd rfl (b.2.1 x u)
   |_=>exact .pure .none
  .cases b;cases a;cases d with
   |view h u _=>exact .pure (.some h)
   |number h l=>exact .pure .none
def nO {a a'}(h:bT π a a'):bN P Al F ER π (noView a) (noView a'):=by
 refine aR _ (qN h.1) ?_;intro c s d ok e b;cases b with
 |none=>exact aS rfl
 |some _=>exact aU
def uU (hF:∀b,¬F b){a a'}(h:bT π a a'):bN P Al F ER π (stringish a) (stringish a'):=by
 refine aR _ (lF hF h) ?_;rintro f b _ ok d rfl;cases b with
 |true=>exact aS rfl
 |false=>
  refine aR _ (fQ (d _ _ h.1)) ?_;rintro e s _ ok c rfl;cases s with
  |none=>exact aS rfl
  |some x=>exact lF hF ⟨c _ _ (d _ _ h.1),rfl,rfl⟩
def wP (hF:∀b,¬F b){a a' b b'}(h:bT π a a')(k:bT π b b'):bN P Al F ER π (mayBeOne a b) (mayBeOne a' b'):=by
 have n:∀(d:Rn)(x f:Addr),Ok P d->bT d x f->bN P Al F ER d (do pure ((<-shape x.block) matches aA (_,0))) (do pure ((<-shape f.block) matches aA (_,0))):=by intro d x f ok m;refine aR _ (fQ m.1) ?_;rintro i s _ ok u rfl;exact aS rfl
 refine aR _ (uU hF h) ?_;rintro d s1 _ ok c rfl;refine aR _ (uU hF (k.mono c)) ?_;rintro i s2 _ ok e rfl;have p:=(h.mono c).mono e;have l:=(k.mono c).mono e;refine aR ER (n i _ _ ok p) ?_;rintro j t _ ok g rfl;refine aR ER (n j _ _ ok (l.mono g)) ?_;rintro q r _ ok o rfl;exact aS rfl
def addr_eq (ok:Ok P π){a a' b b'}(h:bT π a a')(k:bT π b b'):(a'=b'↔a=b):=by
 have:=ok.inj h.1 k.1;obtain⟨_,f,d⟩:=h;obtain⟨_,k2,c⟩:=k;constructor
 .intro e;cases a;cases b;cases a';cases b';cases e;simp_all
 .intro e;cases a;cases b;cases a';cases b';cases e;simp_all
end
section
variable {P:zZ}{Al:zF}{F:Kp}{π:Rn}{α β γ δ:Type}{A:Rn->α->β->Prop} [ok:Ok P π]
inductive Qq (π:Rn):Option (Addr×Bool)->Option (Addr×Bool)->Prop
 |none:Qq π aB aB
 |some {a a':Addr} {t:Bool} (h:bT π a a'):Qq π (aA (a,t)) (aA (a',t))
def wO {r r'}(h:π r r'):bN P Al F Qq π (numberAt r) (numberAt r'):=by
 refine aR _ (fQ h) ?_;rintro e s _ ok c rfl;cases s with
 |some x=>exact aS .none
 |none=>
  refine .getObj (c _ _ h) ?_;rintro o g (⟨b,a⟩|⟨x,f,b,a,d⟩)
  .rw[a];cases o with
   |number x u=>exact absurd rfl (b.2.2.1 x u)
   |_=>exact .pure .none
  .cases b;cases a;cases d with
   |view h u _=>exact .pure .none
   |number h l=>exact .pure (.some h)
def fB {a a'}(h:bT π a a'):bN P Al F (λb (x y:Addr×Bool)=>bT b x.1 y.1/\x.2=y.2) π (behindNumber a) (behindNumber a'):=by
 refine aR _ (wO h.1) ?_;intro b s e ok d c;cases c with
 |none=>exact aS ⟨h.mono d,rfl⟩
 |some h=>exact aS ⟨h,rfl⟩
def wV {a a':Addr}(h:bT π a a')(l:Bool):bN P Al F (VR Al) π (asNumber a l) (asNumber a' l):=
 .view (.number h l) λc r d _ _ b=> .pure (.pointer (.some ⟨b,rfl,rfl⟩))
def uI (ok:Ok P π){a a' b b'}(h:bT π a a')(k:bT π b b'):(a'.block==b'.block)=(a.block==b.block):=by
 have:=ok.inj h.1 k.1;by_cases e:a.block=b.block
 .simp[e,this.1 e]
 .have c:a'.block≠b'.block:=λq=>e (this.2 q);rw[zDx e,zDx c]
def yL (ok:Ok P π){a a' b b'}(h:bT π a a')(k:bT π b b'):(a'==b')=(a==b):=by
 have:=addr_eq ok h k;by_cases e:a=b
 .have c:=this.2 e;simp[e,c]
 .have c:a'≠b':=λq=>e (this.1 q);rw[zDx e,zDx c]
def JH (hF:∀b,¬F b){a a' b b'}(h:bT π a a')(k:bT π b b'):bN P Al F ER π (sameAddr a b) (sameAddr a' b'):=by
 unfold sameAddr;rw[uI ok h k,yL ok h k];split
 .exact aS rfl
 .refine aR _ (lF hF h) ?_;rintro s s1 _ ok d rfl;refine aR _ (lF hF (k.mono d)) ?_;rintro r s2 _ ok f rfl;have i:=(h.mono d).mono f;have g:=(k.mono d).mono f;split
  .exact aU
  .refine aR _ (nO i) ?_;rintro q _ _ ok c rfl;refine aR _ (nO (g.mono c)) ?_;rintro p _ _ ok e rfl;refine aR _ (wP hF ((i.mono c).mono e) ((g.mono c).mono e)) ?_;rintro o t _ ok l rfl;split
   .refine aR _ (fW _) ?_;rintro m n _ ok j rfl;exact aS rfl
   .exact aS rfl
def wL (g:F.cmp\/∀b,¬F b){a a' b b'}(h:bT π a a')(k:bT π b b'):bN P Al F ER π (sameAddr a b) (sameAddr a' b'):=by
 by_cases f:F.cmp/\∃x,F x
 .have:=bN.same (P:=P) (Al:=Al) (A:=ER) (k':=λt=> .pure t) f h k (λt=> .pure rfl);have e:∀(s:Sem Bool),(s>>=λt=> .pure t)=s:=λs=>by
   show s.bind _=s;induction s with
   |pure a=>rfl
   |load m a k i=>simp only[Sem.bind,i]
   |store m a x k i=>simp only[Sem.bind,i]
   |new o k i=>simp only[Sem.bind,i]
   |shape r k i=>simp only[Sem.bind,i]
   |freeze a n k i=>simp only[Sem.bind,i]
   |frozen a k i=>simp only[Sem.bind,i]
   |getObj r k i=>simp only[Sem.bind,i]
   |setObj r o k i=>simp only[Sem.bind,i]
   |choose q k i=>simp only[Sem.bind,i]
   |sys c k i=>simp only[Sem.bind,i]
   |program k i=>simp only[Sem.bind,i]
   |mark m k i=>simp only[Sem.bind,i]
   |halt h=>rfl
  rwa [e,e]at this
 .exact JH (λb d=>g.elim (λc=>f ⟨c,b,d⟩) λc=>c b d) h k
omit ok in
def bN.weaken {A B:Rn->α->β->Prop}{s:Sem α}{s':Sem β}(h:bN P Al F A π s s')(d:∀ρ a b,A ρ a b->B ρ a b):bN P Al F B π s s':=by
 induction h with
 |pure h=>exact .pure (d _ _ _ h)
 |load h _ i=>exact .load h i
 |store h c _ i=>exact .store h c i
 |new h _ i=>exact .new h i
 |marked hC h _ i=>exact .marked hC h i
 |view h _ i=>exact .view h i
 |getObj h _ i=>exact .getObj h i
 |shape h _ i=>exact .shape h i
 |freeze hF h _ i=>exact .freeze hF h i
 |frozen hF h _ i=>exact .frozen hF h i
 |share h _ i=>exact .share h i
 |same e h f _ i=>exact .same e h f i
 |choose _ i=>exact .choose i
 |program he _ i=>exact .program he i
 |mark hm _ i=>exact .mark hm i
 |env _ i=>exact .env i
 |panic h=>exact .panic h
 |dead h=>exact .dead h
def iF {m S}(G:∀(ρ e) s s',(∀x y,ρ x y->e x y)->S ρ s s'->S e s s'):∀(l c:List γ)(E:Rn->γ->γ->Prop),(∀(ρ e) s s',(∀x y,ρ x y->e x y)->E ρ s s'->E e s s')->c.length=l.length->(∀(i:Nat) a b,l[i]? =aA a->c[i]? =aA b->E π a b)->∀(s s':m)(f j:γ->m->Sem (ForInStep m)),S π s s'->
  (∀(ρ) a b t k,Ok P ρ->(∀x y,π x y->ρ x y)->E ρ a b->S ρ t k->bN P Al F (λρ x y=>(∃u d,x= .yield u/\y= .yield d/\S ρ u d)\/(∃u d,x= .done u/\y= .done d/\S ρ u d)) ρ (f a t) (j b k))->
  bN P Al F S π (forIn l s f) (forIn c s' j):=by
 intro l;induction l generalizing π with
 |nil=>
  intro c E v hl r s s' f j p q;cases c with
  |nil=>exact aS p
  |cons _ _=>simp at hl
 |cons a l z=>
  intro c E v hl r s s' f j p q;cases c with
  |nil=>simp at hl
  |cons b c=>rw[List.forIn_cons,List.forIn_cons];refine aR _ (q π a b s s' ok (λ_ _ x=>x) (r 0 a b (by simp) (by simp)) p) ?_;intro ρ x y w h g;obtain⟨u,d,rfl,rfl,n⟩|⟨u,d,rfl,rfl,n⟩:=g;{exact z c E v (by simpa using hl) (λi a b C B=>v π ρ a b h (r (i+1) a b (by simpa using C) (by simpa using B))) u d f j n λe a b t k o D=>q e a b t k o λx y g=>D _ _ (h _ _ g)};{exact aS n}
def wS (op:BinOp)(k:IntKind)(x y):bN P Al F (VR Al) π (Op.intArith op k x y) (Op.intArith op k x y):=by unfold Op.intArith;cases op<;>first|exact aS (.int _ _)|exact aT
def XR (op:BinOp)(k:IntKind)(x y):bN P Al F (VR Al) π (Op.intDiv op k x y) (Op.intDiv op k x y):=by
 unfold Op.intDiv;split
 .exact dB _
 .cases op<;>first|exact aS (.int _ _)|exact aT
def BR (op:BinOp)(k:IntKind)(x y):bN P Al F (VR Al) π (Op.intBits op k x y) (Op.intBits op k x y):=by unfold Op.intBits;cases op<;>first|exact aS (.int _ _)|exact aT
def Ff (op:BinOp)(k:IntKind)(x)(a:IntKind)(y):bN P Al F (VR Al) π (Op.shift op k x a y) (Op.shift op k x a y):=by
 unfold Op.shift;split
 .exact dB _
 .cases op<;>first|exact aS (.int _ _)|exact aT
def XS (op:BinOp)(x y):bN P Al F (VR Al) π (Op.intCmp op x y) (Op.intCmp op x y):=by unfold Op.intCmp;cases op<;>first|exact aS (.bool _)|exact aT
def wK (op:BinOp)(x y):bN P Al F (VR Al) π (Op.stringOp op x y) (Op.stringOp op x y):=by
 unfold Op.stringOp;cases op<;>dsimp only<;>first|exact aS (.bool _)|exact aT|skip
 by_cases h:((x.size+y.size:Nat):Int)>IntKind.i64.max
 .rw[zAq h];exact aU
 .rw[zAn h];exact aS (.string _)
def fI {a a'}(h:bT π a a'):bN P Al F ER π (byteOf a) (byteOf a'):=by
 unfold byteOf;rw[h.2.2];cases d:a.spot with
 |some s=>exact aS rfl
 |none=>
  refine dU (λm _=>by simp only[jF];rfl) ?_;rintro l p q ok d ⟨i,g⟩;rw[i,g];refine aR _ (nO (h.mono d)) ?_;rintro k _ _ ok c rfl;refine aR _ (fQ (c _ _ (d _ _ h.1))) ?_;rintro j s _ ok f rfl;cases s with
  |none=>exact aT
  |some x=>
   obtain⟨e,n⟩:=x;dsimp only;rw[h.2.1];split;{exact aS rfl}
   .cases byteOfCell P P.depth e (a.off%P.cellsOf e)with
    |none=>exact aT
    |some b=>exact aS rfl
def CQ {c}(l:Array γ)(s:c)(f f':γ->c->Sem (ForInStep c))
  (g:∀(ρ) a t,Ok P ρ->(∀x y,π x y->ρ x y)->bN P Al F ER ρ (f a t) (f' a t)):bN P Al F ER π (forIn l s f) (forIn l s f'):=by
 rw[<-zEv,<-zEv];refine iF (λ_ _ _ _ _ h=>h) l.toList l.toList ER (λ_ _ _ _ _ h=>h) rfl (λi a b j d=>by rw[j]at d;exact zAk d) s s f f' rfl ?_;rintro ρ a _ t _ ok e rfl rfl;have:=g ρ a t ok e;exact bN.weaken this λc x y h=>by subst h;cases x with
  |yield u=>exact aG ⟨u,u,rfl,rfl,rfl⟩
  |done u=>exact aH ⟨u,u,rfl,rfl,rfl⟩
def yY {c}(l:Array γ)(s:c)(f f':γ->c->Sem (ForInStep c))
  (j:∀(ρ) a t,a∈l.toList->Ok P ρ->(∀x y,π x y->ρ x y)->bN P Al F ER ρ (f a t) (f' a t)):bN P Al F ER π (forIn l s f) (forIn l s f'):=by
 rw[<-zEv,<-zEv];refine iF (λ_ _ _ _ _ h=>h) l.toList l.toList (λ_ a b=>a=b/\a∈l.toList) (λ_ _ _ _ _ h=>h) rfl (λi a b e d=>by rw[e]at d;exact⟨zAk d,zDb e⟩) s s f f' rfl ?_;rintro ρ a _ t _ ok g ⟨rfl,hm⟩ rfl;have:=j ρ a t hm ok g;exact bN.weaken this λc x y h=>by subst h;cases x with
  |yield u=>exact aG ⟨u,u,rfl,rfl,rfl⟩
  |done u=>exact aH ⟨u,u,rfl,rfl,rfl⟩
def XQ (t:zD){a a' b b':Addr}(c:bT π a a')(d:bT π b b'):bN P Al F ER π
  (do
   let(a,b):=((<-behindNumber a).1,(<-behindNumber b).1)
   if a.block==b.block&&a.block<(<-program).globals.size then return(<-byteOf a)==(<-byteOf b)
   let .named "sync.copyChecker" _:=(<-typeInfo t).desc|unsupported .addressObserved
   if a==b then pure aE else unsupported .addressObserved)
  (do
   let(a,b):=((<-behindNumber a').1,(<-behindNumber b').1)
   if a.block==b.block&&a.block<(<-program).globals.size then return(<-byteOf a)==(<-byteOf b)
   let .named "sync.copyChecker" _:=(<-typeInfo t).desc|unsupported .addressObserved
   if a==b then pure aE else unsupported .addressObserved):=by
 refine aR _ (fB c) ?_;rintro y ⟨a,q⟩ ⟨a',_⟩ ok o ⟨c,rfl⟩;refine aR _ (fB (d.mono o)) ?_;rintro x ⟨b,q⟩ ⟨b',_⟩ ok g ⟨d,rfl⟩;replace c:=c.mono g;dsimp only at c d⊢;refine dU (λ_ _=>rfl) ?_;rintro w p q ok f ⟨s,r⟩;rw[s,r];replace c:=c.mono f;replace d:=d.mono f;have u:decide (a'.block<P.globals.size)=decide (a.block<P.globals.size):=by
  by_cases h:a.block<P.globals.size;{have:=ok.base c.1 (aG (aEK h));simp[<-this]}
  .by_cases j:a'.block<P.globals.size
   .have:=ok.base c.1 (aH (aEK j));simp[<-this]
   .simp[h,j]
 rw[uI ok c d,yL ok c d,u];split
 .refine aR _ (fI c) ?_;rintro k n _ ok e rfl;refine aR _ (fI (d.mono e)) ?_;rintro v m _ ok l rfl;exact aS rfl
 .refine aR _ (eN t) ?_;rintro k i _ ok e ⟨rfl,_⟩;split
  .split
   .exact aS rfl
   .exact aU
  .exact aU
def Basic (P:zZ)(t:zD):Prop:=P.underlying t=aA .bool\/(∃k,P.underlying t=aA (.int k))\/P.underlying t=aA .string
def tQ (P:zZ)(t:zD)(x y:zY):Prop:=(∃e,P.underlying t=aA (.pointer e))/\∀a b,x= .pointer (aA a)->y= .pointer (aA b)->a.block=b.block
def RP [ok:Ok P π] {a a' b b'}(h:bT π a a')(k:bT π b b')(e:a.block=b.block):bN P Al F ER π (sameAddr a b) (sameAddr a' b'):=by have c:=(ok.inj h.1 k.1).1 e;unfold sameAddr;simp only[e,c,BEq.rfl,zCq];rw[yL ok h k];exact aS rfl
def IP (P:zZ):Nat->zD->Prop
 |0,_=>True
 |d+1,t=>match P.underlying t with
  |some (.func _ _ _)=>False
  |some (.struct a)=>∀f∈a.toList,IP P d f.type
  |some (.array _ e)=>IP P d e
  |some (.interface _)=>False
  |_=>True
def BT:∀(d){π} [Ok P π] (t){x T y S},IP P d t->((F.cmp\/∀b,¬F b)\/Basic P t\/tQ P t x y)->bF Al π x T->bF Al π y S->bN P Al F ER π (Op.equalIn d t x y) (Op.equalIn d t T S):=by
 intro d;induction d with
 |zero=>intro π ok t x T y S J V o j;exact aU
 |succ d Y=>
  intro π ok t x T y S J V o j;refine aR _ (bB t) ?_;rintro ρ u _ ok Z ⟨rfl,hu⟩;unfold IP at J;rw[hu]at J;replace o:=o.mono Z;replace j:=j.mono Z;have I:u≠.bool->(∀k,u≠.int k)->u≠.string->(∀e,u≠.pointer e)->F.cmp\/∀b,¬F b:=λQ O N M=>V.resolve_right λh=>by obtain(h|⟨k,h⟩|h)|⟨⟨e,h⟩,_⟩:=h;{exact Q (zAk (hu.symm.trans h))};{exact O k (zAk (hu.symm.trans h))};{exact N (zAk (hu.symm.trans h))};{exact M e (zAk (hu.symm.trans h))}
  cases u with
  |bool=>cases o<;>first|exact aT|(cases j<;>first|exact aT|exact aS rfl)
  |string=>cases o<;>first|exact aT|(cases j<;>first|exact aT|exact aS rfl)
  |float k=>cases o<;>exact aT
  |complex k=>cases o<;>exact aT
  |int k=>
   cases o with
   |int k a=>
    cases j with
    |int k' b=>dsimp only;split<;>first|exact aS rfl|exact aT
    |pointer B=>
     cases B with
     |none=>exact aU
     |some _=>
      by_cases W:a=0;{subst W;exact aS rfl}
      .rename_i b b' _;have e1:∀(z:Addr),(match TypeDesc.int k,Value.int k a,Value.pointer (aA z)with| .int _,.int _ 0,.pointer (aA _)=>(0:Nat)|_,_,_=>1)=1:=by
        intro z;cases a with
        |ofNat n=>cases n with
         |zero=>exact absurd rfl W
         |succ n=>rfl
        |negSucc n=>rfl
       cases a with
       |ofNat n=>cases n with
        |zero=>exact absurd rfl W
        |succ n=>exact aU
       |negSucc n=>exact aU
    |_=>exact aT
   |pointer B=>
    cases B with
    |none=>cases j<;>exact aU
    |some s=>
     cases j with
     |pointer w=>
      cases w with
      |none=>exact aU
      |some l=>exact XQ t s l
     |int k' b=>
      cases b with
      |ofNat n=>cases n with
       |zero=>exact aS rfl
       |succ n=>exact aU
      |negSucc n=>exact aU
     |_=>exact aU
   |_=>cases j<;>first|exact aT|exact aU
  |pointer e=>
   have g:(F.cmp\/∀b,¬F b)\/tQ P t x y:=V.imp id λh=>h.resolve_left λh=>by obtain h|⟨k,h⟩|h:=h;{cases zAk (hu.symm.trans h)};{cases zAk (hu.symm.trans h)};{cases zAk (hu.symm.trans h)}
   cases o with
   |pointer B=>
    cases j with
    |pointer w=>
     cases B with
     |none=>cases w<;>exact aS rfl
     |some s=>
      cases w with
      |none=>exact aS rfl
      |some l=>
       refine aR _ (bU e) ?_;rintro X n _ ok K rfl;replace s:=s.mono K;replace l:=l.mono K;rw[yL ok s l];split
       .obtain g|g:=g
        .exact wL g s l
        .exact RP s l (g.2 _ _ rfl rfl)
       .split
        .exact aS rfl
        .refine aR _ (fW _) ?_;rintro R n _ ok C rfl;exact aS rfl
    |_=>cases B<;>exact aT
   |_=>exact aT
  |unsafePointer=>
   have g:=I (by simp) (by simp) (by simp) (by simp);cases o with
   |pointer B=>
    cases j with
    |pointer w=>
     cases B with
     |none=>cases w<;>exact aS rfl
     |some s=>
      cases w with
      |none=>exact aS rfl
      |some l=>exact wL g s l
    |_=>exact aT
   |_=>exact aT
  |chan dr e=>cases o<;>first|exact aT|(cases j<;>first|exact aT|exact aS rfl)
  |interface ms=>exact J.elim
  |struct fs=>
   have g:=I (by simp) (by simp) (by simp) (by simp);cases o with
   |agg Q O=>
    cases j with
    |agg N M=>
     refine dU (λfs _=>by simp only[kM]) ?_;rintro X p q ok C ⟨B,w⟩;rw[B,w];split;{exact aU}
     .refine aR ER (yY fs _ _ _ ?_) ?_
      .intro R f st L ok v;have E:=((aY.mk Q O).mono C).mono v;have D:=((aY.mk N M).mono C).mono v;split
       .refine aR _ (jG E f.type f.offset) ?_;intro υ a a' ok H s;refine aR _ (jG (D.mono H) f.type f.offset) ?_;intro φ b b' ok G l;refine aR _ (Y f.type (J f L) (aG g) (s.mono G) l) ?_;rintro χ r _ ok U rfl;split
        .exact aS rfl
        .exact aS rfl
       .exact aS rfl
      .rintro R r _ ok v rfl;dsimp only;split<;>exact aS rfl
    |_=>exact aT
   |_=>exact aT
  |array n e=>
   have g:=I (by simp) (by simp) (by simp) (by simp);cases o with
   |agg Q O=>
    cases j with
    |agg N M=>
     refine aR _ (bU e) ?_;rintro X k _ ok C rfl;rw[zDy,zDy];refine aR ER (bN.weaken (iF (λ_ _ _ _ _ h=>h) _ _ ER (λ_ _ _ _ _ h=>h) rfl (λi a b s l=>by rw[s]at l;exact zAk l) _ _ _ _ rfl ?_) (λ_ _ _ h=>h)) ?_
     .rintro R i _ st _ ok v rfl rfl;have E:=((aY.mk Q O).mono C).mono v;have D:=((aY.mk N M).mono C).mono v;refine aR _ (jG E e (i*k)) ?_;intro υ a a' ok H s;refine aR _ (jG (D.mono H) e (i*k)) ?_;intro φ b b' ok G l;refine aR _ (Y e J (aG g) (s.mono G) l) ?_;rintro χ r _ ok U rfl;split
      .exact aS (aH ⟨_,_,rfl,rfl,rfl⟩)
      .exact aS (aG ⟨_,_,rfl,rfl,rfl⟩)
     .rintro R r _ ok v rfl;dsimp only;split<;>exact aS rfl
    |_=>exact aT
   |_=>exact aT
  |slice e=>
   cases o with
   |slice B n c=>
    cases j with
    |slice w m c'=>
     cases B with
     |none=>cases w<;>exact aS rfl
     |some s=>
      cases w with
      |none=>exact aS rfl
      |some l=>exact aT
    |void=>cases B<;>first|exact aS rfl|exact aT
    |_=>cases B<;>exact aT
   |void=>
    cases j with
    |slice w m c'=>cases w<;>first|exact aS rfl|exact aT
    |_=>exact aT
   |_=>exact aT
  |map a b=>cases o<;>first|exact aT|(cases j<;>first|exact aT|exact aS rfl)
  |func a b c=>exact J.elim
  |_=>cases o<;>first|exact aT|(cases j<;>exact aT)
end
def Sm {P α t d}(h:P.underlying t=aA d)(f:TypeDesc->Sem α)(v)(es):(underlying t>>=f).runT P v es=(f d).runT P v es:=by show Sem.runT P (Sem.bind (match P.underlying t with|some d=>pure d|none=>stuck "no such type") f) v es=_;rw[h];rfl
def Sl {P α t}(h:P.underlying t=aB)(f:TypeDesc->Sem α)(v)(es):(underlying t>>=f).runT P v es=(.halt (.stuck "no such type") v,es):=by show Sem.runT P (Sem.bind (match P.underlying t with|some d=>pure d|none=>stuck "no such type") f) v es=_;rw[h];rfl
def mU {α:Type}(P:zZ)(s:Sem α):Prop:=∀v a,∃hl w e,s.runT P v a=(.halt hl w,e)/\Fatal hl
def tI {P α t}{f:TypeDesc->Sem α}(h:∀d,mU P (f d)):mU P (underlying t>>=f):=λv e=>by
 cases hu:P.underlying t with
 |none=>rw[Sl hu];exact⟨_,_,_,rfl,aG ⟨_,rfl⟩⟩
 |some d=>rw[Sm hu];exact h d v e
def oC {P α w}:mU P (stuck w:Sem α):=λ_ _=>⟨_,_,_,rfl,aG ⟨_,rfl⟩⟩
def rC {P:zZ}{α:Type}{u:Unsupported}(h:∀g,u≠.initOrder g:=by simp):mU P (unsupported u:Sem α):=λ_ _=>⟨_,_,_,rfl,aH ⟨u,rfl,h⟩⟩
def zK {P α γ t d}(h:P.underlying t=aA d)(f:TypeDesc->Sem α)(k:α->Sem γ)(v)(es):((underlying t>>=f)>>=k).runT P v es=(f d>>=k).runT P v es:=by show Sem.runT P (Sem.bind (Sem.bind (match P.underlying t with|some d=>pure d|none=>stuck "no such type") f) k) v es=_;rw[h];rfl
def CY {P α γ t}(h:P.underlying t=aB)(f:TypeDesc->Sem α)(k:α->Sem γ)(v)(es):((underlying t>>=f)>>=k).runT P v es=(.halt (.stuck "no such type") v,es):=by show Sem.runT P (Sem.bind (Sem.bind (match P.underlying t with|some d=>pure d|none=>stuck "no such type") f) k) v es=_;rw[h];rfl
def Ai {P γ t}(h:IP P Op.maxDepth t)(z y)(k:Bool->Sem γ)(v)(es):∃hl w e,((Op.equal t (.func (.method "") #[.iface 1000000 .nilIface] #[z]) y)>>=k).runT P v es=(.halt hl w,e)/\Fatal hl:=by
 obtain⟨m,a⟩:∃m,Op.maxDepth=m+1:=⟨Op.maxDepth-1,rfl⟩;unfold Op.equal;rw[a]at h⊢;unfold IP at h;unfold Op.equalIn;cases hu:P.underlying t with
 |none=>rw[CY hu];exact⟨_,_,_,rfl,aG ⟨_,rfl⟩⟩
 |some d=>rw[zK hu];rw[hu]at h;cases d<;>first|exact h.elim|exact⟨_,_,_,rfl,by simp⟩|(cases y<;>first|exact⟨_,_,_,rfl,by simp⟩|(rename_i q;cases q<;>exact⟨_,_,_,rfl,by simp⟩))
def XV {P Al F π γ β A t}(h:IP P Op.maxDepth t)(z y)(k:Bool->Sem γ){s':Sem β}:bN P Al F A π ((Op.equal t (.func (.method "") #[.iface 1000000 .nilIface] #[z]) y)>>=k) s':= .dead λv e=>Ai h z y k v e
section
variable {P:zZ}{Al:zF}{F:Kp}{π:Rn}{α β γ δ:Type}{A:Rn->α->β->Prop} [ok:Ok P π]
def uV:∀(d){π} [Ok P π] (t){x l y j},bF Al π x l->bF Al π y j->bN P Al F ER π (Op.eqGuardIn d t x y) (Op.eqGuardIn d t l j):=by
 intro d;induction d with
 |zero=>intro π ok t x l y j v o;exact aU
 |succ d J=>
  intro π ok t x l y j v o;refine aR _ (bB t) ?_;rintro T u _ ok K ⟨rfl,hu⟩;replace v:=v.mono K;replace o:=o.mono K;cases u with
  |interface ms=>
   cases v with
   |junk _ g=>cases l<;>first|exact g.elim|exact aS rfl
   |nilIface=>
    cases o with
    |junk _ g=>cases j<;>first|exact g.elim|exact aS rfl
    |_=>exact aS rfl
   |_=>first|exact aS rfl|(cases o<;>exact aS rfl)
  |struct O=>
   cases v with
   |agg I H=>
    cases o with
    |agg G E=>
     refine aR ER (CQ O _ _ _ ?_) ?_
     .intro C f st ok c;have p:=(aY.mk I H).mono c;have m:=(aY.mk G E).mono c;split
      .refine aR _ (jG p f.type f.offset) ?_;intro N a R ok s B;refine aR _ (jG (m.mono s) f.type f.offset) ?_;intro M b Q ok q w;refine aR _ (J f.type (B.mono q) w) ?_;rintro L r _ ok D rfl;split
       .exact aS rfl
       .exact aS rfl
      .exact aS rfl
     .rintro C r _ ok c rfl;dsimp only;split<;>exact aS rfl
    |junk _ g=>cases j<;>first|exact g.elim|exact aS rfl
    |_=>exact aS rfl
   |junk _ g=>cases l<;>first|exact g.elim|exact aS rfl
   |_=>exact aS rfl
  |array n e=>
   cases v with
   |agg I H=>
    cases o with
    |agg G E=>
     refine aR _ (bU e) ?_;rintro S k _ ok z rfl;rw[zDy,zDy];refine aR ER (bN.weaken (iF (λ_ _ _ _ _ h=>h) _ _ ER (λ_ _ _ _ _ h=>h) rfl (λi a b B w=>by rw[B]at w;exact zAk w) _ _ _ _ rfl ?_) (λ_ _ _ h=>h)) ?_
     .rintro C i _ st _ ok c rfl rfl;have p:=((aY.mk I H).mono z).mono c;have m:=((aY.mk G E).mono z).mono c;refine aR _ (jG p e (i*k)) ?_;intro N a R ok s B;refine aR _ (jG (m.mono s) e (i*k)) ?_;intro M b Q ok q w;refine aR _ (J e (B.mono q) w) ?_;rintro L r _ ok D rfl;split
      .exact aS (aH ⟨_,_,rfl,rfl,rfl⟩)
      .exact aS (aG ⟨_,_,rfl,rfl,rfl⟩)
     .rintro C r _ ok c rfl;dsimp only;split<;>exact aS rfl
    |junk _ g=>cases j<;>first|exact g.elim|exact aS rfl
    |_=>exact aS rfl
   |junk _ g=>cases l<;>first|exact g.elim|exact aS rfl
   |_=>exact aS rfl
  |_=>exact aS rfl
def RZ (op:BinOp)(t)(x y){a a' b b'}(o:bF Al π a a')(n:bF Al π b b'):bN P Al F ER π (eqGuard op t x y a b) (eqGuard op t x y a' b'):=by
 have main:bN P Al F ER π (eqGuard .eql t x y a b) (eqGuard .eql t x y a' b'):=by
  cases o;case junk _ g=>cases a'<;>first|exact g.elim|exact aS rfl
  all_goals first
   |exact aS rfl
   |(cases n
     case junk _ g=>cases b'<;>first|exact g.elim|exact aS rfl
     all_goals first|exact aS rfl|skip)
  .have k:bN P Al F ER π (do if<-Op.eqGuardIn Op.maxDepth t .nilIface .nilIface then unsupported (.noEntry "binop/eql: two nil values of an interface type with methods, neither of them the literal nil")) (do if<-Op.eqGuardIn Op.maxDepth t .nilIface .nilIface then unsupported (.noEntry "binop/eql: two nil values of an interface type with methods, neither of them the literal nil")):=by
    refine aR _ (uV _ t .nilIface .nilIface) ?_;rintro i r _ ok d rfl;split;{exact aU};{exact aS rfl}
   cases x<;>cases y<;>first|exact aS rfl|exact k
  .rename_i w v _ _ u s;refine dU (λE _=>by simp only[sH]) ?_;rintro i p q ok d ⟨m,l⟩;rw[m,l];refine dU (λ_ _=>rfl) ?_;rintro B D C ok c ⟨f,e⟩;rw[f,e];split
   .exact aS rfl
   .refine aR _ (uV _ t ((bF.agg w v).mono λ_ _ h=>c _ _ (d _ _ h)) ((bF.agg u s).mono λ_ _ h=>c _ _ (d _ _ h))) ?_;rintro z r _ ok j rfl;split
    .exact aU
    .exact aS rfl
 cases op with
 |eql=>exact main
 |neq=>exact main
 |_=>exact aS rfl
def ZK (ok:Ok P π){b b'}(h:π b b'):(b'≥P.globals.size↔b≥P.globals.size):=by
 constructor
 .intro c;obtain a|a:=zDf b P.globals.size
  .have:=ok.base h (aG (aEK a));omega
  .exact a
 .intro c;obtain a|a:=zDf b' P.globals.size
  .have:=ok.base h (aH (aEK a));omega
  .exact a
def uT {a a' b b'}(h:bT π a a')(c:bT π b b'):bN P Al F ER π (Op.twoPlaces a b) (Op.twoPlaces a' b'):=by
 refine dU (λ_ _=>rfl) ?_;rintro s p q ok e ⟨i,g⟩;rw[i,g];replace h:=h.mono e;replace c:=c.mono e;have l:(a'.block !=b'.block||decide (a'.block≥P.globals.size))=(a.block !=b.block||decide (a.block≥P.globals.size)):=by have k:=uI ok h c;have j:decide (a'.block≥P.globals.size)=decide (a.block≥P.globals.size):=by{simp only[ZK ok h.1]};unfold bne;rw[k,j]
 rw[l];split
 .exact aU
 .refine aR _ (fI h) ?_;rintro r n _ ok d rfl;refine aR _ (fI (c.mono d)) ?_;rintro o m _ ok f rfl;exact aS rfl
def SD (k:IntKind){a a' b b'}(c:bT π a a')(h:bT π b b'):bN P Al F (VR Al) π (Op.addrSub k a b) (Op.addrSub k a' b'):=by refine aR _ (uT c h) ?_;rintro d x _ ok e rfl;exact aS (.int _ _)
def SE (op:BinOp){a a' b b'}(c:bT π a a')(h:bT π b b'):bN P Al F (VR Al) π (Op.addrCmp op a b) (Op.addrCmp op a' b'):=by refine aR _ (uT c h) ?_;rintro d x _ ok e rfl;cases op<;>first|exact aS (.bool _)|exact aU
def sO (k:IntKind){a a'}(b:bT π a a')(n):bN P Al F (VR Al) π (Op.addrMod k a n) (Op.addrMod k a' n):=by
 refine aR _ (fQ b.1) ?_;rintro j s _ ok d rfl;cases s with
 |none=>exact aU
 |some x=>obtain⟨e,m⟩:=x;dsimp only;refine aR _ (eN e) ?_;rintro g i _ ok h ⟨rfl,_⟩;split;{exact aU};{refine aR _ (fI ((b.mono d).mono h)) ?_;rintro f n _ ok c rfl;exact aS (.int _ _)}
def th (ρ:Rn)(v v':zY):Prop:=∃p a,v= .pointer p/\v'= .pointer a/\vU ρ p a
def sL (at_)(t){x k y j}(v:bF Al π x k)(l:bF Al π y j):bN P Al F th π (Builtin.unsafeAdd_ at_ t #[x,y]) (Builtin.unsafeAdd_ at_ t #[k,j]):=by
 cases v with
 |pointer i=>
  cases i with
  |none=>
   refine aR _ (nG l) ?_;rintro u n _ ok f rfl;by_cases b:n=0;{rw[zAq b];exact aU}
   .rw[zAn b];by_cases d:n<0
    .rw[zAq d];exact aU
    .rw[zAn d];exact aU
  | @some a G c=>
   refine aR _ (nG l) ?_;rintro u n _ ok f rfl;by_cases b:n=0
   .rw[zAq b,zAq b];refine aR _ (qN (f _ _ c.1)) ?_;intro r s D ok h w;cases w with
    |none=>exact aS ⟨_,_,rfl,rfl,.some ((c.mono f).mono h)⟩
    |some _=>exact aU
   .rw[zAn b,zAn b];by_cases d:n<0
    .rw[zAq d];exact aU
    .rw[zAn d,zAn d];refine aR _ (fQ (f _ _ c.1)) ?_;rintro r s _ ok h rfl;cases s with
     |none=>exact aU
     |some z=>
      obtain⟨e,m⟩:=z;refine dU (λE _=>by simp only[sJ];rfl) ?_;rintro C p q ok g ⟨i,B⟩;rw[i,B,c.2.1];cases cellAtBytes P P.depth e (m/P.cellsOf e) a.off n with
      |none=>exact aU
      |some o=>exact aS ⟨_,_,rfl,rfl,.some ⟨g _ _ (h _ _ (f _ _ c.1)),rfl,c.2.2⟩⟩
 |_=>exact aT
def cC (at_)(t){x b y a}(d:bF Al π x b)(c:bF Al π y a):bN P Al F (VR Al) π (Builtin.unsafeAdd_ at_ t #[x,y]) (Builtin.unsafeAdd_ at_ t #[b,a]):=(sL at_ t d c).weaken λ_ _ _ ⟨_,_,e,f,h⟩=>by rw[e,f];exact .pointer h
def kN (t)(z y){s'}:bN P Al F (VR Al) π (Builtin.unsafeAdd_ #[] t #[(.func (.method "") #[.iface 1000000 .nilIface] #[z]),y]) s':=by exact aT
def jM (t){x f y e}(j:bF Al π x f)(h:bF Al π y e):bN P Al F (VR Al) π (movedNumber t x y) (movedNumber t f e):=by
 refine aR _ (bB t) ?_;rintro r u _ ok p ⟨rfl,_⟩;replace j:=j.mono p;replace h:=h.mono p;have g:bN P Al F (VR Al) r (do
   let .pointer (aA n):=x|Builtin.unsafeAdd_ #[] t #[x,y]
   let(a,lost)<-behindNumber n
   match<-Builtin.unsafeAdd_ #[] t #[.pointer (aA a),y]with
   | .pointer (aA b)=>asNumber b lost
   |v=>pure v) (do
   let .pointer (aA n):=f|Builtin.unsafeAdd_ #[] t #[f,e]
   let(a,lost)<-behindNumber n
   match<-Builtin.unsafeAdd_ #[] t #[.pointer (aA a),e]with
   | .pointer (aA b)=>asNumber b lost
   |v=>pure v):=by
  cases j with
  |pointer m=>
   cases m with
   |none=>exact cC #[] t (.pointer .none) h
   |some o=>
    refine aR _ (fB o) ?_;rintro K ⟨a,q⟩ ⟨O,_⟩ ok l ⟨o,rfl⟩;refine aR _ (sL #[] t (.pointer (.some o)) (h.mono l)) ?_;rintro J v M ok C ⟨_,_,rfl,rfl,m⟩;cases m with
    |none=>exact aS (.pointer .none)
    |some hb=>exact wV hb _
  |bool b=>exact cC #[] t (.bool b) h
  |int k n=>exact cC #[] t (.int k n) h
  |string s=>exact cC #[] t (.string s) h
  |slice y n c=>exact cC #[] t (.slice y n c) h
  |void E a=>exact cC #[] t (.void E a) h
  |func D d I B H G=>exact cC #[] t (.func D d I B H G) h
  |nilFunc=>exact cC #[] t .nilFunc h
  |iface w i=>exact cC #[] t (.iface w i) h
  |nilIface=>exact cC #[] t .nilIface h
  |jC=>exact cC #[] t .jC h
  |gL=>exact cC #[] t .gL h
  |agg d i=>exact cC #[] t (.agg d i) h
  |tuple d i=>exact cC #[] t (.tuple d i) h
  |junk L N=>exact kN t _ _
  |same hb z=>exact kN t _ _
 cases u<;>first|exact aU|exact g
def pZ (t){x b y a}(c:bF Al π x b)(h:bF Al π y a):bN P Al F (VR Al) π (movedPointer t x y) (movedPointer t b a):=by
 have f:=cC (P:=P) (F:=F) #[] t c h;unfold movedPointer;cases c with
 |pointer g=>
  cases g with
  |none=>exact f
  |some e=>
   refine aR _ (wO e.1) ?_;intro j s k ok d i;cases i with
   |none=>exact cC #[] t (.pointer (.some (e.mono d))) (h.mono d)
   |some _=>exact aU
 |junk v l=>exact kN t _ _
 |same hb z=>exact kN t _ _
 |_=>exact f
def Fo (op:BinOp)(t){x G y z}(Q:(op= .eql\/op= .neq)->IP P Op.maxDepth t)(T:(F.cmp\/∀b,¬F b)\/(op≠.eql/\op≠.neq)\/Basic P t\/tQ P t x y)(D:bF Al π x G)(m:bF Al π y z):bN P Al F (VR Al) π (binOp op t x y) (binOp op t G z):=by
 have f:op= .eql->bN P Al F (VR Al) π (do pure (.bool (<-Op.equal t x y))) (do pure (.bool (<-Op.equal t G z))):=λj=>by refine aR _ (BT _ t (Q (by simp[j])) (T.imp id λh=>h.elim (λh=>absurd j h.1) id) D m) ?_;rintro i r _ ok C rfl;exact aS (.bool _)
 have e:op= .neq->bN P Al F (VR Al) π (do pure (.bool (!(<-Op.equal t x y)))) (do pure (.bool (!(<-Op.equal t G z)))):=λj=>by refine aR _ (BT _ t (Q (by simp[j])) (T.imp id λh=>h.elim (λh=>absurd j h.2) id) D m) ?_;rintro i r _ ok C rfl;exact aS (.bool _)
 have X:=jM (P:=P) (F:=F) t D m;have W:=pZ (P:=P) (F:=F) t D m;have M:=jM (P:=P) (F:=F) t m D;have both:∀{a w b J:Addr},bT π a w->bT π b J->∀(g:Addr->Addr->Sem zY),(∀(i:Rn)(c c' d I:Addr),Ok P i->bT i c c'->bT i d I->bN P Al F (VR Al) i (g c d) (g c' I))->
   bN P Al F (VR Al) π (do g (<-behindNumber a).1 (<-behindNumber b).1) (do g (<-behindNumber w).1 (<-behindNumber J).1):=by
  intro a w b J s l g N
  refine aR _ (fB s) ?_
  rintro i ⟨a,q⟩ ⟨w,_⟩ ok C ⟨s,rfl⟩
  refine aR _ (fB (l.mono C)) ?_
  rintro U ⟨b,q⟩ ⟨J,_⟩ ok K ⟨l,rfl⟩
  exact N U _ _ _ _ ok (s.mono K) l
 have one:∀{a w:Addr},bT π a w->∀(g:Addr->Sem zY),(∀(i:Rn)(c c':Addr),Ok P i->bT i c c'->bN P Al F (VR Al) i (g c) (g c'))->
   bN P Al F (VR Al) π (do g (<-behindNumber a).1) (do g (<-behindNumber w).1):=by
  intro a w s g N
  refine aR _ (fB s) ?_
  rintro i ⟨a,q⟩ ⟨w,_⟩ ok C ⟨s,rfl⟩
  exact N i _ _ ok s
 cases D with
 |int k a=>
  cases m with
  |int V b=>
   unfold binOp;cases op;all_goals
    dsimp only
    first
    |exact Ff _ _ _ _ _
    |(by_cases S:k≠V
      .rw[zAq S];exact aT
      .rw[zAn S];first|exact wS _ _ _ _|exact XR _ _ _ _|exact BR _ _ _ _|exact XS _ _ _)
  |pointer o=>
   cases op<;>first|exact f rfl|exact e rfl|exact M|skip
   all_goals
    cases o with
    |none=>exact aU
    |some l=>
     first
     |exact one l (λc=>Op.addrMod k c (a+1)) (λi c c' ok v=>sO _ v _)
     |exact aU
  |junk H B=>cases z<;>first|exact B.elim|(cases op<;>first|exact f rfl|exact e rfl|exact aT)
  |_=>cases op<;>first|exact f rfl|exact e rfl|exact aT
 |string a=>
  cases m with
  |string b=>have:=wK (P:=P) (Al:=Al) (F:=F) (π:=π) op a b;cases op<;>exact this
  |pointer o=>cases op<;>first|exact f rfl|exact e rfl|exact aU
  |junk H B=>cases z<;>first|exact B.elim|(cases op<;>first|exact f rfl|exact e rfl|exact aT)
  |_=>cases op<;>first|exact f rfl|exact e rfl|exact aT
 | @pointer p R o=>
  cases m with
  |int k n=>
   have E:bN P Al F (VR Al) π (do if(<-underlying t) matches .unsafePointer then movedPointer t (.pointer p) (.int k n)else movedNumber t (.pointer p) (.int k n)) (do if(<-underlying t) matches .unsafePointer then movedPointer t (.pointer R) (.int k n)else movedNumber t (.pointer R) (.int k n)):=by refine aR _ (bB t) ?_;rintro i u _ ok C ⟨rfl,_⟩;cases u<;>first|exact pZ t (.pointer (o.mono C)) (.int k n)|exact jM t (.pointer (o.mono C)) (.int k n)
   cases op<;>first|exact f rfl|exact e rfl|exact E|exact jM t (.pointer o) (.int k (-n))|skip
   all_goals
    cases o with
    |none=>exact aU
    |some l=>
     first
     |exact one l (λc=>Op.addrMod k c n) (λi c c' ok v=>sO _ v _)
     |exact one l (λc=>Op.addrMod k c (n+1)) (λi c c' ok v=>sO _ v _)
     |exact aU
  |pointer L=>
   cases o with
   |none=>cases L<;>cases op<;>first|exact f rfl|exact e rfl|exact aU
   |some s=>
    cases L with
    |none=>cases op<;>first|exact f rfl|exact e rfl|exact aU
    |some l=>have Z:=both s l (λc d=>Op.addrSub aQ c d) (λi c c' d I ok v O=>SD _ v O);have Y:=both s l (λc d=>Op.addrCmp op c d) (λi c c' d I ok v O=>SE _ v O);cases op<;>first|exact f rfl|exact e rfl|exact Z|exact Y|exact aU
  |junk H B=>cases z<;>first|exact B.elim|(cases o<;>cases op<;>first|exact f rfl|exact e rfl|exact aU)
  |_=>cases o<;>cases op<;>first|exact f rfl|exact e rfl|exact aU
 |junk H B=>cases m;all_goals cases op<;>first|exact XV (Q (by simp)) _ _ _|exact aT|exact aU
 |_=>
  cases m with
  |pointer L=>cases op<;>first|exact f rfl|exact e rfl|exact aU
  |junk H B=>cases z<;>first|exact B.elim|(cases op<;>first|exact f rfl|exact e rfl|exact aT)
  |_=>cases op<;>first|exact f rfl|exact e rfl|exact aT
end
section
variable {P:zZ}{Al:zF}{F:Kp}{π:Rn}{α β γ δ:Type}{A:Rn->α->β->Prop} [ok:Ok P π]
def Fc (op:UnOp){x a}(h:bF Al π x a):bN P Al F (VR Al) π (Op.unary op x) (Op.unary op a):=by
 cases h with
 |int k n=>
  cases op with
  |neg=>exact wS (π:=π) .sub k 0 n
  |xor=>exact BR (π:=π) .xor k (if k.signed then-1 else k.max) n
  |_=>exact aT
 |bool b=>cases op<;>first|exact aS (.bool _)|exact aT
 |pointer c=>cases c<;>cases op<;>first|exact aU|exact aT
 |_=>cases op<;>exact aT
def Fq (e:IX P){t:zD}(b:t<P.types.size):bN P Al F (VR Al) π (Instr.alloc t aE (.tuple #[])) (Instr.alloc t aE (.tuple #[])):=by refine aR _ (fV e b) ?_;intro g z i ok j h;refine aR _ (vL h t) ?_;intro f a k ok c d;exact aS (.pointer (.some d))
def Sd (t){x b}(h:bF Al π x b):bN P Al F (VR Al) π (Instr.box t x) (Instr.box t b):=by refine aR _ (vL h t) ?_;intro e a f ok c d;exact aS (.pointer (.some d))
def vF (Al:zF)(π:Rn):List (Nat×zY)->List (Nat×zY)->Prop
 |[],[]=>True
 |x::l,a::b=>a.1=x.1/\bF Al π x.2 a.2/\vF Al π l b
 |_,_=>False
omit ok in
def vF.mono {ρ:Rn}(h:∀b b',π b b'->ρ b b'):∀{l a:List (Nat×zY)},vF Al π l a->vF Al ρ l a
 |[],[],_=>trivial
 |_::_,_::_,⟨e,d,c⟩=>⟨e,d.mono h,vF.mono h c⟩
omit ok in
def Oa (off):∀(l a:List (zY×Nat)){c c'},a.map (·.2)=l.map (·.2)->aY Al π (l.map (·.1)).toArray (a.map (·.1)).toArray->aY Al π c c'->
  aY Al π (l.foldl (λcs x=>cs.setIfInBounds (off+x.2) x.1) c) (a.foldl (λcs x=>cs.setIfInBounds (off+x.2) x.1) c'):=by
 intro l;induction l with
 |nil=>intro a c c' h d b;cases a with
  |nil=>exact b
  |cons _ _=>simp at h
 |cons x l i=>
  intro a c c' h d b;cases a with
  |nil=>simp at h
  |cons g a=>simp only[zDw,List.cons.injEq]at h;simp only[zDw]at d;obtain⟨f,e⟩:=bY d;simp only[zEx];rw[h.1];exact i a h.2 e (b.set f _)
omit ok in
def GU (place:Nat->Option (Nat×Nat)):∀(l b){c c'},vF Al π l b->aY Al π c c'->
  (Instr.fill place c l=aB/\Instr.fill place c' b=aB)\/∃d m,Instr.fill place c l=aA d/\Instr.fill place c' b=aA m/\aY Al π d m:=by
 intro l;induction l with
 |nil=>intro b c c' h e;cases b with
  |nil=>exact aH ⟨c,c',rfl,rfl,e⟩
  |cons _ _=>exact h.elim
 |cons x l q=>
  intro b c c' h e;cases b with
  |nil=>exact h.elim
  |cons n b=>
   obtain⟨i,v⟩:=x;obtain⟨r,o⟩:=n;obtain⟨j,g,s⟩:=h;simp only at j g;subst j;unfold Instr.fill;cases place r with
   |none=>exact aG ⟨rfl,rfl⟩
   |some p=>obtain⟨off,size⟩:=p;dsimp only;have f:=g.cells;rw[f.size,e.size];split;{exact aG ⟨rfl,rfl⟩};{refine q b s ?_;rw[<-aEA,<-aEA,aEB,aEB];have k:∀(a:zA),a.toList.zipIdx.map (·.1)=a.toList:=λa=>by{simp};have:=Oa off v.cells.toList.zipIdx o.cells.toList.zipIdx (by simp[List.zipIdx_map_snd,f.size]) (by rw[k,k,toArray_toList,toArray_toList];exact f) e;exact this}
def XU (fs:Array Field):bN P Al F ER π (fs.mapM λf=>do pure (f.offset,<-sizeOf f.type)) (fs.mapM λf=>do pure (f.offset,<-sizeOf f.type)):=by
 rw[zFc];refine aR ER ?_ ?_
 .induction fs.toList generalizing π with
  |nil=>exact aS rfl
  |cons f l i=>rw[List.mapM_cons];refine aR ER ?_ ?_;{refine aR _ (bU _) ?_;rintro a n _ ok h rfl;exact aS rfl};{rintro a x _ ok h rfl;refine aR ER i ?_;rintro b x _ ok h rfl;exact aS rfl}
 .rintro a x _ ok h rfl;exact aS rfl
def Fl (q:IX P){t:zD}(m:t<P.types.size){k p}(h:vF Al π k.toList p.toList):bN P Al F (VR Al) π (Instr.build t k) (Instr.build t p):=by
 refine aR _ (fV q m) ?_;intro w z x ok o j;refine aR _ (bB t) ?_;rintro v u _ ok c ⟨rfl,_⟩;replace j:=j.mono c;replace h:=(h.mono o).mono c;cases u with
 |struct r=>refine aR _ (XU r) ?_;rintro l places _ ok a rfl;obtain⟨b,g⟩|⟨d,s,b,g,f⟩:=GU (places[·]?) _ _ (h.mono a) (j.mono a).cells;{rw[b];exact aT};{rw[b,g];exact aS (.agg f.size f.at')}
 |array n e=>refine aR _ (bU e) ?_;rintro l size _ ok a rfl;obtain⟨b,g⟩|⟨d,s,b,g,f⟩:=GU (λi=>aA (i*size,size)) _ _ (h.mono a) (j.mono a).cells;{rw[b];exact aT};{rw[b,g];exact aS (.agg f.size f.at')}
 |_=>exact aT
omit ok in
def yQ {c c'}(h:aY Al π c c')(n):aY Al π ((aEC n).map (c[·%c.size]!)) ((aEC n).map (c'[·%c'.size]!)):=by
 refine⟨by simp,λi a b j g=> ?_⟩;rw[zCd]at j g;obtain⟨x,k,rfl⟩:=zBm.1 j;obtain⟨y,f,rfl⟩:=zBm.1 g;rw[k]at f;cases f;rw[h.size];obtain⟨d,e⟩|⟨v,m,d,e,l⟩:=h.get (x%c.size)
 .simp only[getElem!_def,d,e];exact .bool aF
 .simp only[getElem!_def,d,e];exact l
def EW (o:IX P){t:zD}(r:t<P.types.size)(len){j p}(h:vF Al π j.toList p.toList):bN P Al F (VR Al) π (Instr.buildSlice t len j) (Instr.buildSlice t len p):=by
 refine aR _ (bB t) ?_;rintro D u _ ok v ⟨rfl,hu⟩;cases u with
 |slice e=>
  refine aR _ (bU e) ?_;rintro n size _ ok l rfl;by_cases hl:len*size>2^24;{rw[zAq hl];exact aU}
  .rw[zAn hl,zAn hl];have tail:∀(b:Rn)(z f:zA),Ok P b->(∀x y,n x y->b x y)->aY Al b z f->
     bN P Al F (VR Al) b (do
      let aA cells:=Instr.fill (λi=>aA (i*size,size)) ((aEC (len*size)).map (z[·%z.size]!)) j.toList|stuck "buildSlice: a part of the wrong size"
      pure (.slice (aA (<-newRow e cells)) len len)) (do
      let aA cells:=Instr.fill (λi=>aA (i*size,size)) ((aEC (len*size)).map (f[·%f.size]!)) p.toList|stuck "buildSlice: a part of the wrong size"
      pure (.slice (aA (<-newRow e cells)) len len)):=by
    intro b z f ok c k
    obtain⟨m,q⟩|⟨d,E,m,q,B⟩:=GU (λi=>aA (i*size,size)) _ _ (((h.mono v).mono l).mono c) (yQ k (len*size))
    .rw[m];exact aT
    .rw[m,q];refine aR _ (lE B e) ?_;intro C a G ok s w;exact aS (.slice (.some w) _ _)
   by_cases g:len*size=0;{rw[zAq g,zAq g];exact tail n #[] #[] ok (λ_ _ x=>x) .nil};{rw[zAn g,zAn g];refine aR _ (fV o (o.slice t e r hu)) ?_;intro b z f ok c k;exact tail b _ _ ok c k.cells}
 |_=>exact aT
end
section
variable {P:zZ}{Al:zF}{F:Kp}{π:Rn}{α β γ δ:Type}{A:Rn->α->β->Prop} [ok:Ok P π]
def JI (r:IX P){t:zD}(C:t<P.types.size){x p y o}(B:bF Al π x p)(w:bF Al π y o):bN P Al F (VR Al) π (Instr.makeSlice t x y) (Instr.makeSlice t p o):=by
 refine aR _ (bB t) ?_;rintro M u _ ok q ⟨rfl,hu⟩;cases u with
 |slice e=>
  refine aR _ (nG (B.mono q)) ?_;rintro L n _ ok j rfl;refine aR _ (nG ((w.mono q).mono j)) ?_;rintro K m _ ok H rfl;refine aR _ (eN e) ?_;rintro J i _ ok G ⟨rfl,_⟩;dsimp only;have b:∀(d:Rn)(k:Nat)(z f:zA),Ok P d->aY Al d z f->bN P Al F (VR Al) d
    (do let a<-newRow e ((aEC k).map (z[·%z.size]!));pure (.slice (aA a) (IntKind.i64.wrap n).toNat (IntKind.i64.wrap m).toNat))
    (do let a<-newRow e ((aEC k).map (f[·%f.size]!));pure (.slice (aA a) (IntKind.i64.wrap n).toNat (IntKind.i64.wrap m).toNat)):=by
   intro d k z f ok g
   refine aR _ (lE (yQ g k) e) ?_
   intro l a N ok h I
   exact aS (.slice (.some I) _ _)
  split
  .split
   .exact dB _
   .split
    .exact dB _
    .refine aR _ (fW _) ?_;rintro d c _ ok h rfl;exact dB _
  .refine aR _ (sN _) ?_;rintro d _ _ ok h rfl;refine aR _ (bU e) ?_;rintro l size _ ok E rfl;by_cases s:(IntKind.i64.wrap m).toNat*size=0
   .simp only[zAq s];exact b l _ #[] #[] ok .nil
   .simp only[zAn s];refine aR _ (fV r (r.slice t e C hu)) ?_;intro v z f ok D g;exact b v _ _ _ ok g.cells
 |_=>exact aT
def wQ (t){x a}(h:bF Al π x a):bN P Al F (VR Al) π (Instr.makeInterface t x) (Instr.makeInterface t a):=by refine aR _ (bB t) ?_;rintro c u _ ok b ⟨rfl,_⟩;cases u<;>first|exact aT|exact aS (.iface _ (h.mono b))
def RY {x a}(h:bF Al π x a)(i):bN P Al F (VR Al) π (Instr.extract x i) (Instr.extract a i):=by
 cases h with
 |tuple d c=>unfold Instr.extract;dsimp only;obtain⟨e,b⟩|⟨v,g,e,b,f⟩:=(aY.mk d c).get i;{rw[e];exact aT};{rw[e,b];exact aS f}
 |_=>exact aT
inductive lC (Al:zF)(π:Rn):Option zY->Option zY->Prop
 |none:lC Al π aB aB
 |some {x x':zY} (h:bF Al π x x'):lC Al π (aA x) (aA x')
omit ok in
def lC.mono {ρ}(h:∀b b',π b b'->ρ b b'){x a}(k:lC Al π x a):lC Al ρ x a:=by
 cases k with
 |none=>exact .none
 |some k=>exact .some (k.mono h)
def gD {x a}(h:bF Al π x a)(n)(c:BoundsCode):bN P Al F ER π (Instr.sliceBound x n c) (Instr.sliceBound a n c):=by
 refine aR _ (lW h) ?_;rintro b ⟨k,i⟩ _ ok d rfl;dsimp only;split
 .exact aS rfl
 .exact eV _ _ _ _
def jL (b)(len cap){l o h q m j}(hl:lC Al π l o)(hh:lC Al π h q)(s:lC Al π m j):
  bN P Al F ER π (Instr.sliceBounds b len cap l h m) (Instr.sliceBounds b len cap o q j):=by
 cases s with
 |none=>
  cases hh with
  |none=>
   cases hl with
   |none=>exact aS rfl
   |some d=>refine aR ER (aS rfl) ?_;rintro i k _ ok a rfl;refine aR ER (aS rfl) ?_;rintro f p _ ok c rfl;refine aR _ (gD ((d.mono a).mono c) _ _) ?_;rintro g n _ ok e rfl;exact aS rfl
  |some hw=>
   refine aR ER (aS rfl) ?_;rintro f p _ ok a rfl;refine aR _ (gD (hw.mono a) _ _) ?_;rintro i k _ ok c rfl;cases hl with
   |none=>exact aS rfl
   |some d=>refine aR _ (gD ((d.mono a).mono c) _ _) ?_;rintro g n _ ok e rfl;exact aS rfl
 |some r=>
  refine aR _ (gD r _ _) ?_;rintro f p _ ok a rfl;cases hh with
  |none=>exact aT
  |some hw=>
   refine aR _ (gD (hw.mono a) _ _) ?_;rintro i k _ ok c rfl;cases hl with
   |none=>exact aS rfl
   |some d=>refine aR _ (gD ((d.mono a).mono c) _ _) ?_;rintro g n _ ok e rfl;exact aS rfl
def fP {x d}(h:bF Al π x d)(c:BoundsCode):bN P Al F (λ_ a b=>a=0/\b=0) π (Instr.sliceBound x 0 c) (Instr.sliceBound d 0 c):=by
 refine aR _ (lW h) ?_;rintro e ⟨k,i⟩ _ ok f rfl;dsimp only;split
 .exact aS ⟨by omega,by omega⟩
 .exact eV _ _ _ _
def yX {l n h o m k}(hl:lC Al π l n)(hh:lC Al π h o)(s:lC Al π m k):
  bN P Al F (λ_ p q=>q=p/\p.1=0/\p.2.1=0/\p.2.2=0) π (Instr.sliceBounds aE 0 0 l h m) (Instr.sliceBounds aE 0 0 n o k):=by
 cases s with
 |none=>
  cases hh with
  |none=>
   refine aR (λ_ a b=>a=0/\b=0) (aS ⟨rfl,rfl⟩) ?_;rintro j _ _ ok d ⟨rfl,rfl⟩;refine aR (λ_ a b=>a=0/\b=0) (aS ⟨rfl,rfl⟩) ?_;rintro i _ _ ok c ⟨rfl,rfl⟩;cases hl with
   |none=>exact aS ⟨rfl,rfl,rfl,rfl⟩
   |some e=>refine aR _ (fP ((e.mono d).mono c) _) ?_;rintro g _ _ ok f ⟨rfl,rfl⟩;exact aS ⟨rfl,rfl,rfl,rfl⟩
  |some hw=>
   refine aR (λ_ a b=>a=0/\b=0) (aS ⟨rfl,rfl⟩) ?_;rintro j _ _ ok d ⟨rfl,rfl⟩;refine aR _ (fP (hw.mono d) _) ?_;rintro i _ _ ok c ⟨rfl,rfl⟩;cases hl with
   |none=>exact aS ⟨rfl,rfl,rfl,rfl⟩
   |some e=>refine aR _ (fP ((e.mono d).mono c) _) ?_;rintro g _ _ ok f ⟨rfl,rfl⟩;exact aS ⟨rfl,rfl,rfl,rfl⟩
 |some r=>
  refine aR _ (fP r _) ?_;rintro j _ _ ok d ⟨rfl,rfl⟩;cases hh with
  |none=>exact aT
  |some hw=>
   refine aR _ (fP (hw.mono d) _) ?_;rintro i _ _ ok c ⟨rfl,rfl⟩;cases hl with
   |none=>exact aS ⟨rfl,rfl,rfl,rfl⟩
   |some e=>refine aR _ (fP ((e.mono d).mono c) _) ?_;rintro g _ _ ok f ⟨rfl,rfl⟩;exact aS ⟨rfl,rfl,rfl,rfl⟩
def Fe (t){x B}(g:bF Al π x B){l C h D m q}(hl:lC Al π l C)(hh:lC Al π h D)(i:lC Al π m q):
  bN P Al F (VR Al) π (Instr.slice t x l h m) (Instr.slice t B C D q):=by
 have w:q.isSome=m.isSome:=by cases i<;>rfl
 refine aR _ (bB t) ?_;rintro K u _ ok o ⟨rfl,_⟩;replace g:=g.mono o;replace hl:=hl.mono o;replace hh:=hh.mono o;replace i:=i.mono o;cases u with
 |string=>
  cases g with
  |string s=>dsimp only;rw[w];split;{exact aT};{refine aR _ (jL aF _ _ hl hh .none) ?_;rintro p ⟨a,b,c⟩ _ ok f rfl;exact aS (.string _)}
  |_=>exact aT
 |slice e=>
  cases g with
  |slice G n c=>
   refine aR _ (jL aE _ _ hl hh i) ?_;rintro p ⟨a,b,c⟩ _ ok f rfl;refine aR _ (bU e) ?_;rintro z size _ ok d rfl;refine aS (.slice ?_ _ _);have j:=(G.mono f).mono d;split;{exact j}
   .cases j with
    |none=>exact .none
    |some y=>exact .some (y.add _)
  |void H a0=>refine aR _ (yX hl hh i) ?_;rintro p ⟨a,b,c⟩ _ ok f ⟨rfl,E⟩;refine aR _ (bU e) ?_;rintro z size _ ok d rfl;obtain⟨rfl,rfl,rfl⟩:=E;exact aS (.void H a0)
  |_=>exact aT
 |pointer arr=>
  refine aR _ (EY g) ?_;intro p a N ok f y;refine aR _ (bB arr) ?_;rintro z u _ ok d ⟨rfl,_⟩;cases u with
  |array n e=>refine aR _ (jL aF _ _ ((hl.mono f).mono d) ((hh.mono f).mono d) ((i.mono f).mono d)) ?_;rintro J ⟨L,M,m1⟩ _ ok v rfl;refine aR _ (bU e) ?_;rintro I size _ ok r rfl;refine aS (.slice ?_ _ _);have k:=((y.mono d).mono v).mono r;split;{exact .some k};{exact .some (k.add _)}
  |_=>exact aT
 |_=>cases g<;>exact aT
def RO (t){x i}(o:bF Al π x i){l k h q m j}(hl:lC Al π l k)(hh:lC Al π h q)(p:lC Al π m j):
  bN P Al F (VR Al) π (Instr.sliceAt t x l h m) (Instr.sliceAt t i k q j):=by
 refine aR _ (bB t) ?_;rintro y u _ ok b ⟨rfl,_⟩;cases u with
 |array n e=>refine aR _ (kO (o.mono b)) ?_;intro w a C ok c r;refine aR _ (jL aF _ _ ((hl.mono b).mono c) ((hh.mono b).mono c) ((p.mono b).mono c)) ?_;rintro v ⟨z,B,m1⟩ _ ok g rfl;refine aR _ (bU e) ?_;rintro s size _ ok f rfl;refine aS (.slice ?_ _ _);have d:=(r.mono g).mono f;split;{exact .some d};{exact .some (d.add _)}
 |_=>exact Fe t (o.mono b) (hl.mono b) (hh.mono b) (p.mono b)
def XO {a a'}(e:bT π a a')(n m):bN P Al F AR π (partAt a n m) (partAt a' n m):=by
 refine aR _ (fI e) ?_;rintro g b _ ok i rfl;have f:bT g {block:=a.block,off:=a.off+n} {block:=a'.block,off:=a'.off+n}:=⟨i _ _ e.1,by simp[e.2.1],rfl⟩;refine aR _ (fI f) ?_;rintro j c _ ok d rfl;refine aS ?_;have h:=f.mono d;split
 .exact h
 .exact⟨h.1,h.2.1,rfl⟩
def RX (t){x c}(g:bF Al π x c)(i):bN P Al F (VR Al) π (Instr.fieldAt t x i) (Instr.fieldAt t c i):=by
 refine aR _ (bB t) ?_;rintro p u _ ok k ⟨rfl,_⟩;cases u with
 |struct m=>
  dsimp only;cases m[i]? with
  |none=>exact aT
  |some f=>
   refine aR _ (kO (g.mono k)) ?_;intro o a r ok j d;refine aR AR ?_ ?_
   .unfold fieldPlace;refine aR _ (bU f.type) ?_;rintro e n _ ok h rfl;split
    .exact XO (d.mono h) _ _
    .exact aS ((d.mono h).add _)
   .intro e b q ok h l;exact aS (.pointer (.some l))
 |_=>exact aT
def Fi (t){x a}(h:bF Al π x a)(i):bN P Al F (VR Al) π (Instr.field t x i) (Instr.field t a i):=by
 refine aR _ (bB t) ?_;rintro k u _ ok d ⟨rfl,_⟩;cases u with
 |struct g=>
  dsimp only;cases g[i]? with
  |none=>exact aT
  |some f=>refine aR _ (Fp (h.mono d)) ?_;intro j c c' ok b e;exact jG e _ _
 |_=>exact aT
def RU (t){x s y r}(h:bF Al π x s)(v:bF Al π y r):bN P Al F (VR Al) π (Instr.indexAt t x y) (Instr.indexAt t s r):=by
 refine aR _ (lW v) ?_;rintro C ⟨k,i⟩ _ ok w rfl;replace h:=h.mono w;have tail:∀(f:Rn)(base b:zO)(len:Nat)(e:zD),Ok P f->(vU f base b\/len=0/\∃a q,base=aA a/\b=aA q)->bN P Al F (VR Al) f
   (do
    let d:=len<=1&&(match<-underlying t with| .array .. =>aE|_=>aF)
    match base with
    |some a=>
     if 0<=i/\i<len then pure (.pointer (aA (a.add (i.toNat*(<-sizeOf e)))))
     else if d then unsupported (.noEntry "op/indexAddr.an index out of range at an array of length 0 or 1 (ledger 616)")
     else boundsPanic k i len .index
    |none=>boundsPanic k i 0 .index)
   (do
    let d:=len<=1&&(match<-underlying t with| .array .. =>aE|_=>aF)
    match b with
    |some a=>
     if 0<=i/\i<len then pure (.pointer (aA (a.add (i.toNat*(<-sizeOf e)))))
     else if d then unsupported (.noEntry "op/indexAddr.an index out of range at an array of length 0 or 1 (ledger 616)")
     else boundsPanic k i len .index
    |none=>boundsPanic k i 0 .index):=by
  intro f base b len e ok o
  refine aR _ (bB t) ?_
  rintro m u _ ok g ⟨rfl,_⟩
  obtain o|⟨rfl,a,q,rfl,rfl⟩:=o
  rotate_left
  .have l:¬(0<=i/\i<((0:Nat):Int)):=by{omega};simp only[zAn l];cases u<;>dsimp only<;>(split<;>first|exact aU|exact eV (π:=m) k i 0 .index)
  cases o with
  |none=>exact eV _ _ _ _
  |some p=>dsimp only;by_cases l:0<=i/\i<(len:Int);{rw[zAq l,zAq l];refine aR _ (bU e) ?_;rintro B n _ ok j rfl;exact aS (.pointer (.some (((p.mono g).mono j).add _)))};{simp only[zAn l];cases u<;>dsimp only<;>(split<;>first|exact aU|exact eV (π:=m) k i len .index)}
 refine aR _ (bB t) ?_;rintro f u _ ok g ⟨rfl,_⟩;replace h:=h.mono g;cases u with
 |array len e=>refine aR _ (kO h) ?_;intro m a q ok j p;exact tail m _ _ len e ok (aG (.some p))
 |slice e=>
  cases h with
  |slice z n c=>exact tail f _ _ n e ok (aG z)
  |void D a0=>exact tail f _ _ 0 e ok (aH ⟨rfl,_,_,rfl,rfl⟩)
  |_=>exact aT
 |_=>cases h<;>exact aT
def Fh (t){x g y f}(h:bF Al π x g)(j:bF Al π y f):bN P Al F (VR Al) π (Instr.index t x y) (Instr.index t g f):=by
 refine aR _ (lW j) ?_;rintro r ⟨k,i⟩ _ ok l rfl;replace h:=h.mono l;refine aR _ (bB t) ?_;rintro q u _ ok d ⟨rfl,_⟩;replace h:=h.mono d;cases u with
 |array len e=>
  cases h with
  |agg o m=>dsimp only;by_cases a:0<=i/\i<(len:Int);{rw[zAq a,zAq a];refine aR _ (bU e) ?_;rintro p n _ ok c rfl;exact jG ((aY.mk o m).mono c) _ _};{rw[zAn a,zAn a];exact eV _ _ _ _}
  |_=>exact aT
 |string=>
  cases h with
  |string s=>
   dsimp only;cases(if 0<=i then s[i.toNat]? else aB)with
   |none=>exact eV _ _ _ _
   |some b=>exact aS (.int _ _)
  |_=>exact aT
 |_=>cases h<;>exact aT
end
section
variable {P:zZ}{Al:zF}{F:Kp}{π:Rn}{α β γ δ:Type}{A:Rn->α->β->Prop} [ok:Ok P π]
def oR (hF:∀b,¬F b){a a'}(h:bT π a a'):bN P Al F ER π (markStringish a) (markStringish a'):=by
 refine aR _ (fQ h.1) ?_;rintro c s _ ok d rfl;cases s with
 |none=>exact aS rfl
 |some x=>exact XT hF (show bT c ⟨a.block,x.2,aB⟩ ⟨a'.block,x.2,aB⟩from⟨d _ _ h.1,rfl,rfl⟩) _
omit ok in
def IG (d:Array UInt8):aY Al π (d.map λb=>(.int aP b.toNat:zY)) (d.map λb=>(.int aP b.toNat:zY)):=by refine⟨rfl,λi v c a h=> ?_⟩;rw[a]at h;cases h;rw[zCd]at a;obtain⟨x,_,rfl⟩:=zBm.1 a;exact .int _ _
def wJ (hF:(∀b,¬F b)\/¬F.cmp)(e)(s):bN P Al F (VR Al) π (Conv.stringToBytes e s) (Conv.stringToBytes e s):=by
 refine aR _ (fW _) ?_;rintro g n _ ok m rfl;obtain hF|hC:=hF;rotate_left
 .have:=bN.marked (P:=P) (Al:=Al) (π:=g) (ty:=e) (k':=λr=>Sem.pure (Value.slice (aA ⟨r,0,aB⟩) s.size n)) hC ((IG s.data).append (aY.replicate (.int aP 0) (n-s.size))) λc r i o d j=> .pure (show bF Al c _ _ from bF.slice (.some (show bT c ⟨r,0,aB⟩ ⟨i,0,aB⟩from⟨j,rfl,rfl⟩)) _ _);exact this
 refine aR _ (lE ((IG s.data).append (aY.replicate (.int aP 0) _)) e) ?_;intro c a p ok d f;refine aR _ (oR hF f) ?_;rintro k _ _ ok h rfl;exact aS (.slice (.some (f.mono h)) _ _)
def wU {x g}(o:bF Al π x g):bN P Al F (VR Al) π (Conv.bytesToString x) (Conv.bytesToString g):=by
 cases o with
 |slice p n c=>
  cases p with
  |none=>exact aS (.string _)
  |some f=>
   refine aR _ (pJ f n) ?_;intro r c c' ok t j;refine aR ER ?_ ?_
   .rw[<-zEv,<-zEv];refine iF (λ_ _ _ _ _ h=>h) c.toList c'.toList (VR Al) (λ_ _ _ _ h k=>k.mono h) (by simp[j.size]) (λi a b f q=>j.at' i a b (by simpa using f) (by simpa using q)) _ _ _ _ rfl ?_;rintro l a b s _ ok d e rfl;cases e with
    |int k m=>cases k<;>first|exact aT|exact aS (aG ⟨_,_,rfl,rfl,rfl⟩)
    |_=>exact aT
   .rintro l s _ ok d rfl;exact aS (.string _)
 |void u a0=>exact aS (.string _)
 |_=>exact aT
def EN {a a'}(h:bT π a a'):bN P Al F AR π (Conv.seenAt a) (Conv.seenAt a'):=by
 refine aR _ (qN h.1) ?_;intro n s o ok i g;cases g with
 |none=>exact aS (h.mono i)
 | @some b t u hb=>
  dsimp only;rw[h.2.1,h.2.2,hb.2.2];split;{exact aS hb}
  .split
   .exact aU
   .refine dU (λr _=>by simp only[jF,sJ];rfl) ?_;rintro m p q ok d ⟨k,j⟩;rw[k,j];cases byteOfCell P P.depth u a.off with
    |none=>exact aU
    |some β=>
     refine aR _ (fQ (d _ _ hb.1)) ?_;rintro l s _ ok f rfl;cases s with
     |none=>exact aU
     |some z=>
      obtain⟨e,cells⟩:=z;dsimp only;split;{exact aU}
      .rw[hb.2.1];cases cellAtBytes P P.depth e (cells/P.cellsOf e) b.off β with
       |none=>exact aU
       |some c=>exact aS ⟨f _ _ (d _ _ hb.1),rfl,rfl⟩
def SB {r r'}(h:π r r'):bN P Al F ER π (cellsIn r) (cellsIn r'):=by
 refine aR _ (fQ h) ?_;rintro e s _ ok c rfl;cases s with
 |some z=>exact aS rfl
 |none=>refine .getObj (c _ _ h) ?_;rintro o g (⟨b,a⟩|⟨x,f,b,a,d⟩);{rw[a];cases o<;>exact .pure rfl};{cases b;cases a;cases d<;>exact .pure rfl}
def rP {a a'}(h:bT π a a')(u)(n):bN P Al F ER π (variablesAt a u n) (variablesAt a' u n):=by
 refine dU (λi _=>by simp only[KQ];rfl) ?_;rintro g p q ok b ⟨e,d⟩;rw[e,d];refine aR _ (fQ (b _ _ h.1)) ?_;rintro f s _ ok c rfl;rw[h.2.1];cases s with
 |none=>exact aS rfl
 |some z=>exact aS rfl
def oQ {src dst}(O:∀e,(P.underlying src=aA (.pointer e)\/P.underlying dst=aA (.pointer e))->jR P e){x N}(d:bF Al π x N):
  bN P Al F (VR Al) π (Conv.unsafePointer src dst x) (Conv.unsafePointer src dst N):=by
 refine aR _ (bB src) ?_;rintro ρ u1 _ ok V ⟨rfl,Y⟩;refine aR _ (bB dst) ?_;rintro σ u2 _ ok I ⟨rfl,X⟩;replace d:=(d.mono V).mono I;cases u1 with
 |pointer t=>
  cases u2 with
  |unsafePointer=>
   cases d with
   |pointer f=>
    cases f with
    |none=>exact aS (.pointer .none)
    |some l=>
     refine aR _ (EN l) ?_;intro S s T ok H g;refine aR _ (SB g.1) ?_;rintro R c _ ok i rfl;rw[g.2.1,g.2.2];refine aR _ (bU t) ?_;rintro M n _ ok o rfl;have j:=(g.mono i).mono o;have k1:bN P Al F (VR Al) M (do pure (.pointer (aA ⟨<-newObj (.view s t),0,aB⟩))) (do pure (.pointer (aA ⟨<-newObj (.view T t),0,aB⟩))):=
      .view (.view j t (O t (aG Y))) λC r U _ _ J=> .pure (.pointer (.some ⟨J,rfl,rfl⟩))
     cases c<;>dsimp only<;>split<;>first|exact k1|exact aS (.pointer (.some j))
   |_=>exact aT
  |_=>cases d<;>exact aT
 |unsafePointer=>
  cases u2 with
  |pointer u=>
   cases d with
   |pointer f=>
    cases f with
    |none=>exact aS (.pointer .none)
    |some l=>
     refine aR _ (EN l) ?_;intro S a Z ok H l;refine aR _ (bU u) ?_;rintro R n _ ok i rfl;refine aR _ (rP (l.mono i) u 1) ?_;rintro M b _ ok o rfl;have v:=(l.mono i).mono o;split;{exact aS (.pointer (.some v))}
     .refine aR _ (fQ v.1) ?_;rintro C s _ ok G rfl;have fin:∀(w:Rn),Ok P w->(∀x y,C x y->w x y)->bN P Al F (VR Al) w (do pure (.pointer (aA ⟨<-newObj (.view a u),0,aB⟩))) (do pure (.pointer (aA ⟨<-newObj (.view Z u),0,aB⟩))):=λw _ h=>
       .view (.view ((v.mono G).mono h) u (O u (aH X))) λC r U _ _ J=> .pure (.pointer (.some ⟨J,rfl,rfl⟩))
      cases s with
      |none=>exact aU
      |some z=>refine dU (λfs _=>by simp only[rN]) ?_;rintro w p q ok E ⟨f,W⟩;rw[f,W];refine dU (λ_ _=>rfl) ?_;rintro B p' q' ok D ⟨L,K⟩;rw[L,K];split;{exact aU};{exact fin B ok λx y h=>D _ _ (E _ _ h)}
   |_=>exact aT
  |unsafePointer=>
   cases d with
   |pointer f=>exact aS (.pointer f)
   |_=>exact aT
  |int k=>
   cases d with
   |pointer f=>
    cases f with
    |none=>exact aS (.int _ _)
    |some l=>exact wV l _
   |_=>exact aT
  |_=>cases d<;>exact aT
 |int k=>
  cases u2 with
  |unsafePointer=>
   cases d with
   |int k n=>
    by_cases Q:n=0;{subst Q;exact aU}
    .cases n with
     |ofNat m=>cases m with
      |zero=>exact absurd rfl Q
      |succ m=>exact aU
     |negSucc m=>exact aU
   |pointer f=>cases f<;>first|exact aU|exact aT
   |_=>exact aT
  |_=>cases d<;>exact aT
 |_=>cases u2<;>cases d<;>exact aT
end
def vS {P}(src dst)(z):mU P (Conv.unsafePointer src dst (.func (.method "") #[.iface 1000000 .nilIface] #[z])):=by refine tI λa=>tI λb=> ?_;cases a<;>cases b<;>exact oC
def PK {P}(src dst)(z):mU P (convert src dst (.func (.method "") #[.iface 1000000 .nilIface] #[z])):=by
 refine tI λa=>tI λb=> ?_;cases a<;>cases b<;>first|exact rC|exact vS src dst z|skip
 all_goals
  refine tI λc=> ?_
  cases c<;>first|exact oC|(rename_i k;cases k<;>exact oC)
section
variable {P:zZ}{Al:zF}{F:Kp}{π:Rn}{α β γ δ:Type}{A:Rn->α->β->Prop} [ok:Ok P π]
structure Bm (P:zZ)(F:Kp)(src dst:zD):Prop where
 ptr:∀e,(P.underlying src=aA (.pointer e)\/P.underlying dst=aA (.pointer e))->jR P e
 mark:(∃e,P.underlying dst=aA (.slice e))->(∀b,¬F b)\/(¬F.cmp/\∀e,P.underlying src≠aA (.slice e))
 float:∀k,P.underlying dst≠aA (.float k)
 complex:∀k,P.underlying dst≠aA (.complex k)
 cm:∀e e',P.underlying src=aA (.slice e)->P.underlying dst=aA (.slice e')->False
 rune:∀e,(P.underlying src=aA (.slice e)\/P.underlying dst=aA (.slice e))->P.underlying e≠aA (.int .i32)
def SA {src dst}(i:Bm P F src dst){x l}(f:bF Al π x l):bN P Al F (VR Al) π (convert src dst x) (convert src dst l):=by
 by_cases b:∃z,x=(.func (.method "") #[.iface 1000000 .nilIface] #[z])
 .obtain⟨z,rfl⟩:=b;exact .dead (PK src dst z)
 have a:=oQ (F:=F) i.ptr f;refine aR _ (bB src) ?_;rintro I u1 _ ok E ⟨rfl,w⟩;refine aR _ (bB dst) ?_;rintro B u2 _ ok q ⟨rfl,j⟩;replace f:=(f.mono E).mono q;replace a:=oQ (F:=F) i.ptr f;have C:∀e,u1= .slice e->bN P Al F (VR Al) B (do match<-underlying e with| .int aP=>Conv.bytesToString x| .int .i32=>Conv.runesToString x|_=>stuck "Convert: a slice of what to string?") (do match<-underlying e with| .int aP=>Conv.bytesToString l| .int .i32=>Conv.runesToString l|_=>stuck "Convert: a slice of what to string?"):=by
  intro e r;subst r;refine aR _ (bB e) ?_;rintro y u _ ok d ⟨rfl,m⟩;cases u with
  |int k=>cases k<;>first|exact aT|exact wU (f.mono d)|exact absurd m (i.rune e (aG w))
  |_=>exact aT
 have o:∀e s,u2= .slice e->bN P Al F (VR Al) B (do match<-underlying e with| .int aP=>Conv.stringToBytes e s| .int .i32=>Conv.stringToRunes e s|_=>stuck "Convert: string to a slice of what?") (do match<-underlying e with| .int aP=>Conv.stringToBytes e s| .int .i32=>Conv.stringToRunes e s|_=>stuck "Convert: string to a slice of what?"):=by
  intro e s r;subst r;refine aR _ (bB e) ?_;rintro y u _ ok d ⟨rfl,m⟩;cases u with
  |int k=>cases k<;>first|exact aT|exact wJ ((i.mark ⟨e,j⟩).imp id And.left) e s|exact absurd m (i.rune e (aH j))
  |_=>exact aT
 cases u2 with
 |float k=>exact absurd j (i.float k)
 |complex k=>exact absurd j (i.complex k)
 |int k=>
  cases f with
  |int D n=>exact aS (.int _ _)
  |pointer g=>
   cases g with
   |none=>cases u1<;>first|exact a|exact aU
   |some t=>cases u1<;>first|exact a|exact aU
  |junk v _=>exact absurd ⟨_,rfl⟩ b
  |same _ z=>exact absurd ⟨z,rfl⟩ b
  |_=>cases u1<;>first|exact a|exact aU
 |string=>
  cases f with
  |int D n=>exact aS (.string _)
  |string s=>exact aS (.string s)
  |pointer g=>cases g<;>cases u1<;>first|exact C _ rfl|exact a|exact aU
  |junk v _=>exact absurd ⟨_,rfl⟩ b
  |same _ z=>exact absurd ⟨z,rfl⟩ b
  |_=>cases u1<;>first|exact C _ rfl|exact a|exact aU
 |slice e=>
  cases f with
  |string s=>exact o e s rfl
  |pointer g=>cases g<;>cases u1<;>first|exact a|exact aU
  |slice g n c=>
   cases g with
   |none=>cases u1<;>first|exact a|exact aU
   |some t=>
    cases u1 with
    |slice G=>
     refine aR _ (bB e) ?_;rintro y u _ ok d ⟨rfl,m⟩;cases(src==dst)with
     |false=>exact aU
     |true=>
      cases u with
      |int k=>
       cases k<;>first|exact aU|skip
       refine aR _ (oR ((i.mark ⟨e,j⟩).elim id λh=>absurd w (h.2 _)) (t.mono d)) ?_;rintro H _ _ ok p rfl;exact aS (.slice (.some ((t.mono d).mono p)) _ _)
      |_=>exact aU
    |_=>first|exact a|exact aU
  |void J a0=>
   cases u1 with
   |slice G=>exact(i.cm _ _ w j).elim
   |_=>first|exact a|exact aU
  |junk v _=>exact absurd ⟨_,rfl⟩ b
  |same _ z=>exact absurd ⟨z,rfl⟩ b
  |_=>cases u1<;>first|exact a|exact aU
 |unsafePointer=>cases f<;>cases u1<;>first|exact absurd ⟨_,rfl⟩ b|exact a|exact aU
 |_=>
  cases f with
  |pointer g=>cases g<;>cases u1<;>first|exact a|exact aU
  |junk v _=>exact absurd ⟨_,rfl⟩ b
  |same _ z=>exact absurd ⟨z,rfl⟩ b
  |_=>cases u1<;>first|exact a|exact aU
def Sb (ts)(t){c a}(h:aY Al π c a):bN P Al F (VR Al) π (Builtin.len_ ts t c) (Builtin.len_ ts t a):=by
 unfold Builtin.len_;cases ts[0]? with
 |none=>obtain⟨b,d⟩|⟨x,g,b,d,f⟩:=h.get 0<;>rw[b]<;>exact aT
 |some t=>
  obtain⟨b,d⟩|⟨x,g,b,d,f⟩:=h.get 0;{rw[b];exact aT}
  .rw[b,d];refine aR _ (bB t) ?_;rintro k u _ ok l ⟨rfl,_⟩;cases u with
   |pointer arr=>refine aR _ (bB arr) ?_;rintro j u _ ok i ⟨rfl,_⟩;cases u<;>first|exact aT|exact aS (.int _ _)
   |array n e=>exact aS (.int _ _)
   |_=>cases f<;>first|exact aT|exact aS (.int _ _)
def Sc (ts)(t){c a}(h:aY Al π c a):bN P Al F (VR Al) π (Builtin.cap_ ts t c) (Builtin.cap_ ts t a):=by
 unfold Builtin.cap_;cases ts[0]? with
 |none=>obtain⟨b,d⟩|⟨x,g,b,d,f⟩:=h.get 0<;>rw[b]<;>exact aT
 |some t=>
  obtain⟨b,d⟩|⟨x,g,b,d,f⟩:=h.get 0;{rw[b];exact aT}
  .rw[b,d];refine aR _ (bB t) ?_;rintro k u _ ok l ⟨rfl,_⟩;cases u with
   |pointer arr=>refine aR _ (bB arr) ?_;rintro j u _ ok i ⟨rfl,_⟩;cases u<;>first|exact aT|exact aS (.int _ _)
   |array n e=>exact aS (.int _ _)
   |_=>cases f<;>first|exact aT|exact aS (.int _ _)
def Fg {x a}(h:bF Al π x a):bN P Al F ER π (Builtin.lenOf x) (Builtin.lenOf a):=by cases h<;>first|exact aT|exact aS rfl
def vM {x d}(e:bF Al π x d):bN P Al F (λ_ a b=>a=b/\∀p c,x= .slice p 0 c->a=0) π (Builtin.lenOf x) (Builtin.lenOf d):=by
 cases e with
 |slice f n c=>exact aS ⟨rfl,λp c h=>by cases h;rfl⟩
 |void g a0=>exact aS ⟨rfl,λp c h=>rfl⟩
 |string s=>exact aS ⟨rfl,λp c h=>by cases h⟩
 |_=>exact aT
def EU (size){x a}(h:bF Al π x a):bN P Al F (λ_ d g=>d= #[]/\g= #[]) π (Builtin.firstCells size 0 x) (Builtin.firstCells size 0 a):=by
 cases h with
 |slice f n c=>
  cases f with
  |none=>exact aS ⟨rfl,rfl⟩
  |some i=>unfold Builtin.firstCells;rw[zFk];exact aS ⟨rfl,rfl⟩
 |void j a0=>unfold Builtin.firstCells;rw[zFk];exact aS ⟨rfl,rfl⟩
 |string s=>have e:(s.extract 0 0).data.map (λb=>(.int aP b.toNat:zY))= #[]:=by{simp};exact aS ⟨e,e⟩
 |_=>exact aT
def nP (size n){x b}(e:∀a c,x= .slice a 0 c->n=0)(h:bF Al π x b):bN P Al F (ag Al) π (Builtin.firstCells size n x) (Builtin.firstCells size n b):=by
 cases h with
 |slice d m c=>
  cases d with
  |none=>exact aS .nil
  |some f=>exact pJ f _
 |void g a0=>have:=e _ _ rfl;subst this;unfold Builtin.firstCells;rw[zFk];exact aS .nil
 |string s=>exact aS (IG _)
 |_=>exact aT
def Ky (ts)(t){k g}(h:aY Al π k g):bN P Al F (VR Al) π (Builtin.copy_ ts t k) (Builtin.copy_ ts t g):=by
 unfold Builtin.copy_;cases ts[0]? with
 |none=>obtain⟨i,p⟩|⟨x,w,i,p,o⟩:=h.get 0<;>rw[i]<;>exact aT
 |some t=>
  obtain⟨i,p⟩|⟨x,w,i,p,o⟩:=h.get 0;{rw[i];exact aT};obtain⟨f1,f2⟩|⟨y,J,f1,f2,j⟩:=h.get 1;{rw[i,f1];exact aT};rw[i,p,f1,f2];refine aR _ (bB t) ?_;rintro I u _ ok q ⟨rfl,_⟩;replace o:=o.mono q;replace j:=j.mono q;cases u with
  |slice e=>
   cases o with
   |slice B n c=>
    refine aR _ (vM j) ?_;rintro v m _ ok f ⟨rfl,G⟩;refine aR _ (bU e) ?_;rintro s size _ ok b rfl;have C:∀a c,y= .slice a 0 c->aEL m n=0:=λa c h=>by{rw[G a c h];exact Nat.zero_min n};refine aR _ (nP size _ C ((j.mono f).mono b)) ?_;intro r d L ok l D;cases B with
    |none=>exact aS (.int _ _)
    |some E=>refine aR _ (kP _ _ 0 (((E.mono f).mono b).mono l) (by rw[toArray_toList,toArray_toList];exact D)) ?_;rintro H _ _ ok z rfl;exact aS (.int _ _)
   |void K a0=>refine aR _ (Fg j) ?_;rintro v m _ ok f rfl;refine aR _ (bU e) ?_;rintro s size _ ok b rfl;rw[show aEL m 0=0 from Nat.min_zero m];refine aR _ (EU size ((j.mono f).mono b)) ?_;rintro r _ _ ok l ⟨rfl,rfl⟩;exact aS (.int _ _)
   |_=>exact aT
  |_=>exact aT
omit ok in
def pH {c c'}(h:aY Al π c c')(n):aY Al π (Builtin.zeroCells c n) (Builtin.zeroCells c' n):=by unfold Builtin.zeroCells;rw[h.size];have:=yQ h (n*c.size);rw[h.size]at this;exact this
def Fj (j:IX P){ts}(m:∀t,ts[0]? =aA t->t<P.types.size)(t){d a}(h:aY Al π d a):bN P Al F (VR Al) π (Builtin.clear_ ts t d) (Builtin.clear_ ts t a):=by
 unfold Builtin.clear_;cases s:ts[0]? with
 |none=>obtain⟨b,f⟩|⟨x,k,b,f,i⟩:=h.get 0<;>rw[b]<;>exact aT
 |some t=>
  obtain⟨b,f⟩|⟨x,k,b,f,i⟩:=h.get 0;{rw[b];exact aT};rw[b,f];refine aR _ (bB t) ?_;rintro y u _ ok p ⟨rfl,hu⟩;cases i with
  |jC=>cases u<;>exact aS eA
  |slice q n c=>
   cases q with
   |none=>cases u<;>exact aS eA
   |some r=>
    cases n with
    |zero=>cases u<;>exact aS eA
    |succ n=>
     cases u with
     |slice e=>refine aR _ (fV j (j.slice t e (m t s) hu)) ?_;intro w z B ok g l;refine aR _ (kP _ _ 0 ((r.mono p).mono g) (by rw[toArray_toList,toArray_toList];exact pH l.cells _)) ?_;rintro v _ _ ok o rfl;exact aS eA
     |_=>exact aT
  |void C a0=>cases u<;>exact aS eA
  |_=>cases u<;>exact aT
def Kw {x e y d}(f:bF Al π x e)(a:bF Al π y d):bN P Al F (VR Al) π (Builtin.min2 x y) (Builtin.min2 e d):=by
 cases f with
 |int k n=>
  cases a with
  |int p m=>exact aS (.int _ _)
  |pointer h=>cases h<;>first|exact aT|exact aU
  |_=>exact aT
 |string s=>
  cases a with
  |string t=>refine aR _ (wK .leq s t) ?_;intro l v o ok q g;refine aR _ (EX g) ?_;rintro j b _ ok i rfl;exact aS (.string _)
  |pointer h=>cases h<;>first|exact aT|exact aU
  |_=>exact aT
 |pointer h=>cases h<;>cases a<;>first|exact aU|exact aT|(rename_i c;cases c<;>first|exact aU|exact aT)
 |_=>cases a<;>first|exact aT|(rename_i c;cases c<;>first|exact aU|exact aT)
def Sa (ts)(t){c a}(h:aY Al π c a):bN P Al F (VR Al) π (Builtin.min_ ts t c) (Builtin.min_ ts t a):=by
 unfold Builtin.min_;have hl:∀(l b:zV){π:Rn} [Ok P π] {x d:zY},bF Al π x d->aY Al π l.toArray b.toArray->bN P Al F (VR Al) π (l.foldlM Builtin.min2 x) (b.foldlM Builtin.min2 d):=by
  intro l;induction l with
  |nil=>intro b π ok x d g h;cases b with
   |nil=>exact aS g
   |cons _ _=>have:=h.size;simp at this
  |cons y l m=>
   intro b π ok x d g h;cases b with
   |nil=>have:=h.size;simp at this
   |cons q b=>obtain⟨j,i⟩:=bY h;rw[List.foldlM_cons,List.foldlM_cons];refine aR _ (Kw g j) ?_;intro p v r ok o n;exact m b n (i.mono o)
 have f:aY Al π c.toList.toArray a.toList.toArray:=by rw[toArray_toList,toArray_toList];exact h
 cases e:c.toList with
 |nil=>exact aT
 |cons x l=>
  cases k:a.toList with
  |nil=>rw[e,k]at f;have:=f.size;simp at this
  |cons d b=>rw[e,k]at f;obtain⟨j,i⟩:=bY f;exact hl l b j i
end
section
variable {P:zZ}{Al:zF}{F:Kp}{π:Rn}{α β γ δ:Type}{A:Rn->α->β->Prop} [ok:Ok P π]
def Calm (P:zZ)(s:Sem α):Prop:=∀v b,(∃a w e,s.runT P v b=(.ok a w,e))\/∃hl w e,s.runT P v b=(.halt hl w,e)/\Fatal hl
omit ok in
def Calm.dead {s}{f:α->Sem β}(h:Calm P s)(c:∀a,mU P (f a)):mU P (s>>=f):=by
 intro v d;rw[bD];obtain⟨a,w,b,e⟩|⟨hl,w,b,e,g⟩:=h v d
 .rw[e];exact c a w b
 .rw[e];exact⟨hl,w,b,rfl,g⟩
omit ok in
def Calm.bind {s}{f:α->Sem β}(h:Calm P s)(c:∀a,Calm P (f a)):Calm P (s>>=f):=by
 intro v d;rw[bD];obtain⟨a,w,b,e⟩|⟨hl,w,b,e,g⟩:=h v d
 .rw[e];exact c a w b
 .rw[e];exact aH ⟨hl,w,b,rfl,g⟩
omit ok in
def mU.bind {s}{f:α->Sem β}(h:mU P s):mU P (s>>=f):=by intro v b;rw[bD];obtain⟨hl,w,a,e,c⟩:=h v b;rw[e];exact⟨hl,w,a,rfl,c⟩
omit ok in
def uF (a:α):Calm P (pure a:Sem α):=λv e=>aG ⟨a,v,e,rfl⟩
omit ok in
def Au (r):Calm P (shape r):=λv e=>aG ⟨_,v,e,rfl⟩
omit ok in
def VN (a):Calm P (frozen a):=λv e=>aG ⟨_,v,e,rfl⟩
omit ok in
def rS (a)(n):Calm P (Builtin.holdsCells a n):=by refine(Au _).bind λs=> ?_;cases s<;>exact uF _
omit ok in
def KD (size s n)(base)(x):Calm P (Builtin.mayShare size s n base x):=by
 have second:∀there:Bool,Calm P (do
   if !there then return aE
   match x with
   | .slice (aA b) _ _=>do pure (!(<-Builtin.holdsCells b (n*size))||base.any (·.block==b.block))
   |_=>pure aF):=by
  intro there
  cases there with
  |false=>exact uF _
  |true=>
   show Calm P (match x with
   | .slice (aA b) _ _=>do pure (!(<-Builtin.holdsCells b (n*size))||base.any (·.block==b.block))
   |_=>pure aF)
   split;{exact(rS _ _).bind λb=>uF _};{exact uF _}
 cases base with
 |none=>exact second aE
 |some a=>refine(rS _ _).bind λb=> ?_;exact(VN _).bind λc=>second _
def nQ (S:IX P){e:zD}(R:e<P.types.size){base p:zO}(s k size n:Nat)(D:bF Al π (.slice base s k) (.slice p s k))(f:Bool){x w:zY}(O:bF Al π x w)(G:f=aF->∀a c,x= .slice a 0 c->n=0):
  bN P Al F (VR Al) π
   (do
    let m:Sem (zA):=
     if !f then Builtin.firstCells size n x
     else if n*size=0 then pure #[]
     else do pure (Builtin.zeroCells (<-zeroValue e).cells n)
    let g:=s+n
    if g<=k then
     let new<-m
     if let aA a:=base then storeCells (a.add (s*size)) new.toList
     pure (.slice base g k)
    else
     if(g:Int)>IntKind.i64.max/\(f\/(<-typeInfo e).bytes=0)then aEG (.error "growslice: len out of range")
     if Builtin.nextslicecap g k*(<-typeInfo e).bytes>2^48 then(if f then aEG (.error "growslice: len out of range")else do
      if !(<-Builtin.mayShare size s n base x)then mark .noRoom
      unsupported (.resourceLimit "append: a slice or a string whose bytes no memory bears"))
     let l<-choose (.appendCap g k e)
     askRoom (l*(<-typeInfo e).bytes)
     let old<-Builtin.firstCells size s (.slice base s k)
     let new<-m
     let rest:=Builtin.zeroCells (<-zeroValue e).cells (l-g)
     pure (.slice (aA (<-newRow e (old++new++rest))) g l))
   (do
    let m:Sem (zA):=
     if !f then Builtin.firstCells size n w
     else if n*size=0 then pure #[]
     else do pure (Builtin.zeroCells (<-zeroValue e).cells n)
    let g:=s+n
    if g<=k then
     let new<-m
     if let aA a:=p then storeCells (a.add (s*size)) new.toList
     pure (.slice p g k)
    else
     if(g:Int)>IntKind.i64.max/\(f\/(<-typeInfo e).bytes=0)then aEG (.error "growslice: len out of range")
     if Builtin.nextslicecap g k*(<-typeInfo e).bytes>2^48 then(if f then aEG (.error "growslice: len out of range")else do
      if !(<-Builtin.mayShare size s n p w)then mark .noRoom
      unsupported (.resourceLimit "append: a slice or a string whose bytes no memory bears"))
     let l<-choose (.appendCap g k e)
     askRoom (l*(<-typeInfo e).bytes)
     let old<-Builtin.firstCells size s (.slice p s k)
     let new<-m
     let rest:=Builtin.zeroCells (<-zeroValue e).cells (l-g)
     pure (.slice (aA (<-newRow e (old++new++rest))) g l)):=by
 have r:∀(t:Rn),Ok P t->(∀a b,π a b->t a b)->bN P Al F (ag Al) t
   (if !f then Builtin.firstCells size n x else if n*size=0 then pure #[]else do pure (Builtin.zeroCells (<-zeroValue e).cells n))
   (if !f then Builtin.firstCells size n w else if n*size=0 then pure #[]else do pure (Builtin.zeroCells (<-zeroValue e).cells n)):=by
  intro t ok u
  split
  .rename_i y;exact nP size n (G (by simpa using y)) (O.mono u)
  .split
   .exact aS .nil
   .refine aR _ (fV S R) ?_;intro N z Y ok q y;exact aS (pH y.cells n)
 by_cases Q:s+n<=k
 .simp only[zAq Q];cases D with
  |void hV a0=>
   obtain rfl:n=0:=by omega
   have h0:bN P Al F (λ_ d M=>d= #[]/\M= #[]) π
     (if !f then Builtin.firstCells size 0 x else if 0*size=0 then pure #[]else do pure (Builtin.zeroCells (<-zeroValue e).cells 0))
     (if !f then Builtin.firstCells size 0 w else if 0*size=0 then pure #[]else do pure (Builtin.zeroCells (<-zeroValue e).cells 0)):=by
    split
    .exact EU size O
    .rw[zAq (zFk _)];exact aS ⟨rfl,rfl⟩
   refine aR _ h0 ?_;rintro t _ _ ok u ⟨rfl,rfl⟩;exact aS (.void hV a0)
  |slice D=>
   refine aR _ (r π ok λ_ _ h=>h) ?_;intro t d M ok u L;cases D with
   |none=>exact aS (.slice .none _ _)
   |some E=>refine aR _ (kP _ _ 0 ((E.mono u).add _) (by rw[toArray_toList,toArray_toList];exact L)) ?_;rintro N _ _ ok q rfl;exact aS (.slice (.some ((E.mono u).mono q)) _ _)
 .simp only[zAn Q];refine aR _ (eN e) ?_;rintro t i _ ok u ⟨rfl,_⟩;by_cases U:((s+n:Nat):Int)>IntKind.i64.max/\(f=aE\/i.bytes=0)
  .simp only[zAq U];exact dB _
  .simp only[zAn U];refine aR _ (eN e) ?_;rintro N j _ ok q ⟨rfl,_⟩;by_cases T:Builtin.nextslicecap (s+n) k*j.bytes>2^48
   .simp only[zAq T];cases f with
    |true=>exact dB _
    |false=>refine Kx (mU.bind ?_);rw[zAn (by simp)];refine(KD _ _ _ _ _).dead λb=> ?_;cases b<;>exactλv es=>⟨_,_,_,rfl,by simp⟩
   .simp only[zAn T];refine aR _ (fW _) ?_;rintro τ l _ ok K rfl;refine aR _ (eN e) ?_;rintro X j' _ ok C ⟨rfl,_⟩;refine aR _ (sN _) ?_;rintro W _ _ ok J rfl;have sub:∀a b,π a b->W a b:=λa b h=>J _ _ (C _ _ (K _ _ (q _ _ (u _ _ h))));refine aR _ (nP size s (λa c h=>by cases h;rfl) (D.mono sub)) ?_;intro V o o' ok I ho;refine aR _ (r V ok λa b h=>I _ _ (sub _ _ h)) ?_;intro χ d M ok H L;refine aR _ (fV S R) ?_;intro ψ z Y ok B y;refine aR _ (lE ((((ho.mono H).mono B).append (L.mono B)).append (pH y.cells _)) e) ?_;intro ω a a' ok Z E;exact aS (.slice (.some E) _ _)
def XW (J:IX P){ts}(W:∀t,ts[0]? =aA t->t<P.types.size)(t){E r}(h:aY Al π E r):bN P Al F (VR Al) π (Builtin.append_ ts t E) (Builtin.append_ ts t r):=by
 unfold Builtin.append_;cases X:ts[0]? with
 |none=>obtain⟨C,K⟩|⟨x,R,C,K,G⟩:=h.get 0<;>rw[C]<;>exact aT
 |some t=>
  obtain⟨C,K⟩|⟨x,R,C,K,G⟩:=h.get 0;{rw[C];exact aT};obtain⟨f1,f2⟩|⟨y,y',f1,f2,p⟩:=h.get 1;{rw[C,f1];exact aT};rw[C,K,f1,f2];refine aR _ (bB t) ?_;rintro ρ u _ ok S ⟨rfl,hu⟩;replace G:=G.mono S;replace p:=p.mono S;cases u with
  |slice e=>
   have O:=J.slice t e (W t X) hu;obtain⟨base,q,s,d,rfl,rfl⟩|N:(∃base q s d,x= .slice base s d/\R= .slice q s d)\/∀base s d,x≠.slice base s d:=by
    cases G with
    |slice D n c=>exact aG ⟨_,_,_,_,rfl,rfl⟩
    |void hV a0=>exact aG ⟨_,_,_,_,rfl,rfl⟩
    |_=>exact aH λ_ _ _ h=>by cases h
   .refine aR _ (bU e) ?_;rintro Z size _ ok I rfl;have D:=G.mono I;replace p:=p.mono I;cases ts[1]? with
    |none=>refine aR (λ_ a b=>a=aF/\b=aF) (aS ⟨rfl,rfl⟩) ?_;rintro U z M ok g ⟨v,m⟩;subst v;subst m;refine aR _ (vM (p.mono g)) ?_;rintro Q n _ ok j ⟨rfl,B⟩;exact nQ J O s d size n ((D.mono g).mono j) aF ((p.mono g).mono j) λ_=>B
    |some V=>
     refine aR _ (bB V) ?_;rintro U u _ ok g ⟨rfl,_⟩;cases u with
     |int k=>refine aR (λ_ a b=>a=aE/\b=aE) (aS ⟨rfl,rfl⟩) ?_;rintro L z M ok f ⟨v,m⟩;subst v;subst m;replace p:=p.mono g;replace D:=D.mono g;refine aR _ (nG (p.mono f)) ?_;rintro Q l _ ok j rfl;by_cases hl:IntKind.i64.wrap l<0;{rw[zAq hl];first|exact dB _|(rw[zAq hl];exact dB _)};{(first|rw[zAn hl,zAn hl]|rw[zAn hl]);refine aR _ (eN e) ?_;rintro Y i _ ok H ⟨rfl,_⟩;by_cases o:IntKind.i64.wrap l*i.bytes>2^48;{(first|rw[zAq o,zAq o]|rw[zAq o]);refine aR _ (fW _) ?_;rintro T made _ ok w rfl;exact dB _};{(first|rw[zAn o,zAn o]|rw[zAn o]);refine aR (λ_ a b=>a=(IntKind.i64.wrap l).toNat/\b=(IntKind.i64.wrap l).toNat) (aS ⟨rfl,rfl⟩) ?_;rintro T z M ok w ⟨v,m⟩;rw[v,m];exact nQ J O s d size (IntKind.i64.wrap l).toNat ((((D.mono f).mono j).mono H).mono w) aE ((((p.mono f).mono j).mono H).mono w) λh=>by cases h}}
     |_=>refine aR (λ_ a b=>a=aF/\b=aF) (aS ⟨rfl,rfl⟩) ?_;rintro L z M ok f ⟨v,m⟩;subst v;subst m;refine aR _ (vM ((p.mono g).mono f)) ?_;rintro Q n _ ok j ⟨rfl,B⟩;exact nQ J O s d size n (((D.mono g).mono f).mono j) aF (((p.mono g).mono f).mono j) λ_=>B
   .cases x<;>first|exact aT|exact absurd rfl (N _ _ _)
  |_=>exact aT
end
section
variable {P:zZ}{Al:zF}{F:Kp}{π:Rn}{α β γ δ:Type}{A:Rn->α->β->Prop} [ok:Ok P π]
def vN (t):bN P Al F (λ_ a b=>a=b/\P.underlying t=aA (.pointer a)) π (elemOf t) (elemOf t):=by
 refine aR _ (bB t) ?_;rintro c u _ ok h ⟨rfl,hu⟩;cases u with
 |pointer e=>exact aS ⟨rfl,hu⟩
 |_=>exact aT
def EP:∀(n){π} [Ok P π] {a b}(acc),bT π a b->bN P Al F ER π (Extern.Bytes.loadBytes a n acc) (Extern.Bytes.loadBytes b n acc):=by
 intro n;induction n with
 |zero=>intro π ok a b acc h;exact aS rfl
 |succ n i=>
  intro π ok a b acc h;refine aR _ (RS h _) ?_;intro e v f ok d c;cases c with
  |int k m=>cases k<;>first|exact aT|exact i _ ((h.mono d).add 1)
  |_=>exact aT
def BV {x a}(h:bF Al π x a):bN P Al F ER π (Extern.Bytes.bytesOf x) (Extern.Bytes.bytesOf a):=by
 cases h with
 |string s=>exact aS rfl
 |slice b n c=>
  cases b with
  |none=>exact aS rfl
  |some d=>exact EP _ _ d
 |void e a0=>exact aS rfl
 |_=>exact aT
def pY {a x}(h:aY Al π a x):(∃l b:zV,a=l.toArray/\x=b.toArray/\aY Al π l.toArray b.toArray):=⟨a.toList,x.toList,by simp,by simp,by rw[toArray_toList,toArray_toList];exact h⟩
def yW (ts)(t){d c}(h:aY Al π d c):bN P Al F (VR Al) π (Builtin.unsafeString_ ts t d) (Builtin.unsafeString_ ts t c):=by
 obtain⟨l,k,rfl,rfl,h⟩:=pY h;have a:=h.size;match l,k with
 |[],[]=>exact aT
 |[x],[j]=>cases(bY h).1<;>exact aT
 |[x,y],[j,u]=>
  have g:=(bY h).1;have v:=(bY (bY h).2).1;cases g with
  |pointer w=>
   refine aR _ (nG v) ?_;rintro D n _ ok m rfl;cases ts[0]? with
   |none=>exact aT
   |some pt=>
    by_cases r:n<0;{simp only[zAq r];exact dB _}
    .simp only[zAn r];by_cases q:n>IntKind.i64.max
     .simp only[zAq q];exact aU
     .simp only[zAn q];cases w with
      |none=>dsimp only;split;{exact aS (.string _)};{exact dB _}
      |some o=>
       by_cases p:n=0;{simp only[zAq p];exact aS (.string _)}
       .simp only[zAn p];refine aR _ (vN pt) ?_;rintro C e _ ok f ⟨rfl,_⟩;refine aR _ (rP ((o.mono m).mono f) e n.toNat) ?_;rintro B b _ ok i rfl;split
        .exact .share (((o.mono m).mono f).mono i) λs=> .pure (.string s)
        .exact aU
  |_=>exact aT
 |x::y::z::l,j::u::E::k=>have g:=(bY h).1;cases g<;>exact aT
 |[],_::_=>simp at a
 |[_],[]=>simp at a
 |[_],_::_::_=>simp at a
 |[_,_],[]=>simp at a
 |[_,_],[_]=>simp at a
 |[_,_],_::_::_::_=>simp at a
 |_::_::_::_,[]=>simp at a
 |_::_::_::_,[_]=>simp at a
 |_::_::_::_,[_,_]=>simp at a
def qM (ts:Array zD)(t:zD)(a:Addr)(n c:Nat):Builtin.unsafeSliceData_ ts t #[.slice (aA a) n c]=(if c≠0 then pure (.pointer (aA a))else do
  if(<-viewAt a.block).isSome then pure (.pointer (aA a))else pure (.pointer (aA ⟨<-newObj (.view a (<-elemOf t)),0,aB⟩))):=rfl
def uJ {t}(B:∀e,P.underlying t=aA (.pointer e)->jR P e)(ts){g f}(C:∀x,g[0]? =aA x->∀b n s,Al (1000002+b)->x≠.slice (aA ⟨b,n,s⟩) 0 0)(h:aY Al π g f):bN P Al F (VR Al) π (Builtin.unsafeSliceData_ ts t g) (Builtin.unsafeSliceData_ ts t f):=by
 obtain⟨l,k,rfl,rfl,h⟩:=pY h;have d:=h.size;match l,k with
 |[],[]=>exact aT
 |[x],[p]=>
  have q:=(bY h).1;cases q with
  |slice w n c=>
   cases w with
   |none=>exact aS (.pointer .none)
   | @some a K i=>
    rw[qM,qM];by_cases o:c≠0;{simp only[zAq o];exact aS (.pointer (.some i))}
    .simp only[zAn o];refine aR _ (qN i.1) ?_;intro G s I ok m u;cases u with
     |some _=>exact aS (.pointer (.some (i.mono m)))
     |none=>refine aR _ (vN t) ?_;rintro E e _ ok j ⟨rfl,he⟩;exact .view (.view ((i.mono m).mono j) e (B e he)) λD r J _ _ v=> .pure (.pointer (.some ⟨v,rfl,rfl⟩))
  |void z a0=>exact absurd rfl (C _ rfl _ _ _ z)
  |_=>exact aT
 |x::y::l,p::H::k=>exact aT
 |[],_::_=>simp at d
 |[_],[]=>simp at d
 |[_],_::_::_=>simp at d
 |_::_::_,[]=>simp at d
 |_::_::_,[_]=>simp at d
def BU {e d}(h:aY Al π e d):bN P Al F (VR Al) π (Extern.BytealgCompare.compare e) (Extern.BytealgCompare.compare d):=by
 obtain⟨l,g,rfl,rfl,h⟩:=pY h;have c:=h.size;match l,g with
 |[],[]=>exact aT
 |[x],[f]=>exact aT
 |[x,y],[f,i]=>have k:=(bY h).1;have j:=(bY (bY h).2).1;refine aR _ (BV k) ?_;rintro p a _ ok n rfl;refine aR _ (BV (j.mono n)) ?_;rintro o b _ ok m rfl;exact aS (.int _ _)
 |x::y::z::l,f::i::q::g=>exact aT
 |[],_::_=>simp at c
 |[_],[]=>simp at c
 |[_],_::_::_=>simp at c
 |[_,_],[]=>simp at c
 |[_,_],[_]=>simp at c
 |[_,_],_::_::_::_=>simp at c
 |_::_::_::_,[]=>simp at c
 |_::_::_::_,[_]=>simp at c
 |_::_::_::_,[_,_]=>simp at c
def IC:∀(n t:Nat){acc a:zA},aY Al π acc a->aY Al π (Extern.BytealgMakeNoZero.digits n t acc) (Extern.BytealgMakeNoZero.digits n t a)
 |0,_,_,_,h=>h
 |n+1,t,_,_,h=>IC n (t/256) (h.push (.int _ _))
def sM (p rs){g f}(h:aY Al π g f):bN P Al F (VR Al) π (Extern.BytealgMakeNoZero.makeNoZero p rs g) (Extern.BytealgMakeNoZero.makeNoZero p rs f):=by
 obtain⟨l,i,rfl,rfl,h⟩:=pY h;have d:=h.size;match l,i with
 |[],[]=>exact aT
 |[x],[j]=>
  have m:=(bY h).1;cases m with
  |int k n=>
   cases k<;>first|exact aT|skip
   unfold Extern.BytealgMakeNoZero.makeNoZero;cases rs[0]? with
   |none=>exact aT
   |some t=>
    refine aR _ (bB t) ?_;rintro D u _ ok G ⟨rfl,_⟩;cases u with
    |slice e=>dsimp only;split;{exact dB _};{refine aR _ (fW _) ?_;rintro C c _ ok s rfl;refine aR _ (sN _) ?_;rintro B _ _ ok r rfl;refine aR _ (fW _) ?_;rintro z b _ ok q rfl;refine aR _ (lE (IC c b .nil) e) ?_;intro w a H ok o v;exact aS (.slice (.some v) _ _)}
    |_=>exact aT
  |_=>exact aT
 |x::y::l,j::E::i=>cases(bY h).1<;>exact aT
 |[],_::_=>simp at d
 |[_],[]=>simp at d
 |[_],_::_::_=>simp at d
 |_::_::_,[]=>simp at d
 |_::_::_,[_]=>simp at d
def RQ {c b}(h:aY Al π c b):bN P Al F (VR Al) π (Extern.AbiNoEscape.same c) (Extern.AbiNoEscape.same b):=by
 obtain⟨l,d,rfl,rfl,h⟩:=pY h;have a:=h.size;match l,d with
 |[],[]=>exact aT
 |[x],[e]=>exact aS (bY h).1
 |x::y::l,e::f::d=>exact aT
 |[],_::_=>simp at a
 |[_],[]=>simp at a
 |[_],_::_::_=>simp at a
 |_::_::_,[]=>simp at a
 |_::_::_,[_]=>simp at a
def pI (p rs)(a a' b b'){c l}(f d)(j:c=0\/l=0):bN P Al F (VR Al) π (Extern.SlicesOverlaps.overlaps p rs #[.slice a c f,.slice b l d]) (Extern.SlicesOverlaps.overlaps p rs #[.slice a' c f,.slice b' l d]):=by
 unfold Extern.SlicesOverlaps.overlaps;cases p[0]? with
 |none=>exact aT
 |some t=>
  refine aR _ (bB t) ?_;rintro m u _ ok n ⟨rfl,_⟩;cases u with
  |slice e=>refine aR _ (bU e) ?_;rintro k size _ ok g rfl;have i:c=0\/l=0\/size=0:=j.elim aG λh=>aH (aG h);cases a<;>cases b<;>cases a'<;>cases b'<;>dsimp only<;>(try simp only[zAq i])<;>exact aS (.bool _)
  |_=>exact aT
def wN (hF:∀b,¬F b)(p rs){o g}(h:aY Al π o g):bN P Al F (VR Al) π (Extern.SlicesOverlaps.overlaps p rs o) (Extern.SlicesOverlaps.overlaps p rs g):=by
 obtain⟨l,B,rfl,rfl,h⟩:=pY h;have c:=h.size;match l,B with
 |[],[]=>exact aT
 |[x],[v]=>cases(bY h).1<;>exact aT
 |[x,y],[v,H]=>
  have J:=(bY h).1;have C:=(bY (bY h).2).1;cases J with
  |slice M I ca=>
   cases C with
   |slice s w O=>
    unfold Extern.SlicesOverlaps.overlaps;cases p[0]? with
    |none=>exact aT
    |some t=>
     refine aR _ (bB t) ?_;rintro ρ u _ ok D ⟨rfl,_⟩;cases u with
     |slice e=>
      dsimp only;refine aR _ (bU e) ?_;rintro Z size _ ok r rfl;cases M with
      |none=>cases s<;>exact aS (.bool _)
      | @some a S j=>
       cases s with
       |none=>exact aS (.bool _)
       | @some b R hb=>
        replace j:=(j.mono D).mono r;replace hb:=(hb.mono D).mono r;have G:=uI ok j hb;have N:(S.block !=R.block)=(a.block !=b.block):=by{unfold bne;rw[G]};dsimp only;rw[G,N,j.2.1,hb.2.1];by_cases k:I=0\/w=0\/size=0;{(first|rw[zAq k,zAq k]|rw[zAq k]);exact aS (.bool _)}
        ·(first|rw[zAn k,zAn k]|rw[zAn k]);refine aR _ (lF hF j) ?_;rintro Y f1 _ ok d rfl;refine aR _ (lF hF (hb.mono d)) ?_;rintro X f2 _ ok f rfl;split;{exact aU}
         .split
          .refine aR _ (nO ((j.mono d).mono f)) ?_;rintro W _ _ ok i rfl;refine aR _ (nO (((hb.mono d).mono f).mono i)) ?_;rintro V _ _ ok q rfl;refine aR _ (wP hF ((((j.mono d).mono f).mono i).mono q) ((((hb.mono d).mono f).mono i).mono q)) ?_;rintro U m _ ok L rfl;split
           .refine aR _ (fW _) ?_;rintro T n _ ok K rfl;exact aS (.bool _)
           .exact aS (.bool _)
          .exact aS (.bool _)
     |_=>exact aT
   |void E Q=>exact pI p rs _ _ _ _ _ _ (aH rfl)
   |_=>exact aT
  |void E a0=>
   cases C with
   |slice s w O=>exact pI p rs _ _ _ _ _ _ (aG rfl)
   |void E Q=>exact pI p rs _ _ _ _ _ _ (aG rfl)
   |_=>exact aT
  |_=>exact aT
 |x::y::z::l,v::H::z'::B=>cases(bY h).1<;>first|exact aT|(cases(bY (bY h).2).1<;>exact aT)
 |[],_::_=>simp at c
 |[_],[]=>simp at c
 |[_],_::_::_=>simp at c
 |[_,_],[]=>simp at c
 |[_,_],[_]=>simp at c
 |[_,_],_::_::_::_=>simp at c
 |_::_::_::_,[]=>simp at c
 |_::_::_::_,[_]=>simp at c
 |_::_::_::_,[_,_]=>simp at c
end
def AU {P α}{f:zZ->Sem α}(h:mU P (f P)):mU P (program>>=f):=λv e=>h v e
def MJ {P α}{f:TypeInfo->Sem α}(h:∀i,P.info? 1000000=aA i->mU P (f i)):mU P (typeInfo 1000000>>=f):=λv a=>by
 show∃hl w e,Sem.runT P (Sem.bind (match P.info? 1000000 with|some i=>pure i|none=>stuck "no such type") f) v a=(.halt hl w,e)/\Fatal hl;cases hi:P.info? 1000000 with
 |none=>exact⟨.stuck "no such type",v,a,rfl,aG ⟨_,rfl⟩⟩
 |some i=>exact h i hi v a
def VI {P}(h:∀i,P.info? 1000000=aA i->i.methods.find? (·.name== "")=aB)(n)(v):mU P (method n 1000000 v ""):=by
 cases n with
 |zero=>exact rC
 |succ n=>unfold method;exact MJ λi hi=>by rw[h i hi];exact oC
def CV {P}(h:∀i,P.info? 1000000=aA i->i.methods.find? (·.name== "")=aB)(v)(x):mU P (callMethod (.iface 1000000 v) "" x):=by exact AU (mU.bind (VI h _ v))
def VJ {P}(h:∀i,P.info? 1000000=aA i->i.methods.find? (·.name== "")=aB)(z)(x):mU P (do let d<-aEI (.func (.method "") #[.iface 1000000 .nilIface] #[z]) x;invoke d.target d.args):=by
 show mU P (invoke (.fn (.method "") #[z]) (#[.iface 1000000 .nilIface]++x));unfold invoke;have e:(#[Value.iface 1000000 .nilIface]++x)[0]? =aA (.iface 1000000 .nilIface):=by rw[zCv (by simp)];rfl
 rw[e];exact CV h _ _
def vE {P α}(a:∀i,P.info? 1000000=aA i->i.methods.find? (·.name== "")=aB)(n)(v){f:Option Bool->Sem α}(h:mU P (f aB)):mU P (nilAhead n 1000000 v "">>=f):=by
 cases n with
 |zero=>exact h
 |succ n=>unfold nilAhead;exact mU.bind (MJ λi hi=>by rw[a i hi];exact oC)
inductive IZ (Al:zF)(π:Rn):Deferred->Deferred->Prop
 |fn {f:zN} (hf:Al f) {cs cs' KH vZ:zA} (hc:aY Al π cs cs') (ha:aY Al π KH vZ) (hz:KH.size+cs.size<=20):IZ Al π ⟨.fn (.func f) cs,KH⟩ ⟨.fn (.func f) cs',vZ⟩
 |nil {KH vZ:zA} (ha:aY Al π KH vZ):IZ Al π ⟨.nil,KH⟩ ⟨.nil,vZ⟩
structure IY (Al:zF)(π:Rn)(d d':Deferred):Prop where
 rel:IZ Al π d d'
 lets:∃f cs KH,d=⟨.fn (.func f) cs,KH⟩/\Al (900000+f)
inductive IT (Al:zF)(π:Rn):Next->Next->Prop
 |value {v v':zY} (h:bF Al π v v'):IT Al π (.value v) (.value v')
 |skip:IT Al π .skip .skip
 |enter {f:zN} (hf:Al f) {KH vZ:zA} (ha:aY Al π KH vZ) (hz:KH.size<=20):IT Al π (.enter f KH) (.enter f vZ)
 |defer {d d':Deferred} (h:IY Al π d d'):IT Al π (.defer d) (.defer d')
inductive pG (Al:zF)(π:Rn):Next->Next->Prop
 |value {v v':zY} (h:bF Al π v v'):pG Al π (.value v) (.value v')
 |skip:pG Al π .skip .skip
 |enter {f:zN} (hf:Al f) {KH vZ:zA} (ha:aY Al π KH vZ) (hz:KH.size<=20):pG Al π (.enter f KH) (.enter f vZ)
def pG.to {Al π n n'}(h:pG Al π n n'):IT Al π n n':=by
 cases h with
 |value h=>exact .value h
 |skip=>exact .skip
 |enter b c a=>exact .enter b c a
def bN.imp {P Al F α β A c}(f:∀π a b,A π a b->c π a b){π}{s:Sem α}{s':Sem β}(h:bN P Al F A π s s'):bN P Al F c π s s':=by
 induction h with
 |pure h=>exact .pure (f _ _ _ h)
 |load h _ i=>exact .load h i
 |store h d _ i=>exact .store h d i
 |new h _ i=>exact .new h i
 |marked hC h _ i=>exact .marked hC h i
 |view h _ i=>exact .view h i
 |getObj h _ i=>exact .getObj h i
 |shape h _ i=>exact .shape h i
 |freeze hF h _ i=>exact .freeze hF h i
 |frozen hF h _ i=>exact .frozen hF h i
 |share h _ i=>exact .share h i
 |same e h g _ i=>exact .same e h g i
 |choose _ i=>exact .choose i
 |program he _ i=>exact .program he i
 |env _ i=>exact .env i
 |mark hm _ i=>exact .mark hm i
 |panic h=>exact .panic h
 |dead h=>exact .dead h
def IZ.mono {Al π ρ}(h:∀b b',π b b'->ρ b b'){d c}(x:IZ Al π d c):IZ Al ρ d c:=by
 cases x with
 |fn f g a e=>exact .fn f (g.mono h) (a.mono h) e
 |nil a=>exact .nil (a.mono h)
def IY.mono {Al π ρ}(h:∀b b',π b b'->ρ b b'){d a}(x:IY Al π d a):IY Al ρ d a:=⟨x.rel.mono h,x.lets⟩
def BD (P:zZ)(b:Builtin)(ts:Array zD)(t:zD):Prop:=
 match b with
 | .append| .clear=>∀u,ts[0]? =aA u->u<P.types.size
 | .cap| .copy| .len| .min| .unsafeString=>True
 | .unsafeSliceData=>∀e,P.underlying t=aA (.pointer e)->jR P e
 |_=>False
def BC (P:zZ)(Al:zF):Operand->Prop
 | .tmp _=>True
 | .const v=>∀π,Ok P π->bF Al π v v
 | .global g=>g<=P.globals.size
 | .func f=>Al f
def vW (P:zZ)(Al:zF)(name:String):Prop:=
 ∀t i m,P.info? t=aA i->i.methods.find? (·.name==name)=aA m->m.path= #[]/\∃f,m.func=aA (f,aE)/\Al f
def Qk (P:zZ)(Al:zF)(ts:Array zD)(t:zD):Callee->Prop
 | .value _=>True
 | .builtin b=>BD P b ts t
 | .invoke _ m=>vW P Al m
def QA (P:zZ)(Al:zF)(F:Kp)(o:Oper):Prop:=
 (∀x∈o.op.operands,BC P Al x)/\
 match o.op with
 | .move _| .assign _| .pick .. | .box .. | .load .. | .store .. | .nilCheck _| .unOp .. | .makeInterface .. | .slice .. | .fieldAddr .. | .field .. | .indexAddr .. | .index .. | .extract .. | .panic _=>True
 | .alloc t| .build t _| .buildSlice t _ _| .makeSlice t _ _=>t<P.types.size
 | .binOp op t _ _ _=>((op= .eql\/op= .neq)->IP P Op.maxDepth t)/\((F.cmp\/∀b,¬F b)\/(op≠.eql/\op≠.neq)\/Basic P t\/∃e i,P.underlying t=aA (.pointer e)/\P.info? e=aA i/\i.size≠0)
 | .convert s d _=>Bm P F s d
 | .makeFunc fn a b=>a.size+b.size<=10/\match fn with| .func f=>Al f|_=>False
 | .call c=>c.args.size<=10/\Qk P Al c.argTypes o.type c.callee
 | .defer c=>c.args.size<=10/\∃f,c.callee= .value (.func f)/\Al (900000+f)
 |_=>False
def QB (P:zZ)(F:Kp)(o:Oper)(e:Operand->zY):Prop:=∀op t x y u,o.op= .binOp op t x y u->(F.cmp\/∀b,¬F b)\/(op≠.eql/\op≠.neq)\/Basic P t\/tQ P t (e x) (e y)
def rL (P:zZ)(F:Kp)(fr:zC):Prop:=fr.mode= .run->∀ops j rest k o,fr.todo=aM ops (j::rest)::k->ops[j]? =aA o->QB P F o fr.eval
def yC {P F}(h:∀b,¬F b){fr}:rL P F fr:=λ_ _ _ _ _ _ _ _ _ _ _ _ _ _=>aG (aH h)
def Zh (Al:zF)(o:Oper)(e:Operand->zY):Prop:=∀c,o.op= .call c->c.callee= .builtin .unsafeSliceData->∀x,(c.args.map e)[0]? =aA x->∀b n s,Al (1000002+b)->x≠.slice (aA ⟨b,n,s⟩) 0 0
def oH (Al:zF)(fr:zC):Prop:=fr.mode= .run->∀ops j rest k o,fr.todo=aM ops (j::rest)::k->ops[j]? =aA o->Region.wanted o (yielded ops fr.tmps)=aE->Zh Al o fr.eval
def jP {Al}(h:∀k,¬Al (1000002+k)){fr}:oH Al fr:=λ_ _ _ _ _ _ _ _ _ _ _ _ _ _ _ _ _ a=>absurd a (h _)
def QA.nd {P Al F o}(h:QA P Al F o)(b:∀f,¬Al (900000+f))(c):o.op≠.defer c:=λe=>by have:=h.2;rw[e]at this;obtain⟨_,f,_,a⟩:=this;exact b f a
structure Met (P:zZ)(Al:zF)(F:Kp):Prop where
 Od:IX P
 Rh:∀i,P.info? 1000000=aA i->i.methods.find? (·.name== "")=aB
 name:∀f fn,Al f->P.funcs[f]? =aA fn->fn.name≠ "runtime.NumGoroutine"
 mI:∀f fn,Al f->P.funcs[f]? =aA fn->fn.body=aB->Extern.findNext fn=aB/\∃e,Extern.find fn=aA e/\∀(π:Rn) KH vZ,Ok P π->aY Al π KH vZ->bN P Al F (VR Al) π (e KH) (e vZ)
section
variable {P:zZ}{Al:zF}{F:Kp}{π:Rn}{α β γ δ:Type}{A:Rn->α->β->Prop} [ok:Ok P π]
def gH {s s'}(h:bN P Al F (VR Al) π s s'):bN P Al F (pG Al) π (do pure (.value (<-s))) (do pure (.value (<-s'))):=by refine aR _ h ?_;intro b v c ok d a;exact aS (.value a)
def bg {s s'}(h:bN P Al F ER π s s'):bN P Al F (pG Al) π (do s;pure .skip) (do s';pure .skip):=by refine aR _ h ?_;rintro a _ _ ok b rfl;exact aS .skip
def SC (e:IX P){b ts t}(d:BD P b ts t)(cs){c a}(f:b= .unsafeSliceData->∀x,c[0]? =aA x->∀b n s,Al (1000002+b)->x≠.slice (aA ⟨b,n,s⟩) 0 0)(h:aY Al π c a):
  bN P Al F (pG Al) π (builtin b ts t cs c) (builtin b ts t cs a):=by
 cases b<;>first
  |exact d.elim
  |exact gH (XW e d t h)
  |exact gH (Fj e d t h)
  |exact gH (Sc ts t h)
  |exact gH (Ky ts t h)
  |exact gH (Sb ts t h)
  |exact gH (Sa ts t h)
  |exact gH (yW ts t h)
  |exact gH (uJ d ts (f rfl) h)
def wT (M:Met P Al F){f}(j:Al f){d x}(h:aY Al π d x)(m:d.size<=20):bN P Al F (pG Al) π (callFunc f d) (callFunc f x):=by
 refine dU (λB i=> ?_) ?_
 .obtain e|⟨a,b,k,z,y,w,v,_⟩:=i f
  .dsimp only;rw[e]
  .dsimp only;rw[k,z];dsimp only;rw[y,Option.isNone_eq_false_iff.2 w,Option.isNone_eq_false_iff.2 v];rfl
 rintro l p q ok i ⟨o,n⟩;rw[o,n];cases g:P.funcs[f]? with
 |none=>exact aT
 |some fn=>
  dsimp only;have r:=M.name f fn j g;have k:=zDx r;rw[k];simp only[zAz,zDc];cases hb:fn.body with
  |some c=>exact aS (.enter j (h.mono i) m)
  |none=>obtain⟨u,e,t,s⟩:=M.mI f fn j g hb;simp only[Option.isNone_none,zCq,u,t];refine .mark (aH ⟨f,rfl⟩) ?_;exact gH (s l d x ok (h.mono i))
def NT (x){v v'}(h:bF Al π v v')(wr):bN P Al F (VR Al) π (receiverAt x (.val v) aE wr) (receiverAt x (.val v') aE wr):=by
 refine aR _ (bB x) ?_;rintro d a b ok c ⟨rfl,_⟩;cases a with
 |pointer e=>exact aS (h.mono c)
 |_=>exact aT
def XP {name}(q:vW P Al name)(fuel)(t){v v'}(h:bF Al π v v'):
  bN P Al F (λπ a b=>b.1=a.1/\Al a.1/\bF Al π a.2 b.2) π (method fuel t v name) (method fuel t v' name):=by
 cases fuel with
 |zero=>exact aU
 |succ fuel=>
  refine aR _ (eN t) ?_;rintro j i _ ok n ⟨rfl,hi⟩;cases r:i.methods.find? (·.name==name)with
  |none=>exact aT
  |some m=>
   obtain⟨p,f,c,d⟩:=q t i m hi r;dsimp only;rw[p,c];have e:∀x,follow (#[]:Array FieldStep).toList t x=pure (t,x):=λx=>by rfl
   rw[e,e];show bN P Al F _ j (do pure (f,<-receiverAt t (.val v) aE (if(#[]:Array FieldStep).isEmpty=aE then aA ((name.splitOn ".").getLastD name)else aB))) (do pure (f,<-receiverAt t (.val v') aE (if(#[]:Array FieldStep).isEmpty=aE then aA ((name.splitOn ".").getLastD name)else aB)));refine aR _ (NT t (h.mono n) _) ?_;intro g x s o l k;exact aS ⟨rfl,d,k⟩
def EO (M:Met P Al F){name}(v:vW P Al name){x i}(m:bF Al π x i){a b}(h:aY Al π a b)(B:a.size<=10):
  bN P Al F (pG Al) π (invoke (.fn (.method name) #[]) (#[x]++a)) (invoke (.fn (.method name) #[]) (#[i]++b)):=by
 have e:∀(x:zY)(a:zA),invoke (.fn (.method name) #[]) (#[x]++a)=callMethod x name a:=λx a=>by
  have d:(#[x]++a)[0]? =aA x:=by rw[zCv (by simp)];rfl
  have w:(#[x]++a).extract 1 (#[x]++a).size=a:=by rw[Array.extract_append];simp
  unfold invoke;rw[d,w]
 rw[e,e];cases m with
 |iface t n=>refine dU (λ_ _=>rfl) ?_;rintro y p q ok j ⟨u,s⟩;rw[u,s];refine aR _ (XP v _ t (n.mono j)) ?_;rintro l ⟨f,r⟩ ⟨C,z⟩ o g ⟨d,c,k⟩;dsimp only at d c k;subst d;exact wT M c ((aY.one k).append ((h.mono j).mono g)) (by simp only[zEd,zAr,zAh,zBb];omega)
 |nilIface=>exact iN
 |_=>exact aT
def BQ (M:Met P Al F){d a}(h:IZ Al π d a):bN P Al F (pG Al) π (invoke d.target d.args) (invoke a.target a.args):=by
 cases h with
 |fn e f b c=>exact wT M e (b.append f) (by simpa only[zEd]using c)
 |nil b=>exact iN
omit ok in
def DC {e f}(l:Array Operand)(h:∀x∈l,bF Al π (e x) (f x)):aY Al π (l.map e) (l.map f):=by refine⟨by simp,λi v g d a=> ?_⟩;rw[zCd]at d a;obtain⟨x,c,rfl⟩:=zBm.1 d;obtain⟨y,b,rfl⟩:=zBm.1 a;rw[c]at b;cases b;exact h x (zBf c)
def RR {x d}(c:¬∃z,x=(.func (.method "") #[.iface 1000000 .nilIface] #[z]))(e:bF Al π x d){b a}(h:aY Al π b a)(l:b.size<=10):bN P Al F (IZ Al) π (aEI x b) (aEI d a):=by
 cases e with
 |func f k j m i g=>exact aS (.fn f ⟨j,g⟩ ((aY.mk k i).append h) (by simp only[zEd];omega))
 |nilFunc=>exact aS (.nil h)
 |junk v _=>exact absurd ⟨_,rfl⟩ c
 |same _ z=>exact absurd ⟨z,rfl⟩ c
 |_=>exact aT
def ET {x f}(i:bF Al π x f):bN P Al F (VR Al) π (Instr.panic x) (Instr.panic f):=by
 cases i with
 |iface t h=>exact nF (.iface t h)
 |nilIface=>
  refine aR ER ?_ ?_
  .unfold Instr.panicnil;refine .env λr=> ?_;refine aR ER (aS rfl) ?_;rintro d r _ ok g rfl;cases r<;>first|exact aT|skip
   refine dU (λ_ _=>rfl) ?_;rintro d p q ok g ⟨c,b⟩;rw[c,b];exact aS rfl
  .rintro d n _ ok g rfl;split
   .exact nF .nilIface
   .unfold aEG;refine dU (λ_ _=>rfl) ?_;rintro u p q ok l ⟨c,b⟩;rw[c,b];refine aR _ (vN _) ?_;rintro s e _ ok k ⟨rfl,_⟩;refine aR _ (vL (.agg rfl (by simp)) e) ?_;intro o a v ok j m;exact nF (.iface _ (.pointer (.some m)))
 |_=>exact aT
def NU {x g}(l:∀i,P.info? 1000000=aA i->i.methods.find? (·.name== "")=aB)(r:bF Al π x g)(e m:Operand->zY)(o j)(y)(v:o.op= .nilCheck y)(f:j.op= .nilCheck y)(q:e y=x)(d:m y=g):bN P Al F (pG Al) π (aEH e o) (aEH m j):=by
 unfold aEH;rw[v,f];dsimp only;rw[q,d];cases r with
 |pointer u=>cases u with
  |none=>exact iN
  |some h=>exact aS (.value (.pointer (.some h)))
 |nilIface=>exact iN
 |nilFunc=>exact iN
 |func w a E p D C=>exact aS (.value (.func w a E p D C))
 |bool b=>exact aS (.value (.bool b))
 |int k n=>exact aS (.value (.int k n))
 |string s=>exact aS (.value (.string s))
 |slice y n c=>exact aS (.value (.slice y n c))
 |void B a0=>exact aS (.value (.void B a0))
 |iface t i=>exact aS (.value (.iface t i))
 |jC=>exact aS (.value .jC)
 |gL=>exact aS (.value .gL)
 |agg a i=>exact aS (.value (.agg a i))
 |tuple a i=>exact aS (.value (.tuple a i))
 |junk G _=>exact .dead (AU (vE l _ _ rC))
 |same _ z=>exact .dead (AU (vE l _ _ rC))
omit ok in
def OL {e a}(x:Option Operand)(h:∀y∈x.toArray,bF Al π (e y) (a y)):lC Al π (x.map e) (x.map a):=by
 cases x with
 |none=>exact .none
 |some y=>exact .some (h y (by simp))
omit ok in
def LG {e a:Operand->zY}:∀(l:List (Nat×Operand)),(∀p∈l,bF Al π (e p.2) (a p.2))->vF Al π (l.map λ(i,x)=>(i,e x)) (l.map λ(i,x)=>(i,a x))
 |[],_=>trivial
 |p::l,h=>⟨rfl,h p (by simp),LG l λq b=>h q (by simp[b])⟩
omit ok in
def LH {e b:Operand->zY}(a:Array (Nat×Operand))(h:∀x∈(a.toList.map (·.2)).toArray,bF Al π (e x) (b x)):vF Al π (a.map λ(i,x)=>(i,e x)).toList (a.map λ(i,x)=>(i,b x)).toList:=by rw[zFq,zFq];exact LG a.toList λp c=>h p.2 (by simp only[zAp,zCg];exact⟨p,c,rfl⟩)
def BS (M:Met P Al F){o}(L:QA P Al F o){e C}(K:QB P F o e)(hs:Zh Al o e)(H:∀c,o.op≠.defer c)(N:∀x,BC P Al x->bF Al π (e x) (C x)):bN P Al F (pG Al) π (aEH e o) (aEH C o):=by
 obtain⟨B,j⟩:=L;have g:∀x∈o.op.operands,bF Al π (e x) (C x):=λx q=>N x (B x q);cases s:o.op;case nilCheck x=>rw[s]at g;exact NU M.Rh (g x (by simp[Op.operands])) e C o o x s s rfl rfl
 all_goals
  rw[s]at j g
  unfold aEH
  rw[s]
 case move x=>exact aS (.value (g _ (by simp[Op.operands])))
 case assign x=>exact aS (.value (g _ (by simp[Op.operands])))
 case pick c a b=>
  refine aR _ (EX (g c (by simp[Op.operands]))) ?_
  rintro D t _ ok hs rfl
  refine aS (.value ?_)
  cases t
  .exact(g b (by simp[Op.operands])).mono hs
  .exact(g a (by simp[Op.operands])).mono hs
 case alloc t=>exact gH (Fq M.Od j)
 case box t x=>exact gH (Sd t (g x (by simp[Op.operands])))
 case build t E=>exact gH (Fl M.Od j (LH E g))
 case buildSlice t n E=>exact gH (EW M.Od j n (LH E g))
 case load t a=>
  refine gH ?_
  refine aR _ (kO (g a (by simp[Op.operands]))) ?_
  intro D x S ok hs q
  exact BP q t
 case store t a x=>
  refine bg ?_
  refine aR _ (kO (g a (by simp[Op.operands]))) ?_
  intro D y R ok hs v
  exact NS v ((g x (by simp[Op.operands])).mono hs) t
 case binOp op t x y u=>
  refine gH ?_
  refine aR _ (RZ op t x y (g x (by simp[Op.operands])) (g y (by simp[Op.operands]))) ?_
  rintro D _ _ ok hs rfl
  exact Fo op t j.1 (K op t x y u s) ((g x (by simp[Op.operands])).mono hs) ((g y (by simp[Op.operands])).mono hs)
 case unOp op t x=>exact gH (Fc op (g x (by simp[Op.operands])))
 case convert a b x=>exact gH (SA j (g x (by simp[Op.operands])))
 case makeInterface t x=>exact gH (wQ t (g x (by simp[Op.operands])))
 case makeFunc fn first captured=>
  obtain⟨G,j⟩:=j
  cases fn with
  |func f=>
   have J:=DC first λx q=>g x (by simp[Op.operands,q])
   have I:=DC captured λx q=>g x (by simp[Op.operands,q]);exact aS (.value (.func j J.size I.size (by simpa only[aED]using G) J.at' I.at'))
  |_=>exact j.elim
 case makeSlice t l c=>exact gH (JI M.Od j (g l (by simp[Op.operands])) (g c (by simp[Op.operands])))
 case slice t x l h m=>
  exact gH (RO t (g x (by simp[Op.operands])) (OL l λy v=>g y (by simp only[Op.operands];simp only[zEg];exact aG (aG (aH v))))
   (OL h λy v=>g y (by simp only[Op.operands];simp only[zEg];exact aG (aH v))) (OL m λy v=>g y (by simp only[Op.operands];simp only[zEg];exact aH v)))
 case fieldAddr t x i=>exact gH (RX t (g x (by simp[Op.operands])) i)
 case field t x i=>exact gH (Fi t (g x (by simp[Op.operands])) i)
 case indexAddr t x i=>exact gH (RU t (g x (by simp[Op.operands])) (g i (by simp[Op.operands])))
 case index t x i=>exact gH (Fh t (g x (by simp[Op.operands])) (g i (by simp[Op.operands])))
 case extract x i=>exact gH (RY (g x (by simp[Op.operands])) i)
 case panic x=>exact gH (ET (g x (by simp[Op.operands])))
 case call c=>
  have k:aY Al π (c.args.map e) (c.args.map C):=DC c.args λx q=>g x (by simp only[Op.operands,Call.operands,zEg];exact aH q)
  obtain⟨G,j⟩:=j
  have w:(c.args.map e).size<=10:=by rw[aED];exact G
  obtain⟨callee,args,T⟩:=c
  cases callee with
  |value f=>by_cases p:∃z,e f=(.func (.method "") #[.iface 1000000 .nilIface] #[z]);{obtain⟨z,p⟩:=p;refine .dead ?_;show mU P (do let d<-aEI (e f) (args.map e);invoke d.target d.args);rw[p];exact VJ M.Rh z _};refine aR _ (RR p (g f (by simp[Op.operands,Call.operands])) k w) ?_;intro D d U ok hs O;exact BQ M O
  |builtin b=>exact SC M.Od j _ (λQ=>hs _ s (by rw[Q])) k
  |invoke r m=>exact EO M j (g r (by simp[Op.operands,Call.operands])) k w
 case defer c=>exact absurd s (H c)
 all_goals exact j.elim
def ES (M:Met P Al F){d a}(h:IZ Al π d a):bN P Al F (IT Al) π (invoke d.target d.args) (invoke a.target a.args):=(BQ M h).imp λ_ _ _ x=>x.to
def EV (M:Met P Al F){o:Oper}(m:QA P Al F o){e b:Operand->zY}(r:QB P F o e)(hs:Zh Al o e)(j:∀x,BC P Al x->bF Al π (e x) (b x))(u:∀f,e (.func f)= .func (.func f) #[] #[]:=by exactλ_=>rfl)(k:∀f,b (.func f)= .func (.func f) #[] #[]:=by exactλ_=>rfl):bN P Al F (IT Al) π (aEH e o) (aEH b o):=by
 by_cases g:∃c,o.op= .defer c
 .obtain⟨c,n⟩:=g;obtain⟨h,d⟩:=m;rw[n]at h d;obtain⟨p,f,i,t⟩:=d;obtain⟨callee,args,v⟩:=c;dsimp only at i p;subst i;have a:=DC args λx q=>j x (h x (by simp[Op.operands,Call.operands,q]));have s:bF Al π (e (.func f)) (b (.func f)):=j _ (h _ (by simp[Op.operands,Call.operands]));unfold aEH;rw[n];show bN P Al F (IT Al) π (do pure (Next.defer (<-aEI (e (.func f)) (args.map e)))) (do pure (Next.defer (<-aEI (b (.func f)) (args.map b))));rw[u f,k f];have l:=h (.func f) (by simp[Op.operands,Call.operands]);exact aS (.defer ⟨.fn l .nil ((aY.nil).append a) (by simp;omega),f,_,_,rfl,t⟩)
 exact(BS M m r hs (λc i=>g ⟨c,i⟩) j).imp λ_ _ _ x=>x.to
end
open Go.Conc (G)
def lO (P:zZ)(Al:zF)(F:Kp):Code->Prop
 | .region _ ops _=>∀o∈ops,QA P Al F o
 | .seq a b=>lO P Al F a/\lO P Al F b
 | .cond c a b=>BC P Al c/\lO P Al F a/\lO P Al F b
 | .block _ b| .loop b| .scope b=>lO P Al F b
 | .rangeFunc .. =>False
 |_=>True
def kZ (P:zZ)(Al:zF)(F:Kp):Item->Prop
 | .code c| .inLoop c| .inScope c=>lO P Al F c
 | .inBlock _=>True
 |aM ops _=>∀o∈ops,QA P Al F o
 |_=>False
structure Eb (Al:zF)(π:Rn)(x x':PanicEntry):Prop where
 v:bF Al π x.v x'.v
 recovered:x'.recovered=x.recovered
 goexit:x'.goexit=x.goexit
inductive gG {α:Type}(R:α->α->Prop):List α->List α->Prop
 |nil:gG R [] []
 |cons {a a':α} {l l':List α} (h:R a a') (hl:gG R l l'):gG R (a::l) (a'::l')
inductive QC (Al:zF)(π:Rn):FrameMode->FrameMode->Prop
 |run:QC Al π .run .run
 |returning:QC Al π .returning .returning
 |panicking {l l':List PanicEntry} (h:gG (Eb Al π) l l'):QC Al π (.panicking l) (.panicking l')
def gG.imp {α:Type}{R S:α->α->Prop}(h:∀a b,R a b->S a b):∀{l c:List α},gG R l c->gG S l c
 |_,_,.nil=> .nil
 |_,_,.cons x y=> .cons (h _ _ x) (y.imp h)
def gG.append {α:Type}{R:α->α->Prop}:∀{l b m a:List α},gG R l b->gG R m a->gG R (l++m) (b++a)
 |_,_,_,_,.nil,k=>k
 |_,_,_,_,.cons x y,k=> .cons x (y.append k)
structure cL (P:zZ)(Al:zF)(F:Kp)(π:Rn)(fr fr':zC):Prop where
 fn:fr'.fn=fr.fn
 al:Al fr.fn
 tmps:aY Al π fr.tmps fr'.tmps
 todo:fr'.todo=fr.todo
 items:∀i∈fr.todo,kZ P Al F i
 defers:gG (IY Al π) fr.defers fr'.defers
 mode:QC Al π fr.mode fr'.mode
 kind:fr'.kind=fr.kind
 kinds:fr.kind= .normal\/fr.kind= .deferred
 round:fr.roundOf=aB
 pL:fr'.roundOf=aB
def QC.mono {Al π ρ}(h:∀b b',π b b'->ρ b b'){m c}(x:QC Al π m c):QC Al ρ m c:=by
 cases x with
 |run=>exact .run
 |returning=>exact .returning
 |panicking l=>exact .panicking (l.imp λa b y=>⟨y.v.mono h,y.recovered,y.goexit⟩)
def cL.mono {P:zZ}{Al:zF}{F:Kp}{π ρ:Rn}(h:∀b b',π b b'->ρ b b'){fr fr':zC}(x:cL P Al F π fr fr'):cL P Al F ρ fr fr':=
 ⟨x.fn,x.al,x.tmps.mono h,x.todo,x.items,x.defers.imp λ_ _ y=>y.mono h,x.mode.mono h,x.kind,x.kinds,x.round,x.pL⟩
structure um (P:zZ)(Al:zF)(F:Kp)(π:Rn)(cs cs':zL)(g g':zH)(fr fr':zC)(own own':zL):Prop where
 left:g=G fr (own++cs)
 right:g'=G fr' (own'++cs')
 frame:cL P Al F π fr fr'
 own:gG (cL P Al F π) own own'
def GR (P:zZ)(Al:zF)(F:Kp)(π:Rn)(cs cs':zL)(g a:zH):Prop:=∃fr fr' own own',um P Al F π cs cs' g a fr fr' own own'
structure cF (P:zZ)(Al:zF)(F:Kp):Prop where
 met:Met P Al F
 body:∀f fn c,Al f->P.funcs[f]? =aA fn->fn.body=aA c->lO P Al F c
def Stepped (P:zZ)(Al:zF)(F:Kp)(π:Rn)(cs cs':zL)(v w:zW)(s s':GStep):Prop:=
 (∃o u c,s= .ended o u c)\/(∃fr own a c,s= .go (G fr (own++cs)) a c/\Uo F a)\/
 ∃d f a c g w1 b,s= .go f a c/\s'= .go g w1 b/\GR P Al F d cs cs' f g/\bQ P Al F d a w1/\iY F π d v a w w1/\∀e∈b,mS F d e
section
variable {P:zZ}{Al:zF}{F:Kp}{π:Rn}{cs cs' own own':zL}{v w:zW}{fr fr':zC}
def cL.eval (h:cL P Al F π fr fr')(ok:Ok P π)(x)(b:BC P Al x):bF Al π (fr.eval x) (fr'.eval x):=by
 cases x with
 |tmp t=>simp only[Frame.eval];obtain⟨d,e⟩|⟨a,j,d,e,i⟩:=h.tmps.get t;{simp only[zAt,d,e];exact eA};{simp only[zAt,d,e];exact i}
 |const c=>exact b π ok
 |global g=>exact .pointer (.some ⟨ok.gW g b,rfl,rfl⟩)
 |func f=>exact .func b rfl rfl (by simp) (by simp) (by simp)
def Stepped.same (h:bQ P Al F π v w){f f'}(b:cL P Al F π f f')(a:gG (cL P Al F π) own own'):
  Stepped P Al F π cs cs' v w (.go (G f (own++cs)) v) (.go (G f' (own'++cs')) w):=by
 exact aH (aH ⟨π,_,v,_,_,w,#[],rfl,rfl,⟨f,f',own,own',rfl,rfl,b,a⟩,h,iY.refl v w,by simp⟩)
def Stepped.ended {o u es s'}:Stepped P Al F π cs cs' v w (.ended o u es) s':=aG ⟨o,u,es,rfl⟩
def Aa {id}:∀{k k'},exitTo id k=aA k'->∀i∈k',i∈k:=by
 intro k;induction k with
 |nil=>intro k' h;cases h
 |cons x k a=>
  intro k' h i hi;cases x with
  |inBlock b=>simp only[exitTo]at h;split at h;{cases h;exact zBh _ hi};{exact zBh _ (a h i hi)}
  |_=>simp only[exitTo]at h;exact zBh _ (a h i hi)
def OZ:∀{c l r},lO P Al F c->findLabel c l=aA r->lO P Al F r:=by
 intro c;induction c with
 |seq a b f i=>intro l r h d;simp only[findLabel]at d;split at d;{rename_i rest e;cases d;exact⟨f h.1 e,h.2⟩};{exact i h.2 d}
 |label g=>intro l r h d;simp only[findLabel]at d;split at d;{cases d;trivial};{cases d}
 |_=>intro l r h d;simp only[findLabel]at d;cases d
def Ib {l}:∀{k k'},(∀i∈k,kZ P Al F i)->gotoIn l k=aA k'->∀i∈k',kZ P Al F i:=by
 intro k;induction k with
 |nil=>intro k' h a;cases a
 |cons x k d=>
  intro k' h a i hi;have c:∀i∈k,kZ P Al F i:=λi hi=>h i (zBh _ hi);cases x with
  |inScope body=>
   simp only[gotoIn]at a;split at a
   .rename_i rest b;cases a;have e:=h _ (zBk);obtain rfl|hi:=zAe.1 hi
    .exact OZ e b
    .obtain rfl|hi:=zAe.1 hi
     .exact e
     .exact c i hi
   .exact d c a i hi
  |_=>simp only[gotoIn]at a;exact d c a i hi
end
def YR:Nat->zY->Bool
 |0,_=>aF
 |n+1,v=>match v with
  | .bool _| .int _ _| .string _| .pointer aB| .slice aB _ _| .nilFunc| .nilIface| .map aB| .chan aB=>aE
  | .iface _ v=>YR n v
  | .agg cs| .tuple cs=>cs.toList.all (YR n)
  |_=>aF
def xI:∀(n:Nat)(v:zY),YR n v=aE->Flat v
 |0,_,h=>by simp[YR]at h
 |n+1,v,h=>by
  intro Al g;have d:∀cs:zA,cs.toList.all (YR n)=aE->∀(i:Nat)(v j:zY),cs[i]? =aA v->cs[i]? =aA j->bF Al g v j:=λcs q i v j o p=>by rw[o]at p;cases p;exact xI n v (zBq.1 q v (by rw[<-zBp]at o;exact zDb o)) Al g
  cases v with
  |bool b=>exact .bool b
  |int k n=>exact .int k n
  |string s=>exact .string s
  |pointer a=>
   cases a with
   |none=>exact .pointer .none
   |some a=>simp[YR]at h
  |slice a l c=>
   cases a with
   |none=>exact .slice .none l c
   |some a=>simp[YR]at h
  |nilFunc=>exact .nilFunc
  |nilIface=>exact .nilIface
  |map r=>
   cases r with
   |none=>exact .jC
   |some r=>simp[YR]at h
  |chan r=>
   cases r with
   |none=>exact .gL
   |some r=>simp[YR]at h
  |iface t v=>exact .iface t (xI n v (by simpa [YR]using h) Al g)
  |agg cs=>exact .agg rfl (d cs (by simpa only[YR]using h))
  |tuple cs=>exact .tuple rfl (d cs (by simpa only[YR]using h))
  |_=>simp[YR]at h
def UM (P:zZ):Nat->zD->Bool
 |0,_=>aF
 |f+1,t=>match P.underlying t with
  |some (.func _ _ _)|some (.interface _)=>aF
  |some (.struct a)=>a.toList.all λx=>UM P f x.type
  |some (.array _ e)=>UM P f e
  |_=>aE
def Td {P}:∀f t,UM P f t=aE->∀d,IP P d t:=by
 intro f;induction f with
 |zero=>intro t h;cases h
 |succ f i=>
  intro t g d;cases d with
  |zero=>trivial
  |succ d=>
   unfold IP;unfold UM at g;cases hu:P.underlying t with
   |none=>trivial
   |some u=>
    rw[hu]at g;cases u with
    |func a b c=>cases g
    |interface ms=>cases g
    |struct k=>exactλx j=>i x.type (zBq.1 g x j) d
    |array n e=>exact i e g d
    |_=>trivial
def bz (op:BinOp):Bool:=match op with| .eql| .neq=>aF|_=>aE
structure Ck where
 al:zN->Bool
 uf:zD->Bool
 mt:String->Bool
 mark:Bool
section
variable(P:zZ)(C:Ck)
def YS:Operand->Bool
 | .tmp _=>aE
 | .const v=>YR 8 v
 | .global g=>decide (g<=P.globals.size)
 | .func f=>C.al f
def FU (t:zD):Bool:=match P.underlying t with|some (.pointer e)=>C.uf e|_=>aE
def YT (s d:zD):Bool:=
 FU P C s&&FU P C d&&(match P.underlying d with|some (.slice _)=>C.mark||(match P.underlying s with|some (.slice _)=>aF|_=>aE)|some (.float _)|some (.complex _)=>aF|_=>aE)&&
  (match P.underlying s with|some (.slice e)=>(match P.underlying e with|some (.int .i32)=>aF|_=>aE)|_=>aE)&&(match P.underlying d with|some (.slice e)=>(match P.underlying e with|some (.int .i32)=>aF|_=>aE)|_=>aE)&&
  (match P.underlying s with|some (.slice _)=>(match P.underlying d with|some (.slice _)=>aF|_=>aE)|_=>aE)
def cf (op:BinOp)(t:zD):Bool:=
 match op with
 | .eql| .neq=>(match P.underlying t with
  |some .bool|some (.int _)|some .string=>aE
  |some (.pointer e)=>(match P.info? e with|some i=>decide (i.size≠0)|none=>aF)
  |_=>aF)
 |_=>aE
def tV (b:Builtin)(ts:Array zD)(t:zD):Bool:=
 match b with
 | .append| .clear=>(match ts[0]? with|some u=>decide (u<P.types.size)|none=>aE)
 | .cap| .copy| .len| .min| .unsafeString=>aE
 | .unsafeSliceData=>FU P C t
 |_=>aF
def Xn (o:Oper):Bool:=
 o.op.operands.toList.all (YS P C)&&
 match o.op with
 | .move _| .assign _| .pick .. | .box .. | .load .. | .store .. | .nilCheck _| .unOp .. | .makeInterface .. | .slice .. | .fieldAddr .. | .field .. | .indexAddr .. | .index .. | .extract .. | .panic _=>aE
 | .alloc t| .build t _| .buildSlice t _ _| .makeSlice t _ _=>decide (t<P.types.size)
 | .binOp op t _ _ _=>(bz op||UM P 9 t)&&(C.mark||cf P op t)
 | .convert s d _=>YT P C s d
 | .makeFunc fn a b=>decide (a.size+b.size<=10)&&match fn with| .func f=>C.al f|_=>aF
 | .call c=>decide (c.args.size<=10)&&match c.callee with| .value _=>aE| .builtin b=>tV P C b c.argTypes o.type| .invoke _ m=>C.mt m
 | .defer c=>decide (c.args.size<=10)&&match c.callee with| .value (.func f)=>C.al (900000+f)|_=>aF
 |_=>aF
def nY:Code->Bool
 | .region _ ops _=>ops.toList.all (Xn P C)
 | .seq a b=>nY a&&nY b
 | .cond c a b=>YS P C c&&nY a&&nY b
 | .block _ b| .loop b| .scope b=>nY b
 | .rangeFunc .. =>aF
 |_=>aE
end
section
variable {P:zZ}{C:Ck}{F:Kp}(Js:∀e,C.uf e=aE->jR P e)(kn:∀m,C.mt m=aE->vW P (λf=>C.al f=aE) m)(Da:C.mark=aE->∀b,¬F b)(Vh:C.mark=aF->¬F.cmp)
def LK {x}(h:YS P C x=aE):BC P (λf=>C.al f=aE) x:=by
 cases x with
 |tmp t=>trivial
 |const v=>exactλa _=>xI 8 v h _ a
 |global g=>exact(of_decide_eq_true h:g<=P.globals.size)
 |func f=>exact h
include Js in
def AH {t:zD}(h:FU P C t=aE)(e:zD)(a:P.underlying t=aA (.pointer e)):jR P e:=by unfold FU at h;rw[a]at h;exact Js e h
include Js Da Vh in
def Gq {s d:zD}(h:YT P C s d=aE):Bm P F s d:=by
 unfold YT at h;simp only[zBc]at h;obtain⟨⟨⟨⟨⟨o,n⟩,c⟩,l⟩,j⟩,i⟩:=h;refine⟨λe a=>a.elim (AH Js o e) (AH Js n e),λ⟨e,a⟩=> ?_,λk a=> ?_,λk a=> ?_,λe p a g=> ?_,λe a hi=> ?_⟩
 .rw[a]at c;dsimp only at c;cases hm:C.mark with
  |true=>exact aG (Da hm)
  |false=>rw[hm,zFs]at c;refine aH ⟨Vh hm,λp g=> ?_⟩;rw[g]at c;cases c
 .rw[a]at c;cases c
 .rw[a]at c;cases c
 .rw[a]at i;dsimp only at i;rw[g]at i;cases i
 .obtain a|a:=a
  .rw[a]at l;dsimp only at l;rw[hi]at l;cases l
  .rw[a]at j;dsimp only at j;rw[hi]at j;cases j
include Js in
def OM {b:Builtin}{ts:Array zD}{t:zD}(h:tV P C b ts t=aE):BD P b ts t:=by
 cases b with
 |append|clear=>intro u a;simp only[tV,a]at h;exact of_decide_eq_true h
 |cap|copy|len|min|unsafeString=>trivial
 |unsafeSliceData=>exact AH Js h
 |_=>simp[tV]at h
include Js kn Da Vh in
def Sz {o:Oper}(h:Xn P C o=aE):QA P (λf=>C.al f=aE) F o:=by
 unfold Xn at h;rw[zBc]at h;obtain⟨w,g⟩:=h;refine⟨λx q=>LK (zBq.1 w x (zDt.2 q)),?_⟩;cases p:o.op<;>rw[p]at g<;>dsimp only at g⊢<;>first|trivial|exact of_decide_eq_true g|exact Gq Js Da Vh g|(cases g;done)|skip
 case binOp op t x y u=>
  rw[zBc]at g
  obtain⟨s,g⟩:=g
  refine⟨λv=>Td 9 t ?_ _,?_⟩
  .obtain rfl|rfl:=v<;>simpa [bz]using s
  rw[zDk]at g;obtain g|g:=g;{exact aG (aH (Da g))}
  .right;by_cases n:op≠.eql/\op≠.neq
   .exact aG n
   .right;have j:(match P.underlying t with|some .bool|some (.int _)|some .string=>aE|some (.pointer e)=>(match P.info? e with|some i=>decide (i.size≠0)|none=>aF)|_=>aF)=aE:=by
     cases op<;>first|exact g|exact absurd ⟨by simp,by simp⟩ n
    cases hu:P.underlying t with
    |none=>rw[hu]at j;cases j
    |some d=>
     rw[hu]at j;cases d with
     |bool=>exact aG (aG hu)
     |int k=>exact aG (aH (aG ⟨k,hu⟩))
     |string=>exact aG (aH (aH hu))
     |pointer e=>
      dsimp only at j;cases hi:P.info? e with
      |none=>rw[hi]at j;cases j
      |some i=>rw[hi]at j;exact aH ⟨e,i,rfl,hi,of_decide_eq_true j⟩
     |_=>cases j
 case makeFunc fn a b=>
  rw[zBc]at g
  refine⟨of_decide_eq_true g.1,?_⟩
  have n:=g.2
  cases fn<;>first|exact n|cases n
 case call c=>
  rw[zBc]at g
  refine⟨of_decide_eq_true g.1,?_⟩
  replace g:=g.2
  cases l:c.callee with
  |value f=>trivial
  |builtin b=>rw[l]at g;exact OM Js g
  |invoke r m=>rw[l]at g;exact kn m g
 case defer c=>
  rw[zBc]at g
  refine⟨of_decide_eq_true g.1,?_⟩
  replace g:=g.2
  cases l:c.callee with
  |value x=>
   rw[l]at g;cases x with
   |func f=>exact⟨f,rfl,g⟩
   |_=>cases g
  |_=>rw[l]at g;cases g
include Js kn Da Vh in
def Gr:∀{c:Code},nY P C c=aE->lO P (λf=>C.al f=aE) F c:=by
 intro c;induction c with
 |region id ops d=>exactλh o i=>Sz Js kn Da Vh (zBq.1 h o (zDt.2 i))
 |seq a b g hb=>intro h;rw[nY,zBc]at h;exact⟨g h.1,hb h.2⟩
 |cond c a b g hb=>intro h;rw[nY,zBc,zBc]at h;exact⟨LK h.1.1,g h.1.2,hb h.2⟩
 |block id b hb=>exactλh=>hb h
 |loop b hb=>exactλh=>hb h
 |scope b hb=>exactλh=>hb h
 |rangeFunc=>intro h;simp[nY]at h
 |_=>intro _;trivial
end
end Go.Ren
