import Derived.Conc.Own4
import Derived.Conc.Own5
set_option linter.all false
set_option maxRecDepth 100000
set_option maxHeartbeats 16000000
open Option renaming some->aA,none->aB
open Bool renaming true->aE,false->aF
open Or renaming inl->aG,inr->aH
open Go.Item renaming inRegion->aM
open Go.Obj renaming cells->aI
open Go.IntKind renaming u64->aQ,u8->aP
open Array renaming size_extract->aF9,replicate->aGa,foldl_toList->aGb,toList_zipIdx->aGc,range->aGd,size_map->aGe
open Except renaming ok->aGf,error->aGg
open Go renaming runtimePanic->aGh,execOp->aGi
open Go.Deferred renaming ofValue->aGj
open Nat renaming le_succ->aGk,le_of_lt->aGl,min->aGm
namespace Go
abbrev zT:=Nat->Question->Nat
abbrev zS:=Frame->List Frame->World->Prop
abbrev zU:=Goroutine->World->Prop
abbrev zR:=Value->World->Prop
abbrev zX:=Exit->Act->World->Prop
abbrev zF:=FuncId->Prop
abbrev zP:=Nat->Prop
abbrev zLL:=List (List UInt8)
abbrev zII:=List (Int × Int)
abbrev zA:=Array Value
abbrev zB:=List UInt8
abbrev zO:=Option Addr
abbrev zL:=List Frame
abbrev zE:=Array Event
abbrev zG:=Array Goroutine
abbrev zV:=List Value
abbrev zQ:=Array Oper
abbrev zI:=List Item
abbrev zJ:=Array Obj
abbrev zW:=World
abbrev zY:=Value
abbrev zH:=Goroutine
abbrev zZ:=Program
abbrev zD:=TypeId
abbrev zN:=FuncId
abbrev zC:=Frame
abbrev zAa:=@Nat.le_refl
abbrev zAb:=@Array.getElem?_eq_some_iff
abbrev zAc:=@Nat.lt_of_lt_of_le
abbrev zAd:=@Array.getElem?_setIfInBounds_ne
abbrev zAe:=@List.getElem?_eq_getElem
abbrev zAf:=@List.mem_cons
abbrev zAg:=@List.length_append
abbrev zAh:=@List.mem_append
abbrev zAi:=@List.length_cons
abbrev zAj:=@if_neg
abbrev zAk:=@Array.getElem?_eq_getElem
abbrev zAl:=@if_pos
abbrev zAm:=@Option.some.inj
abbrev zAn:=@List.mem_singleton
abbrev zAo:=@Array.getElem?_setIfInBounds_self_of_lt
abbrev zAp:=@List.getElem?_eq_some_iff
abbrev zAq:=@List.size_toArray
abbrev zAr:=@List.not_mem_nil
abbrev zAs:=@List.mem_toArray
abbrev zAt:=@List.filter_cons_of_neg
abbrev zAu:=@Array.getD_eq_getD_getElem?
abbrev zAv:=@Nat.le_trans
abbrev zAw:=@Classical.choose_spec
abbrev zAx:=@List.mem_filter
abbrev zAy:=@List.append_nil
abbrev zAz:=@Nat.zero_add
abbrev zBa:=@Bool.false_eq_true
abbrev zBb:=@List.length_nil
abbrev zBc:=@Bool.and_eq_true
abbrev zBd:=@List.filter_cons_of_pos
abbrev zBe:=@List.getD_eq_getElem?_getD
abbrev zBf:=@Array.getElem?_eq_none
abbrev zBg:=@List.length_take
abbrev zBh:=@Option.map_some
abbrev zBi:=@Array.mem_of_getElem?
abbrev zBj:=@List.mem_cons_self
abbrev zBk:=@Array.getElem?_push
abbrev zBl:=@List.mem_cons_of_mem
abbrev zBm:=@Array.getElem?_setIfInBounds
abbrev zBn:=@List.take_of_length_le
abbrev zBo:=@decide_eq_true_eq
abbrev zBp:=@Option.map_eq_some_iff
abbrev zBq:=@Nat.zero_le
abbrev zBr:=@Array.getElem?_toList
abbrev zBs:=@List.mem_range
abbrev zBt:=@List.all_eq_true
abbrev zBu:=@Array.ext_getElem?
abbrev zBv:=@decide_eq_false
abbrev zBw:=@Array.size_push
abbrev zBx:=@List.getElem?_append_right
abbrev zBy:=@beq_eq_false_iff_ne
abbrev zBz:=@Array.getElem?_append_right
abbrev zCa:=@Array.empty_append
abbrev zCb:=@or_false
abbrev zCc:=@List.take_succ_eq_append_getElem
abbrev zCd:=@List.setIfInBounds_toArray
abbrev zCe:=@List.nil_append
abbrev zCf:=@List.append_assoc
abbrev zCg:=@Classical.byContradiction
abbrev zCh:=@List.mem_map
abbrev zCi:=@Nat.add_assoc
abbrev zCj:=@Array.getElem?_map
abbrev zCk:=@List.length_drop
abbrev zCl:=@List.cons_append
abbrev zCm:=@beq_iff_eq
abbrev zCn:=@List.getElem?_append_left
abbrev zCo:=@List.getElem?_take
abbrev zCp:=@Array.length_toList
abbrev zCq:=@Array.size_setIfInBounds
abbrev zCr:=@List.mem_of_getElem?
abbrev zCs:=@Option.getD_some
abbrev zCt:=@List.getElem_mem
abbrev zCu:=@Array.toList_inj
abbrev zCv:=@UInt8.toNat_ofNat'
abbrev zCw:=@Option.bind_eq_some_iff
abbrev zCx:=@List.pairwise_cons
abbrev zCy:=@if_true
abbrev zCz:=@Option.bind_some
abbrev zDa:=@List.length_map
abbrev zDb:=@List.set_cons_succ
abbrev zDc:=@Array.append_empty
abbrev zDd:=@Array.getElem?_append_left
abbrev zDe:=@List.getElem?_cons_zero
abbrev zDf:=@decide_eq_true
abbrev zDg:=@if_false
abbrev zDh:=@List.set_cons_zero
abbrev zDi:=@Nat.lt_or_ge
abbrev zDj:=@List.length_replicate
abbrev zDk:=@List.getElem?_toArray
abbrev zDl:=@List.filter_append
abbrev zDm:=@List.map_append
abbrev zDn:=@Bool.or_eq_true
abbrev zDo:=@List.take_append_of_le_length
abbrev zDp:=@List.eq_nil_of_length_eq_zero
abbrev zDq:=@List.pairwise_map
abbrev zDr:=@List.getElem?_map
abbrev zDs:=@List.filterMap_append
abbrev zDt:=@List.append_cancel_right
abbrev zDu:=@Array.getElem?_modify
abbrev zDv:=@ByteArray.ext
abbrev zDw:=@Array.mem_toList_iff
abbrev zDx:=@Array.toList_setIfInBounds
abbrev zDy:=@Ne.symm
abbrev zDz:=@List.filterMap_cons
abbrev zEa:=@List.map_cons
abbrev zEb:=@beq_false_of_ne
abbrev zEc:=@List.take_append_drop
abbrev zEd:=@Std.Legacy.Range.forIn_eq_forIn_range'
abbrev zEe:=@Int.natCast_nonneg
abbrev zEf:=@List.mem_of_mem_take
abbrev zEg:=@decide_eq_false_iff_not
abbrev zEh:=@List.push_toArray
abbrev zEi:=@Array.size_append
abbrev zEj:=@List.map_congr_left
abbrev zEk:=@List.length_set
abbrev zEl:=@Array.mem_append
abbrev zEm:=@List.map_map
abbrev zEn:=@List.filter_filter
abbrev zEo:=@ByteArray.data_append
abbrev zEp:=@Array.append_assoc
abbrev zEq:=@Nat.mul_le_mul_right
abbrev zEr:=@List.mem_of_mem_drop
abbrev zEs:=@Array.replicate_succ
abbrev zEt:=@Array.setIfInBounds_comm
abbrev zEu:=@Array.getElem?_replicate
abbrev zEv:=@Nat.mul_one
abbrev zEw:=@beq_self_eq_true
abbrev zEx:=@List.drop_append_of_le_length
abbrev zEy:=@List.take_zero
abbrev zEz:=@List.drop_zero
abbrev zFa:=@Nat.eq_zero_or_pos
abbrev zFb:=@Array.forIn_toList
abbrev zFc:=@UInt8.not_lt
abbrev zFd:=@List.foldl_cons
abbrev zFe:=@Nat.not_lt
abbrev zFf:=@Nat.lt_irrefl
abbrev zFg:=@List.cons.inj
abbrev zFh:=@Int.toNat_natCast
abbrev zFi:=@Classical.not_forall
abbrev zFj:=@Array.mapM_eq_mapM_toList
abbrev zFk:=@Nat.le_add_right
abbrev zFl:=@List.take_length
abbrev zFm:=@List.map_toArray
abbrev zFn:=@List.take_succ_cons
abbrev zFo:=@List.filter_eq_self
abbrev zFp:=@List.drop_succ_cons
abbrev zFq:=@Nat.zero_mul
abbrev zFr:=@Nat.mod_lt
abbrev zFs:=@Nat.add_zero
abbrev zFt:=@List.mem_filterMap
abbrev zFu:=@List.length_eq_zero_iff
abbrev zFv:=@List.getElem?_replicate
abbrev zFw:=@List.getElem?_drop
abbrev zFx:=@Array.all_eq_true_iff_forall_mem
abbrev zFy:=@List.filter_eq_nil_iff
abbrev zFz:=@List.length_singleton
abbrev zGa:=@List.length_filter_le
abbrev zGb:=@Array.toList_map
abbrev zGc:=@Bool.false_or
abbrev zGd:=@Array.toList_append
abbrev zGe:=@getElem!_pos
abbrev zGf:=@Nat.sub_self
abbrev zGg:=@Nat.add_comm
abbrev zGh:=@List.drop_eq_getElem_cons
abbrev zGi:=@UInt8.le_antisymm
abbrev zGj:=@List.length_filterMap_le
abbrev zGk:=@Go.Conc.stepG_region_end
abbrev zGl:=@Go.Conc.stepG_seq
abbrev zGp:=@Go.Conc.stepG_region
abbrev zGs:=@Go.IntKind.wrap_i64
abbrev zGt:=@Go.Conc.stepG_skip
abbrev zGy:=@Go.bodyPost_ret
abbrev zGz:=@Go.Conc.stepG_ret'
abbrev zHd:=@Go.Conc.stepG_block
abbrev zHe:=@Go.Result.andThen_ok
abbrev zHg:=@Go.Conc.mem_listed
end Go
namespace Go.Ren
abbrev Rn:=Nat->zP
def bY (π:Rn)(a a':Addr):Prop:=π a.block a'.block/\a'.off=a.off/\a'.spot=a.spot
def bY.add {π a a'}(h:bY π a a')(n):bY π (a.add n) (a'.add n):=by
 obtain⟨c,b,d⟩:=h;unfold Addr.add;split
 .exact⟨c,b,d⟩
 .exact⟨c,by simp[b],rfl⟩
inductive xA (π:Rn):zO->zO->Prop
 |none:xA π aB aB
 |some {a a':Addr} (h:bY π a a'):xA π (aA a) (aA a')
def Jk:zY->Prop
 | .float _ _| .complex _ _ _| .pointer _| .slice (aA _) _ _| .map (aA _)| .chan (aA _)| .func _ _ _=>True
 |_=>False
def Jk.cells {x}(h:Jk x):x.cells= #[x]:=by cases x<;>first|rfl|exact h.elim
def enc (a:Addr):Nat:=(a.block+a.off)*(a.block+a.off)+a.block
def Xd {a b}(h:enc a=enc b):a.block=b.block/\a.off=b.off:=by
 unfold enc at h;have k:∀s t x y:Nat,x<=s->s*s+x=t*t+y->¬s<t:=λs t x y g e bX=>by have f:(s+1)*(s+1)<=t*t:=Nat.mul_le_mul bX bX;have d:(s+1)*(s+1)=s*s+s+s+1:=by{rw[Nat.add_mul,Nat.mul_add];omega};omega
 have f:=k _ _ _ _ (zFk a.block a.off) h;have d:=k _ _ _ _ (zFk b.block b.off) h.symm;have c:a.block+a.off=b.block+b.off:=by omega
 rw[c]at h;omega
inductive bE (Al:zF)(π:Rn):zY->zY->Prop
 |bool (b:Bool):bE Al π (.bool b) (.bool b)
 |int (k:IntKind) (n:Int):bE Al π (.int k n) (.int k n)
 |string (s:ByteArray):bE Al π (.string s) (.string s)
 |pointer {a a':zO} (h:xA π a a'):bE Al π (.pointer a) (.pointer a')
 |slice {a a':zO} (h:xA π a a') (n c:Nat):bE Al π (.slice a n c) (.slice a' n c)
 |func {f:zN} (hf:Al f) {fs xq cs cs':zA} (h1:xq.size=fs.size) (h2:cs'.size=cs.size) (hz:fs.size+cs.size<=10)
   (h3:∀(i:Nat)(v v':zY),fs[i]? =aA v->xq[i]? =aA v'->bE Al π v v') (h4:∀(i:Nat)(v v':zY),cs[i]? =aA v->cs'[i]? =aA v'->bE Al π v v'):
   bE Al π (.func (.func f) fs cs) (.func (.func f) xq cs')
 |nilFunc:bE Al π .nilFunc .nilFunc
 |iface (t:zD) {v v':zY} (h:bE Al π v v'):bE Al π (.iface t v) (.iface t v')
 |nilIface:bE Al π .nilIface .nilIface
 |jQ:bE Al π (.map aB) (.map aB)
 |gY:bE Al π (.chan aB) (.chan aB)
 |agg {cs cs':zA} (h1:cs'.size=cs.size) (h2:∀(i:Nat)(v v':zY),cs[i]? =aA v->cs'[i]? =aA v'->bE Al π v v'):bE Al π (.agg cs) (.agg cs')
 |tuple {cs cs':zA} (h1:cs'.size=cs.size) (h2:∀(i:Nat)(v v':zY),cs[i]? =aA v->cs'[i]? =aA v'->bE Al π v v'):bE Al π (.tuple cs) (.tuple cs')
 |junk (hJ:Al 1000000) {x:zY} (h:Jk x):bE Al π (.func (.method "") #[.iface 1000000 .nilIface] #[x]) x
 |void {vb:Nat} (hV:Al (1000002+vb)) (a:Addr):bE Al π (.slice (aA ⟨vb,enc a,a.spot⟩) 0 0) (.slice (aA a) 0 0)
 |same (hS:Al 1000001) (x:zY):bE Al π (.func (.method "") #[.iface 1000000 .nilIface] #[x]) (.func (.method "") #[.iface 1000000 .nilIface] #[x])
structure aY (Al:zF)(π:Rn)(cs cs':zA):Prop where
 size:cs'.size=cs.size
 at':∀(i:Nat)(v v':zY),cs[i]? =aA v->cs'[i]? =aA v'->bE Al π v v'
variable {Al:zF}{π ρ:Rn}
def bY.mono (h:∀b b',π b b'->ρ b b'){a a'}(x:bY π a a'):bY ρ a a':=⟨h _ _ x.1,x.2⟩
def xA.mono (h:∀b b',π b b'->ρ b b'){a a'}(x:xA π a a'):xA ρ a a':=by
 cases x with
 |none=>exact .none
 |some y=>exact .some (y.mono h)
def bE.mono (h:∀b b',π b b'->ρ b b'){v v'}(x:bE Al π v v'):bE Al ρ v v':=by
 induction x with
 |bool b=>exact .bool b
 |int k n=>exact .int k n
 |string s=>exact .string s
 |pointer y=>exact .pointer (y.mono h)
 |slice y n c=>exact .slice (y.mono h) n c
 |func g d l f _ _ i3 i4=>exact .func g d l f i3 i4
 |nilFunc=>exact .nilFunc
 |iface t _ i=>exact .iface t i
 |nilIface=>exact .nilIface
 |jQ=>exact .jQ
 |gY=>exact .gY
 |agg d _ i=>exact .agg d i
 |tuple d _ i=>exact .tuple d i
 |junk e h=>exact .junk e h
 |same hb x=>exact .same hb x
 |void j a=>exact .void j a
def aY.mono (h:∀b b',π b b'->ρ b b'){v v'}(x:aY Al π v v'):aY Al ρ v v':=⟨x.size,λi a b d c=>(x.at' i a b d c).mono h⟩
def aY.get {cs cs'}(h:aY Al π cs cs')(i:Nat):(cs[i]? =aB/\cs'[i]? =aB)\/∃v b,cs[i]? =aA v/\cs'[i]? =aA b/\bE Al π v b:=by
 by_cases hi:i<cs.size
 .have a:i<cs'.size:=by{rw[h.size];exact hi};exact aH ⟨cs[i],cs'[i],by simp[hi],by simp[a],h.at' i _ _ (by simp[hi]) (by simp[a])⟩
 .exact aG ⟨by simp;omega,by simp[h.size];omega⟩
def aY.nil:aY Al π #[] #[]:=⟨rfl,λi v a h=>by simp at h⟩
def aY.of {cs cs':zA}(hs:cs'.size=cs.size)(h:∀(i:Nat)(hi:i<cs.size)(c:i<cs'.size),bE Al π cs[i] cs'[i]):aY Al π cs cs':=
 ⟨hs,λi v f b a=>by obtain⟨e,rfl⟩:=zAb.1 b;obtain⟨d,rfl⟩:=zAb.1 a;exact h i e d⟩
def aY.push {cs cs':zA}(h:aY Al π cs cs'){v v':zY}(f:bE Al π v v'):aY Al π (cs.push v) (cs'.push v'):=
 ⟨by simp[h.size],λi a b d c=>by
  rw[zBk]at d c;rw[h.size]at c;split at d;{rename_i e;simp only[e,zCy]at c;cases d;cases c;exact f}
  .rename_i e;simp only[e,zDg]at c;exact h.at' i a b d c⟩
def aY.append {cs cs' ds d:zA}(h:aY Al π cs cs')(k:aY Al π ds d):aY Al π (cs++ds) (cs'++d):=
 ⟨by simp[h.size,k.size],λi a b f c=>by
  rw[Array.getElem?_append]at f c;rw[h.size]at c;split at f;{rename_i e;simp only[e,zCy]at c;exact h.at' i a b f c}
  .rename_i e;simp only[e,zDg]at c;exact k.at' _ a b f c⟩
def aY.one {v v'}(h:bE Al π v v'):aY Al π #[v] #[v']:=by simpa using(aY.nil (Al:=Al) (π:=π)).push h
def aY.set {cs cs':zA}(h:aY Al π cs cs'){v v':zY}(g:bE Al π v v')(k:Nat):aY Al π (cs.setIfInBounds k v) (cs'.setIfInBounds k v'):=
 ⟨by simp[h.size],λi a b d c=>by
  rw[zBm]at d c;rw[h.size]at c;by_cases e:k=i
  .rw[zAl e]at d c;by_cases f:i<cs.size
   .simp only[e,f,zCy]at d c;cases d;cases c;exact g
   .simp[e,f]at d
  .rw[zAj e]at d c;exact h.at' i a b d c⟩
def aY.extract {cs cs':zA}(h:aY Al π cs cs')(i j:Nat):aY Al π (cs.extract i j) (cs'.extract i j):=
 ⟨by rw[aF9,aF9,h.size],λk a b d c=>by
  rw[Array.getElem?_extract]at d c;rw[h.size]at c;split at d;{rename_i e;simp only[e,zCy]at c;exact h.at' _ a b d c}
  .cases d⟩
def aY.replicate {v v':zY}(d:bE Al π v v')(n:Nat):aY Al π (aGa n v) (aGa n v'):=
 ⟨by simp,λi a b h c=>by
  rw[zEu]at h c;split at h;{rename_i e;simp only[e,zCy]at c;cases h;cases c;exact d}
  .cases h⟩
def bE.cells {v v'}(h:bE Al π v v'):aY Al π v.cells v'.cells:=by
 cases h with
 |agg d e=>exact⟨d,e⟩
 |bool b=>exact .one (.bool b)
 |int k n=>exact .one (.int k n)
 |string s=>exact .one (.string s)
 |pointer y=>exact .one (.pointer y)
 |slice y n c=>exact .one (.slice y n c)
 |func j d e g o m=>exact .one (.func j d e g o m)
 |nilFunc=>exact .one .nilFunc
 |iface t i=>exact .one (.iface t i)
 |nilIface=>exact .one .nilIface
 |jQ=>exact .one .jQ
 |gY=>exact .one .gY
 |tuple d i=>exact .one (.tuple d i)
 |junk f h=>rw[h.cells];exact .one (.junk f h)
 |same hb x=>exact .one (.same hb x)
 |void l a=>exact .one (.void l a)
end Go.Ren
namespace Go.Ren
structure Kp where
 keep:zP
 sY:Option Nat
 cmp:Prop
instance:CoeFun Kp λ_=>zP:=⟨Kp.keep⟩
def Kp.upto (K:Kp)(i:Nat):Prop:=∀u,K.sY=aA u->i<u
@[simp]def Fatal (hl:Halt):Prop:=(∃s,hl= .stuck s)\/∃u,hl= .unsupported u/\∀g,u≠.initOrder g
class Ok (P:zZ) (π:Rn):Prop where
 inj:∀{a a' b b':Nat},π a a'->π b b'->(a=b↔a'=b')
 base:∀{b b':Nat},π b b'->(b<=P.globals.size\/b'<=P.globals.size)->b=b'
 iH:∀b,b<=P.globals.size->π b b
def Tn (Al:zF)(F:Kp)(π:Rn)(b:Nat)(o a:Option Obj):Prop:=
 ∃c c' ty fr f,o=aA (aI c ty fr)/\a=aA (aI c' ty f)/\aY Al π c c'/\(F b->fr.1=0/\c.size<=fr.2/\(∀(i:Nat) m,c[i]?≠aA (.int aP m))/\f.2<=c.size)/\(¬F b->f=fr)/\((F.cmp/\∃x,F x)->fr.2<=c.size/\f.2<=c.size)
def kE (P:zZ)(u:zD):Prop:=∀d off x,plainCell P d u off=aA x->∀(Al:zF)(π:Rn),bE Al π x x
inductive Ow (P:zZ)(π:Rn):Obj->Obj->Prop
 |view {x x':Addr} (h:bY π x x') (u:zD) (hu:kE P u):Ow P π (.view x u) (.view x' u)
 |number {x x':Addr} (h:bY π x x') (l:Bool):Ow P π (.number x l) (.number x' l)
def dt (P:zZ)(π:Rn)(o b:Option Obj):Prop:=∃y a,o=aA y/\b=aA a/\Ow P π y a
def Ow.mono {P π ρ}(h:∀b b',π b b'->ρ b b'){y c}(x:Ow P π y c):Ow P ρ y c:=by
 cases x with
 |view a u hu=>exact .view (a.mono h) u hu
 |number a l=>exact .number (a.mono h) l
def EU (o:Obj):Prop:=(∀c t f,o≠aI c t f)/\(∀x u,o≠.view x u)/\(∀x l,o≠.number x l)/\∀c t,o≠.pending c t
structure bV (P:zZ)(Al:zF)(F:Kp)(π:Rn)(v w:zW):Prop where
 ok:Ok P π
 blk:∀b b',π b b'->Tn Al F π b v.heap[b]? w.heap[b']?\/(b<=P.globals.size/\∃o,v.heap[b]? =aA o/\w.heap[b']? =aA o/\EU o)\/dt P π v.heap[b]? w.heap[b']?
 tape:∀k,F.upto (v.drawn+k)->w.tape (w.drawn+k)=v.tape (v.drawn+k)
 fresh:∀b,F b->b<v.heap.size
 low:P.globals.size<v.heap.size/\P.globals.size<w.heap.size
 os:w.os=v.os
 rows:∀b,F b->∃o,v.heap[b]? =aA o/\((∃c t fr,o=aI c t fr)\/EU o)
def Shape (P:zZ)(fs:Array Func):Prop:=∀f:Nat,fs[f]? =P.funcs[f]?\/∃a b,P.funcs[f]? =aA a/\fs[f]? =aA b/\b.name=a.name/\a.body.isSome=aE/\b.body.isSome=aE/\b.norace=a.norace
inductive bR (P:zZ)(Al:zF)(F:Kp){α β:Type}(A:Rn->α->β->Prop):Rn->Sem α->Sem β->Prop
 |pure {π:Rn} {a:α} {b:β} (h:A π a b):bR P Al F A π (.pure a) (.pure b)
 |load {π:Rn} {m:Mode} {a a':Addr} {k:zY->Sem α} {k':zY->Sem β} (h:bY π a a') (hk:∀v v',bE Al π v v'->bR P Al F A π (k v) (k' v')):bR P Al F A π (.load m a k) (.load m a' k')
 |store {π:Rn} {m:Mode} {a a':Addr} {x x':zY} {k:Sem α} {k':Sem β} (h:bY π a a') (hx:bE Al π x x') (hk:bR P Al F A π k k'):bR P Al F A π (.store m a x k) (.store m a' x' k')
 |new {π:Rn} {c c':zA} {ty:zD} {k:Nat->Sem α} {k':Nat->Sem β} (h:aY Al π c c') (hk:∀(ρ:Rn) r r',Ok P ρ->(∀b b',π b b'->ρ b b')->ρ r r'->bR P Al F A ρ (k r) (k' r')):bR P Al F A π (.new (aI c ty) k) (.new (aI c' ty) k')
 |view {π:Rn} {x x':Obj} {k:Nat->Sem α} {k':Nat->Sem β} (h:Ow P π x x') (hk:∀(ρ:Rn) r r',Ok P ρ->(∀b b',π b b'->ρ b b')->ρ r r'->bR P Al F A ρ (k r) (k' r')):bR P Al F A π (.new x k) (.new x' k')
 |marked {π:Rn} {c c':zA} {ty:zD} {k:Nat->Sem α} {k':Nat->Sem β} (hC:¬F.cmp) (h:aY Al π c c') (hk:∀(ρ:Rn) r r',Ok P ρ->(∀b b',π b b'->ρ b b')->ρ r r'->bR P Al F A ρ (k r) (k' r')):bR P Al F A π (.new (aI c ty) λr=>markStringish ⟨r,0,aB⟩>>=λ_=>k r) (.new (aI c' ty) λr=>markStringish ⟨r,0,aB⟩>>=λ_=>k' r)
 |getObj {π:Rn} {r r':Nat} {k:Obj->Sem α} {k':Obj->Sem β} (h:π r r') (hk:∀o o',(EU o/\o'=o)\/dt P π (aA o) (aA o')->bR P Al F A π (k o) (k' o')):bR P Al F A π (.getObj r k) (.getObj r' k')
 |shape {π:Rn} {r r':Nat} {k:Option (zD×Nat)->Sem α} {k':Option (zD×Nat)->Sem β} (h:π r r') (hk:∀s,bR P Al F A π (k s) (k' s)):bR P Al F A π (.shape r k) (.shape r' k')
 |freeze {π:Rn} {a a':Addr} {n:Nat} {k:Sem α} {k':Sem β} (hF:∀b,¬F b) (h:bY π a a') (hk:bR P Al F A π k k'):bR P Al F A π (.freeze a n k) (.freeze a' n k')
 |frozen {π:Rn} {a a':Addr} {k:Bool->Sem α} {k':Bool->Sem β} (hF:∀b,¬F b) (h:bY π a a') (hk:∀t,bR P Al F A π (k t) (k' t)):bR P Al F A π (.frozen a k) (.frozen a' k')
 |share {π:Rn} {a a':Addr} {n:Nat} {k:ByteArray->Sem α} {k':ByteArray->Sem β} (h:bY π a a') (hk:∀s,bR P Al F A π (k s) (k' s)):bR P Al F A π (loadBytes a .empty n>>=λs=>freeze a n>>=λ_=>k s) (loadBytes a' .empty n>>=λs=>freeze a' n>>=λ_=>k' s)
 |same {π:Rn} {a a' b b':Addr} {k:Bool->Sem α} {k':Bool->Sem β} (hN:F.cmp/\∃x,F x) (h:bY π a a') (h':bY π b b') (hk:∀t,bR P Al F A π (k t) (k' t)):bR P Al F A π (sameAddr a b>>=k) (sameAddr a' b'>>=k')
 |choose {π:Rn} {q:Question} {k:Nat->Sem α} {k':Nat->Sem β} (hk:∀n,bR P Al F A π (k n) (k' n)):bR P Al F A π (.choose q k) (.choose q k')
 |program {π:Rn} {k:zZ->Sem α} {k':zZ->Sem β} (he:∀fs,Shape P fs->k' ⟨P.toTables,fs⟩=k' P) (hk:bR P Al F A π (k P) (k' P)):bR P Al F A π (.program k) (.program k')
 |env {π:Rn} {k:SysRet->Sem α} {k':SysRet->Sem β} (hk:∀r,bR P Al F A π (k r) (k' r)):bR P Al F A π (.sys .env k) (.sys .env k')
 |mark {π:Rn} {m:Mark} {k:Sem α} {k':Sem β} (hm:m= .noRoom\/∃f,m= .extern f) (hk:bR P Al F A π k k'):bR P Al F A π (.mark m k) (.mark m k')
 |panic {π:Rn} {x x':zY} (h:bE Al π x x'):bR P Al F A π (.halt (.panic x)) (.halt (.panic x'))
 |dead {π:Rn} {s:Sem α} {s':Sem β} (h:∀v es,∃hl w mg,s.runT P v es=(.halt hl w,mg)/\Fatal hl):bR P Al F A π s s'
structure jM (F:Kp)(π ρ:Rn)(v v' w w':zW):Prop where
 sub:∀b b',π b b'->ρ b b'
 SO:v.heap.size<=v'.heap.size
 size:w.heap.size<=w'.heap.size
 still:∀b',b'<w.heap.size->(∀b,π b b'->F b)->w'.heap[b']? =w.heap[b']?
 sU:∀b b',ρ b b'->π b b'\/(v.heap.size<=b/\w.heap.size<=b'/\b'<w'.heap.size)
 tape:w'.tape=w.tape
 os:w'.os=w.os
 out:w'.output=w.output
 Dx:v'.tape=v.tape
 om:v'.os=v.os
 Um:v'.output=v.output
 drawn:∃k,v'.drawn=v.drawn+k/\w'.drawn=w.drawn+k
 same:v.heap.size=w.heap.size->(∀b b',π b b'->b=b')->v'.heap.size=w'.heap.size/\∀b b',ρ b b'->b=b'
 FT:∀b,b<v.heap.size->(∀b',¬π b b')->v'.heap[b]? =v.heap[b]?
 full:∀b,v.heap.size<=b->b<v'.heap.size->∃b',ρ b b'
def nJ (F:Kp)(ρ:Rn)(e:Event):Prop:=
 (∃a c wr s,e=⟨.cell c,wr,s⟩/\bY ρ a c/\(wr=aE->¬F a.block))\/(e.loc= .mark .noRoom\/e.loc= .output)\/(∃f,e.loc= .mark (.extern f))\/∃r b s,e=⟨.obj b,aF,s⟩/\ρ r b
def nJ.mono {F π ρ}(h:∀b b',π b b'->ρ b b'){e}(x:nJ F π e):nJ F ρ e:=by
 obtain⟨a,i,wr,s,d,c,g⟩|x|x|⟨r,f,s,d,c⟩:=x
 .exact aG ⟨a,i,wr,s,d,c.mono h,g⟩
 .exact aH (aG x)
 .exact aH (aH (aG x))
 .exact aH (aH (aH ⟨r,f,s,d,h _ _ c⟩))
def jM.refl {F:Kp}{π:Rn}(v w:zW):jM F π π v v w w:=
 ⟨λ_ _ h=>h,zAa _,zAa _,λ_ _ _=>rfl,λ_ _ h=>aG h,rfl,rfl,rfl,rfl,rfl,rfl,⟨0,rfl,rfl⟩,λh k=>⟨h,k⟩,λ_ _ _=>rfl,λb c a=>by omega⟩
def jM.trans {F:Kp}{π ρ m:Rn}{v d f w w₁ e:zW}(h:jM F π ρ v d w w₁)(k:jM F ρ m d f w₁ e):jM F π m v f w e where
 sub b c x:=k.sub _ _ (h.sub _ _ x)
 SO:=zAv h.SO k.SO
 size:=zAv h.size k.size
 still c i o:=by rw[k.still c (zAc i h.size) (λb g=> ?_),h.still c i o];obtain x|⟨_,x,_⟩:=h.sU b c g;{exact o b x};{omega}
 sU b c x:=by
  obtain y|⟨j,r,q⟩:=k.sU b c x
  .obtain z|⟨p,z2,z3⟩:=h.sU b c y
   .exact aG z
   .exact aH ⟨p,z2,zAc z3 k.size⟩
  .exact aH ⟨zAv h.SO j,zAv h.size r,q⟩
 tape:=k.tape.trans h.tape
 os:=k.os.trans h.os
 out:=k.out.trans h.out
 Dx:=k.Dx.trans h.Dx
 om:=k.om.trans h.om
 Um:=k.Um.trans h.Um
 drawn:=by obtain⟨a,C,a2⟩:=h.drawn;obtain⟨b,B,A⟩:=k.drawn;exact⟨a+b,by omega,by omega⟩
 same x y:=let⟨s,j⟩:=h.same x y;k.same s j
 FT b i n:=by rw[k.FT b (zAc i h.SO) (λc g=> ?_),h.FT b i n];obtain x|⟨x,_⟩:=h.sU b c g;{exact n c x};{omega}
 full b u t:=by obtain l|l:=zDi b d.heap.size;{obtain⟨c,i⟩:=h.full b u l;exact⟨c,k.sub _ _ i⟩};{exact k.full b l t}
section
variable {P:zZ}{Al:zF}{F:Kp}{π:Rn}{v w:zW}
def OJ {x a}(h:bE Al π x a):x.bytes? =aB\/a.bytes? =x.bytes? :=by cases h<;>first|exact aG rfl|exact aH rfl
def tS {x b}(h:bE Al π x b)(bs):(x.ofBytes bs=aB\/b.ofBytes bs=x.ofBytes bs)/\∀y,x.ofBytes bs=aA y->bE Al π y y:=by
 cases h<;>refine⟨by first|exact aG rfl|exact aH rfl,λy a=> ?_⟩<;>simp only[Value.ofBytes]at a<;>first|(cases a;done)|skip
 .split at a<;>first|(cases a;exact .bool _)|cases a
 .split at a<;>first|(cases a;exact .int _ _)|cases a
def LF {p c c'}(h:aY Al π c c')(e):∀(f x stop),(∃a,seenCells p c e f x stop= .error a)\/seenCells p c' e f x stop=seenCells p c e f x stop:=by
 intro f;induction f with
 |zero=>intro x stop;exact aH rfl
 |succ f l=>
  intro x stop;simp only[seenCells];split;{exact aH rfl}
  .split
   .exact aH rfl
   .split
    .exact aH rfl
    .rename_i i s _;obtain⟨j,g⟩|⟨y,o,j,g,m⟩:=h.get i
     .rw[j,g];exact aH rfl
     .rw[j,g];dsimp only;obtain d|d:=OJ m
      .rw[d];exact aG ⟨_,rfl⟩
      .rw[d];cases y.bytes? with
       |none=>exact aH rfl
       |some n=>
        cases n with
        |nil=>exact aH rfl
        |cons q k=>dsimp only;obtain⟨a,b⟩|b:=l (s+(q::k).length) stop;{rw[b];exact aG ⟨a,rfl⟩};{rw[b];exact aH rfl}
def Iq {x f k k'}(n:bY π x f)(p:bY π k k')(u)(m){c c' e fr fr'}
  (A:v.heap[x.block]? =aA (aI c e fr)) (z:w.heap[f.block]? =aA (aI c' e fr')) (y:aY Al π c c'):
  (∃a,v.seen P x u k m= .error a)\/∃first l cells,v.seen P x u k m= .ok (c,e,fr,first,l,cells)/\w.seen P f u k' m= .ok (c',e,fr',first,l,cells)/\plainCell P P.depth u k.off=aA l:=by
 unfold World.seen;simp only[n.2.1,n.2.2,p.2.1,p.2.2,A,z];by_cases o:(k.spot.isSome||x.spot.isSome)=aE
 .left;rw[zAl o];exact⟨_,rfl⟩
 simp only[zAj o];cases B:plainCell P P.depth u k.off with
 |none=>left;exact⟨_,rfl⟩
 |some l=>
  have h:aA l=aA l:=rfl;dsimp only;cases hb:l.bytes?.map (·.length)with
  |none=>left;exact⟨_,rfl⟩
  |some size=>
   cases r:byteOfCell P P.depth u k.off with
   |none=>left;exact⟨_,rfl⟩
   |some β=>
    dsimp only;by_cases q:P.cellsOf e=0;{left;rw[zAl q];exact⟨_,rfl⟩};simp only[zAj q];cases s:byteOfCell P P.depth e (x.off%P.cellsOf e)with
    |none=>left;exact⟨_,rfl⟩
    |some b=>
     dsimp only;obtain⟨a,g⟩|g:=LF y e (size+1) (x.off/P.cellsOf e*P.bytesOf e+b+β) (x.off/P.cellsOf e*P.bytesOf e+b+β+size);{left;rw[g];exact⟨_,rfl⟩};rw[g];cases C:seenCells P c e (size+1) (x.off/P.cellsOf e*P.bytesOf e+b+β) (x.off/P.cellsOf e*P.bytesOf e+b+β+size)with
     |error a=>left;exact⟨_,rfl⟩
     |ok cells=>
      cases m with
      |false=>right;exact⟨_,l,cells,rfl,rfl,h⟩
      |true=>
       match cells with
       |[]=>left;exact⟨_,rfl⟩
       |[(i,t,d)]=>
        by_cases j:(decide (t≠x.off/P.cellsOf e*P.bytesOf e+b+β)||decide (d.length≠size))=aE;{left;refine⟨ "memory seen as another type: an atomic access to a part of a cell",?_⟩;show(if(decide (t≠x.off/P.cellsOf e*P.bytesOf e+b+β)||decide (d.length≠size))=aE then _ else _)=_;rw[zAl j];rfl}
        .right;refine⟨x.off/P.cellsOf e*P.bytesOf e+b+β,l,[(i,t,d)],?_,?_,h⟩
         .show(if(decide (t≠x.off/P.cellsOf e*P.bytesOf e+b+β)||decide (d.length≠size))=aE then _ else _)=_;rw[zAj j];rfl
         .show(if(decide (t≠x.off/P.cellsOf e*P.bytesOf e+b+β)||decide (d.length≠size))=aE then _ else _)=_;rw[zAj j];rfl
       |_::_::_=>left;exact⟨_,rfl⟩
def MS {x k}(u)(m)(h:∀c t f,v.heap[x.block]?≠aA (aI c t f)):∃a,v.seen P x u k m= .error a:=by
 unfold World.seen;by_cases b:(k.spot.isSome||x.spot.isSome)=aE
 .rw[zAl b];exact⟨_,rfl⟩
 rw[zAj b];cases g:plainCell P P.depth u k.off with
 |none=>exact⟨_,rfl⟩
 |some l=>
  dsimp only;cases hb:l.bytes?.map (·.length)with
  |none=>exact⟨_,rfl⟩
  |some size=>
   cases d:byteOfCell P P.depth u k.off with
   |none=>exact⟨_,rfl⟩
   |some β=>
    cases e:v.heap[x.block]? with
    |none=>exact⟨_,rfl⟩
    |some o=>cases o with
     |cells c t f=>exact absurd e (h c t f)
     |_=>exact⟨_,rfl⟩
def UA (h:bV P Al F π v w){x g k k'}(n:bY π x g)(s:bY π k k')(u)(m):
  (∃j,v.seen P x u k m= .error j)\/∃c c' e fr a first l cells,v.seen P x u k m= .ok (c,e,fr,first,l,cells)/\w.seen P g u k' m= .ok (c',e,a,first,l,cells)/\
   v.heap[x.block]? =aA (aI c e fr)/\w.heap[g.block]? =aA (aI c' e a)/\aY Al π c c'/\plainCell P P.depth u k.off=aA l/\(F x.block->fr.1=0/\c.size<=fr.2/\(∀(i:Nat) m,c[i]?≠aA (.int aP m))/\a.2<=c.size)/\(¬F x.block->a=fr)/\((F.cmp/\∃x,F x)->fr.2<=c.size/\a.2<=c.size):=by
 obtain⟨c,c',e,fr,a,d,p,b,B,A⟩|⟨_,o,r,_,q⟩|⟨z,G,d,_,b⟩:=h.blk _ _ n.1
 .obtain y|⟨first,l,cells,E,D,C⟩:=Iq n s u m d p b
  .exact aG y
  .exact aH ⟨c,c',e,fr,a,first,l,cells,E,D,d,p,b,C,B,A⟩
 .left;refine MS u m λc t f e=> ?_;rw[r]at e;cases e;exact q.1 _ _ _ rfl
 .left;refine MS u m λc t f e=> ?_;rw[d]at e;cases e;cases b
def bV.cell (h:bV P Al F π v w){a a'}(i:bY π a a'):
  (∃x l,v.cell? a=aA x/\w.cell? a'=aA l/\bE Al π x l)\/(v.cell? a=aB/\w.cell? a'=aB):=by
 obtain⟨c,c',ty,fr,r,k,e,j,_⟩|⟨_,e,j,q,p⟩|⟨z,A,k,e,j⟩:=h.blk _ _ i.1
 .cases g:a.spot with
  |some s=>have d:a'.spot=aA s:=by{rw[i.2.2,g]};exact aH ⟨by simp[World.cell?,k,g],by simp[World.cell?,e,d]⟩
  |none=>have d:a'.spot=aB:=by{rw[i.2.2,g]};obtain⟨n,m⟩|⟨x,l,n,m,y⟩:=j.get a.off;{exact aH ⟨by simp[World.cell?,k,g,n],by simp[World.cell?,e,d,i.2.1,m]⟩};{refine aG ⟨x,l,by simp[World.cell?,k,g,n],?_,y⟩;simp only[World.cell?,e,d,i.2.1,m];rfl}
 .have no:∀(u:zW)(b:Addr),u.heap[b.block]? =aA e->u.cell? b=aB:=λu b o=>by
   unfold World.cell?;rw[o];cases e with
   |cells c t f=>exact absurd rfl (p.1 c t f)
   |_=>rfl
  exact aH ⟨no v a j,no w a' q⟩
 .cases j<;>exact aH ⟨by simp[World.cell?,k],by simp[World.cell?,e]⟩
def uR (first:Nat)(l:zY)(cells:List (Nat×Nat×zB)):zB:=
 cells.flatMap λ(_,s,b)=>(b.drop (first-s)).take (first+(l.bytes?.map (·.length)).getD 0-max first s)
def CR {z k:Addr}{t:zD}{m:Bool}{c:zA}{e:zD}{fr:Nat×Nat}{first:Nat}{l:zY}{cells:List (Nat×Nat×zB)}
  (h:w.seen P z t k m= .ok (c,e,fr,first,l,cells)):
  w.viewLoad P z t k m=match l.ofBytes (uR first l cells)with|some x=>aGf (x,cells.map λi=>(⟨z.block,i.1,aB⟩:Addr))|none=>aGg "memory seen as another type: a bool from a byte other than 0 or 1":=by
 unfold World.viewLoad;rw[h];show(match l.ofBytes (uR first l cells)with|some v=>_|_=>_)=_;cases l.ofBytes (uR first l cells)<;>rfl
def bV.xr (h:bV P Al F π v w){a a'}(r:bY π a a')(m):
  (∃hl,v.farLoad P a m= .error hl/\Fatal hl)\/
  ∃(x:zY)(b B:Nat)(l:List Nat),v.farLoad P a m= .ok (x,l.map λi=>⟨b,i,aB⟩)/\w.farLoad P a' m= .ok (x,l.map λi=>⟨B,i,aB⟩)/\π b B/\bE Al π x x:=by
 have no:∀o,v.heap[a.block]? =o->(∀x u,o≠aA (.view x u))->(∀c t,o≠aA (.pending c t))->∃hl,v.farLoad P a m= .error hl/\Fatal hl:=by
  intro o n E D;unfold World.farLoad;rw[n];cases o with
  |none=>exact⟨_,rfl,by simp[World.noCell,n]⟩
  |some o=>
   cases o with
   |view x u=>exact absurd rfl (E x u)
   |pending c t=>exact absurd rfl (D c t)
   |_=>exact⟨_,rfl,by simp[World.noCell,n]⟩
 obtain⟨c,c',ty,fr,p,g,A,f,_⟩|⟨_,o,f,_,s⟩|⟨q,j,g,A,f⟩:=h.blk _ _ r.1
 .exact aG (no _ g (by simp) (by simp))
 .exact aG (no _ f (λx u e=>s.2.1 x u (zAm e)) (λc t e=>s.2.2.2 c t (zAm e)))
 .cases f with
  |number _ _=>exact aG (no _ g (by simp) (by simp))
  | @view z C f t hu=>
  unfold World.farLoad;simp only[g,A];obtain⟨k,e⟩|⟨c,c',e,fr,p,first,d,cells,I,H,L,K,J,G,_⟩:=UA h f r t m;{left;have:v.viewLoad P z t a m= .error k:=by{unfold World.viewLoad;rw[e];rfl};rw[this];exact⟨_,rfl,by simp⟩}
  .rw[CR I,CR H];cases hb:d.ofBytes (uR first d cells)with
   |none=>left;exact⟨_,rfl,by simp⟩
   |some y=>right;exact⟨y,z.block,C.block,cells.map (·.1),by simp only[zEm];rfl,by simp only[zEm];rfl,f.1,(tS (hu _ _ _ G Al π) _).2 y hb⟩
def bS {h:zJ}{b i}(f:Obj->Obj)(a:b≠i):(h.modify b f)[i]? =h[i]? :=by rw[zDu];simp[a]
def cC {h:zJ}{b}(f:Obj->Obj):(h.modify b f)[b]? =(h[b]?).map f:=by rw[zDu];simp
def bV.EG (h:bV P Al F π v w){b b'}(u:π b b'){f f'}
  (r:∀o,(∃c t fr c' fr',o=aI c t fr/\f o=aI c' t fr'/\c'.size=c.size)\/f o=o)
  (j:∀o,(∃c t fr c' fr',o=aI c t fr/\f' o=aI c' t fr'/\c'.size=c.size)\/f' o=o)
  (G:∀o C,Tn Al F π b (aA o) (aA C)->Tn Al F π b (aA (f o)) (aA (f' C))):
  bV P Al F π {v with heap:=v.heap.modify b f} {w with heap:=w.heap.modify b' f'}:=by
 have i:∀(g:Obj->Obj) y,(∀c t f,y≠aI c t f)->(∀o,(∃c t fr c' fr',o=aI c t fr/\g o=aI c' t fr'/\c'.size=c.size)\/g o=o)->g y=y:=λg y E p=>by obtain⟨c,t,fr,c',fr',e,_⟩|e:=p y;{exact absurd e (E c t fr)};{exact e}
 refine⟨h.ok,λx D a=> ?_,h.tape,λx a=>by simpa using h.fresh x a,by simpa using h.low,h.os,λx a=> ?_⟩;rotate_left
 .obtain⟨o,s,k⟩:=h.rows x a;by_cases e:b=x
  .subst e;obtain⟨c1,t1,L,c2,K,O,M,N⟩|e:=r o
   .exact⟨_,by rw[cC,s,zBh,M],aG ⟨_,_,_,rfl⟩⟩
   .exact⟨o,by rw[cC,s,zBh,e],k⟩
  .exact⟨o,by rw[bS f e];exact s,k⟩
 by_cases e:b=x
 .have l:=(h.ok.inj u a).1 e;subst e;subst l;obtain y|⟨n,o,m,d,B⟩|⟨z,A,n,m,d⟩:=h.blk _ _ u
  .left;obtain⟨c,c',ty,fr,fr',J,I,H⟩:=y;have:=G (aI c ty fr) (aI c' ty fr') ⟨c,c',ty,fr,fr',rfl,rfl,H⟩;simp only[cC,J,I,zBh];exact this
  .right;left;have k:∀(g:Obj->Obj),(∀o,(∃c t fr c' fr',o=aI c t fr/\g o=aI c' t fr'/\c'.size=c.size)\/g o=o)->g o=o:=λg p=>by
    obtain⟨c,t,fr,c',fr',e,_⟩|e:=p o;{exact absurd e (B.1 c t fr)};{exact e}
   exact⟨n,o,by rw[cC,m,zBh,k f r],by rw[cC,d,zBh,k f' j],B⟩
  .right;right;refine⟨z,A,?_,?_,d⟩
   .rw[cC,n,zBh,i f z (by cases d<;>simp) r]
   .rw[cC,m,zBh,i f' A (by cases d<;>simp) j]
 .have l:b'≠D:=λq=>e ((h.ok.inj u a).2 q);obtain y|y|y:=h.blk _ _ a
  .left;simp only[bS f e,bS f' l];exact y
  .right;left;simp only[bS f e,bS f' l];exact y
  .right;right;simp only[bS f e,bS f' l];exact y
def bV.setCell (h:bV P Al F π v w){a a'}(b:bY π a a')(hF:¬F a.block){x e}(j:bE Al π x e):bV P Al F π (v.setCell a x) (w.setCell a' e):=by
 refine h.EG b.1 (λo=> ?_) (λo=> ?_) (λo p l=> ?_)
 .cases o<;>first|exact aH rfl|skip
  rename_i c t fr;exact aG ⟨c,t,fr,_,fr,rfl,rfl,by split<;>simp⟩
 .cases o<;>first|exact aH rfl|skip
  rename_i c t fr;exact aG ⟨c,t,fr,_,fr,rfl,rfl,by split<;>simp⟩
 .obtain⟨c,c',ty,fr,f,n,m,i,q,g⟩:=l;cases n;cases m;refine⟨_,_,ty,fr,f,rfl,rfl,?_,λd=>absurd d hF,g.1,λk=> ?_⟩
  .rw[b.2.2,b.2.1];split
   .exact i
   .exact i.set j _
  .have:=g.2 k;split
   .exact this
   .simpa using this
def bV.frozen (h:bV P Al F π v w){a a'}(i:bY π a a')(hF:¬F a.block):w.frozen? a'=v.frozen? a:=by
 obtain⟨c,c',ty,fr,m,g,d,e,j,l⟩|⟨_,o,d,e,j⟩|⟨_,_,g,d,e⟩:=h.blk _ _ i.1
 .have:=l.1 hF;subst this;simp only[World.frozen?,g,d,i.2.1]
 .have no:∀(u:zW)(b:Addr),u.heap[b.block]? =aA o->u.frozen? b=aF:=λu b k=>by
   unfold World.frozen?;rw[k];cases o with
   |cells c t f=>exact absurd rfl (j.1 c t f)
   |_=>rfl
  rw[no v _ d,no w _ e]
 .cases e<;>simp only[World.frozen?,g,d]
def bV.Fc (h:bV P Al F π v w){a a'}(j:bY π a a')(hF:F a.block){x}(b:v.cell? a=aA x):v.frozen? a=aE:=by
 obtain⟨c,c',ty,fr,k,d,i,g,e,n⟩|⟨_,o,i,g,e⟩|⟨_,_,d,i,g⟩:=h.blk _ _ j.1
 .obtain⟨lo,hi⟩:=fr;obtain⟨m,l,_⟩:=e hF;simp only[World.cell?,d]at b;split at b
  .cases b
  .obtain⟨bX,_⟩:=zAb.1 b;simp only[World.frozen?,d,zBc,zBo];simp only at m l;omega
 .unfold World.cell? at b;rw[i]at b;cases o with
  |cells c t f=>exact absurd rfl (e.1 c t f)
  |_=>cases b
 .cases g<;>(simp only[World.cell?,d]at b;cases b)
def bV.freeze (h:bV P Al F π v w)(hF:∀b,¬F b){a a'}(d:bY π a a')(n):bV P Al F π (v.freeze a n) (w.freeze a' n):=by
 unfold World.freeze;split
 .exact h
 .refine h.EG d.1 (λo=> ?_) (λo=> ?_) (λo m f=> ?_)
  .cases o<;>first|exact aH rfl|skip
   rename_i c t fr;exact aG ⟨c,t,fr,_,_,rfl,rfl,rfl⟩
  .cases o<;>first|exact aH rfl|skip
   rename_i c t fr;exact aG ⟨c,t,fr,_,_,rfl,rfl,rfl⟩
  .obtain⟨c,c',ty,fr,l,k,j,i,p,g⟩:=f;cases k;cases j;have:=g.1 (hF _);subst this;refine⟨_,_,ty,_,_,rfl,rfl,i,λx=>absurd x (hF _),λ_=> ?_,λ⟨_,x,e⟩=>absurd e (hF x)⟩;rw[d.2.1]
def bV.WU (h:bV P Al F π v w){a a'}(A:bY π a a'){n}(M:∀c t fr,v.heap[a.block]? =aA (aI c t fr)->a.off+n<=c.size)(hF:n≠0->¬F a.block):bV P Al F π (v.freeze a n) (w.freeze a' n):=by
 unfold World.freeze;split
 .exact h
 .rename_i J;replace hF:=hF J;have hcut:∀(g:Nat×Nat)(m:Nat),g.2<=m->a.off+n<=m->(if g.1==g.2 then(a.off,a.off+n)else(min g.1 a.off,max g.2 (a.off+n))).2<=m:=by
   intro g m S O;split;{exact O};{skip;omega}
  obtain⟨k,p,d,l,B,E,R,Q,g4,g5⟩|z|z:=h.blk _ _ A.1
  .have s:=M k d l E;refine⟨h.ok,λx H j=> ?_,h.tape,λx j=>by simpa using h.fresh x j,by simpa using h.low,h.os,λx j=> ?_⟩;rotate_left
   .obtain⟨o,L,z⟩:=h.rows x j;have:a.block≠x:=λq=>hF (q▸j);exact⟨o,by rw[bS _ this];exact L,z⟩
   by_cases e:a.block=x;{have C:=(h.ok.inj A.1 j).1 e;subst e;subst C;left;have:=g5.1 hF;subst this;refine⟨k,p,d,_,_,by rw[cC,E];rfl,by rw[cC,R];rfl,Q,λq=>absurd q hF,λ_=>by rw[A.2.1],λN=> ?_⟩;have:=g5.2 N;rw[A.2.1];exact⟨hcut _ _ this.1 s,hcut _ _ this.2 s⟩};{have C:a'.block≠H:=λq=>e ((h.ok.inj A.1 j).2 q);have:=h.blk _ _ j;simpa only[bS _ e,bS _ C]using this}
  all_goals
   have same:∀(u:zW)(b:Addr)(o:Obj)(f:Obj->Obj),u.heap[b.block]? =aA o->f o=o->u.heap.modify b.block f=u.heap:=λu b o f I D=>by apply zBu;intro i;rw[zDu];by_cases hi:b.block=i;{subst hi;simp[I,D]};{simp[hi]}
  .obtain⟨_,o,k1,k2,r⟩:=z;have D:∀(g:Obj->Obj),(∀o,EU o->g o=o)->g o=o:=λg K=>K o r;rw[same v a o _ k1 (by cases o<;>first|rfl|exact absurd rfl (r.1 _ _ _)),same w a' o _ k2 (by cases o<;>first|rfl|exact absurd rfl (r.1 _ _ _))];exact h
  .obtain⟨y,G,k1,k2,r⟩:=z;rw[same v a y _ k1 (by cases r<;>rfl),same w a' G _ k2 (by cases r<;>rfl)];exact h
def more (π:Rn)(r r':Nat):Rn:=λb a=>π b a\/(b=r/\a=r')
def bV.lt (h:bV P Al F π v w){b b'}(e:π b b'):b<v.heap.size/\b'<w.heap.size:=by
 obtain⟨c,c',ty,fr,f,a,d,_⟩|⟨a,_⟩|⟨_,_,a,d,_⟩:=h.blk _ _ e
 .exact⟨(zAb.1 a).1,(zAb.1 d).1⟩
 .have:=h.ok.base e (aG a);have:=h.low;omega
 .exact⟨(zAb.1 a).1,(zAb.1 d).1⟩
def bV.Ag (h:bV P Al F π v w)(o g)
  (s:Tn Al F (more π v.heap.size w.heap.size) v.heap.size (aA o) (aA g)\/dt P (more π v.heap.size w.heap.size) (aA o) (aA g)):
  bV P Al F (more π v.heap.size w.heap.size) {v with heap:=v.heap.push o} {w with heap:=w.heap.push g}:=by
 have c:∀b f,π b f->more π v.heap.size w.heap.size b f:=λ_ _ x=>aG x;refine⟨⟨?_,?_,λb e=>aG (h.ok.iH b e)⟩,?_,h.tape,λb e=>by have:=h.fresh b e;simp;omega,by have:=h.low;simp;omega,h.os,λb e=>let⟨i,A,u⟩:=h.rows b e;⟨i,by rw[zBk,zAj (by have:=h.fresh b e;omega)];exact A,u⟩⟩
 .rintro a H b f (x|⟨rfl,rfl⟩) (y|⟨rfl,rfl⟩)
  .exact h.ok.inj x y
  .have:=h.lt x;omega
  .have:=h.lt y;omega
  .simp
 .rintro b f (x|⟨rfl,rfl⟩) e
  .exact h.ok.base x e
  .have:=h.low;omega
 .rintro b f (x|⟨rfl,rfl⟩)
  .have hl:=h.lt x;have k:(v.heap.push o)[b]? =v.heap[b]? :=by{rw[zBk,zAj (by omega)]};have j:(w.heap.push g)[f]? =w.heap[f]? :=by{rw[zBk,zAj (by omega)]};obtain⟨d,G,t,fr,p,E,D,C,B⟩|⟨n,o,m,l,r⟩|⟨z,q,n,m,l⟩:=h.blk _ _ x;{left;exact⟨d,G,t,fr,p,by rw[k];exact E,by rw[j];exact D,C.mono c,B⟩};{right;left;exact⟨n,o,by rw[k];exact m,by rw[j];exact l,r⟩};{right;right;exact⟨z,q,by rw[k];exact n,by rw[j];exact m,l.mono c⟩}
  .have k:(v.heap.push o)[v.heap.size]? =aA o:=by{simp};have j:(w.heap.push g)[w.heap.size]? =aA g:=by{simp};simp only[k,j];obtain y|y:=s;{exact aG y};{exact aH (aH y)}
def bV.push (h:bV P Al F π v w){c c':zA}(a:aY Al π c c')(ty:zD):
  bV P Al F (more π v.heap.size w.heap.size) {v with heap:=v.heap.push (aI c ty)} {w with heap:=w.heap.push (aI c' ty)}:=
 h.Ag _ _ (aG ⟨c,c',ty,(0,0),(0,0),rfl,rfl,a.mono (λ_ _ x=>aG x),λhF=>absurd (h.fresh _ hF) (by omega),λ_=>rfl,λ_=>⟨zBq _,zBq _⟩⟩)
def bV.rS (h:bV P Al F π v w)(b:¬F.cmp){c c':zA}(a:aY Al π c c')(ty:zD):
  bV P Al F (more π v.heap.size w.heap.size) {v with heap:=v.heap.push (aI c ty (c.size,c.size+1))} {w with heap:=w.heap.push (aI c' ty (c'.size,c'.size+1))}:=
 h.Ag _ _ (aG ⟨c,c',ty,(c.size,c.size+1),(c'.size,c'.size+1),rfl,rfl,a.mono (λ_ _ x=>aG x),λhF=>absurd (h.fresh _ hF) (by omega),λ_=>by rw[a.size],λx=>absurd x.1 b⟩)
def oU {α}(Q)(c)(ty)(k:Nat->Sem α)(u)(es):
  (Sem.new (aI c ty) λr=>markStringish ⟨r,0,aB⟩>>=λ_=>k r).runT Q u es=(k u.heap.size).runT Q {u with heap:=u.heap.push (aI c ty (c.size,c.size+1))} es:=by
 have b:(u.heap.push (aI c ty))[u.heap.size]? =aA (aI c ty):=by simp
 have a:({u with heap:=u.heap.push (aI c ty)}:zW).shape? u.heap.size=aA (ty,c.size):=by simp only[World.shape?,b]
 have e:(({u with heap:=u.heap.push (aI c ty)}:zW).freeze ⟨u.heap.size,c.size,aB⟩ 1)={u with heap:=u.heap.push (aI c ty (c.size,c.size+1))}:=by unfold World.freeze;simp only[Nat.one_ne_zero,zDg];congr 1;apply zBu;intro i;by_cases hi:u.heap.size=i;{subst hi;rw[cC];simp};{rw[bS _ hi,zBk,zBk,zAj (zDy hi),zAj (zDy hi)]}
 simp only[Sem.runT];show(Sem.shape u.heap.size _).runT Q _ es=_;simp only[Sem.runT,a];show(Sem.freeze ⟨u.heap.size,c.size,aB⟩ 1 _).runT Q _ es=_;simp only[Sem.runT,e];rfl
def bV.yJ (h:bV P Al F π v w){x a:Obj}(b:Ow P π x a):
  bV P Al F (more π v.heap.size w.heap.size) {v with heap:=v.heap.push x} {w with heap:=w.heap.push a}:=
 h.Ag _ _ (aH ⟨x,a,rfl,rfl,b.mono (λ_ _ x=>aG x)⟩)
def bV.shape (h:bV P Al F π v w){b b'}(f:π b b'):w.shape? b'=v.shape? b:=by
 obtain⟨c,c',ty,fr,g,e,d,a,_⟩|⟨_,o,d,a,_⟩|⟨_,_,e,d,a⟩:=h.blk _ _ f
 .simp only[World.shape?,e,d,a.size]
 .simp only[World.shape?,d,a]
 .cases a<;>simp only[World.shape?,e,d]
def lC (first n:Nat)(bytes:zB)(fr:Nat×Nat)(c:zA)(x:Nat×Nat×zB):Except String (zA):=
 if(decide (x.2.1<first)||decide (x.2.1+x.2.2.length>first+n))=aE then .error "memory seen as another type: a part of a cell written"
 else if(decide (fr.1<=x.1)&&decide (x.1<fr.2))=aE then .error "a write to bytes that a string shares"
 else match c[x.1]? with
  |none=> .error "memory seen as another type: no such cell"
  |some old=>match old.ofBytes ((bytes.drop (x.2.1-first)).take x.2.2.length)with
   |none=> .error "memory seen as another type: a bool from a byte other than 0 or 1"
   |some new=> .ok (c.setIfInBounds x.1 new)
def rJ {z k:Addr}{t:zD}{m:Bool}{c:zA}{e:zD}{fr:Nat×Nat}{first:Nat}{l y:zY}{cells:List (Nat×Nat×zB)}
  (h:w.seen P z t k m= .ok (c,e,fr,first,l,cells)):
  w.viewStore P z t k y m=if(!tight P P.depth t)=aE then aGg "memory seen as another type: a store through a type with padding" else match y.bytes? with
   |none=>aGg "memory seen as another type: a value that is no plain data"
   |some bytes=>if aA bytes.length≠l.bytes?.map (·.length)then aGg "memory seen as another type: a value of another size" else
    match cells.foldlM (lC first bytes.length bytes fr) c with
    | .error a=> .error a
    | .ok c1=>aGf ({w with heap:=w.heap.setIfInBounds z.block (aI c1 e fr)},cells.map λi=>(⟨z.block,i.1,aB⟩:Addr)):=by
 unfold World.viewStore;by_cases b:(!tight P P.depth t)=aE
 .rw[zAl b,zAl b];rfl
 .rw[zAj b,zAj b,h];show(match y.bytes? with|some bytes=>_|_=>_)=_;cases n:y.bytes? with
  |none=>rfl
  |some bytes=>
   dsimp only;by_cases d:aA bytes.length≠l.bytes?.map (·.length);{rw[zAl d,zAl d];rfl}
   .rw[zAj d,zAj d];have f:∀(g:zA->Nat×Nat×zB->Except String (zA)),g=lC first bytes.length bytes fr->
      (Bind.bind (List.foldlM g c cells) λc1=>(Pure.pure ({w with heap:=w.heap.setIfInBounds z.block (aI c1 e fr)},cells.map λi=>(⟨z.block,i.1,aB⟩:Addr)):Except String (zW×List Addr)))=
       match cells.foldlM (lC first bytes.length bytes fr) c with
       | .error a=> .error a
       | .ok c1=>aGf ({w with heap:=w.heap.setIfInBounds z.block (aI c1 e fr)},cells.map λi=>(⟨z.block,i.1,aB⟩:Addr)):=by
     rintro g rfl
     cases cells.foldlM (lC first bytes.length bytes fr) c<;>rfl
    refine f _ ?_;funext c x;obtain⟨i,s,j⟩:=x;unfold lC;dsimp only;split;{rfl}
    .split
     .rfl
     .cases c[i]? with
      |none=>rfl
      |some old=>dsimp only;cases old.ofBytes ((bytes.drop (s-first)).take j.length)<;>rfl
def Rb {first n bytes fr}:∀(cells:List (Nat×Nat×zB)){c c'},aY Al π c c'->
  (∃b,cells.foldlM (lC first n bytes fr) c= .error b)\/∃c1 a,cells.foldlM (lC first n bytes fr) c= .ok c1/\cells.foldlM (lC first n bytes fr) c'= .ok a/\aY Al π c1 a/\c1.size=c.size:=by
 intro cells;induction cells with
 |nil=>intro c c' h;exact aH ⟨c,c',rfl,rfl,h,rfl⟩
 |cons x cells j=>
  intro c c' h;simp only[List.foldlM_cons];unfold lC;split;{left;exact⟨_,rfl⟩}
  .split
   .left;exact⟨_,rfl⟩
   .obtain⟨f,i⟩|⟨y,k,f,i,g⟩:=h.get x.1
    .rw[f];left;exact⟨_,rfl⟩
    .rw[f,i];dsimp only;obtain d|d:=(tS g ((bytes.drop (x.2.1-first)).take x.2.2.length)).1
     .rw[d];left;exact⟨_,rfl⟩
     rw[d];cases hb:y.ofBytes ((bytes.drop (x.2.1-first)).take x.2.2.length)with
     |none=>left;exact⟨_,rfl⟩
     |some new=>obtain⟨b,e⟩|⟨c1,a,f1,f2,f3,f4⟩:=j (h.set ((tS g _).2 new hb) x.1);{left;exact⟨b,e⟩};{right;exact⟨c1,a,f1,f2,f3,by rw[f4];simp⟩}
def WV {first n bytes fr}(cells){c}(b:fr.1=0)(d:c.size<=fr.2):
  (∃a,cells.foldlM (lC first n bytes fr) c= .error a)\/cells=[]:=by
 cases cells with
 |nil=>exact aH rfl
 |cons x cells=>
  left;simp only[List.foldlM_cons];unfold lC;split;{exact⟨_,rfl⟩}
  .split
   .exact⟨_,rfl⟩
   .rename_i h;have:c[x.1]? =aB:=by
     rw[Array.getElem?_eq_none_iff];simp only[b,zBc,zBo]at h;omega
    rw[this];exact⟨_,rfl⟩
def cO {h:zJ}{b o}(e:h[b]? =aA o):h.setIfInBounds b o=h:=by
 apply zBu;intro i;rw[zBm];by_cases hi:b=i
 .subst hi;have:=(zAb.1 e).1;rw[zAl rfl,zAl this,e]
 .simp[hi]
def BK (c1:zA)(e:zD)(fr:Nat×Nat):Obj->Obj
 |aI d t g=>if d.size=c1.size/\t=e then aI c1 e fr else aI d t g
 |o=>o
def MV (c1)(e)(fr:Nat×Nat)(o):(∃c t f c' a,o=aI c t f/\BK c1 e fr o=aI c' t a/\c'.size=c.size)\/BK c1 e fr o=o:=by
 cases o with
 |cells d t g=>unfold BK;dsimp only;by_cases h:d.size=c1.size/\t=e;{left;exact⟨d,t,g,c1,fr,rfl,by rw[zAl h,h.2],h.1.symm⟩};{right;rw[zAj h]}
 |_=>exact aH rfl
def GX {h:zJ}{b c t fr}(c1)(hs:c1.size=c.size)(e:h[b]? =aA (aI c t fr)):
  h.setIfInBounds b (aI c1 t fr)=h.modify b (BK c1 t fr):=by
 apply zBu;intro i;rw[zBm,zDu];have:=(zAb.1 e).1;by_cases hi:b=i
 .subst hi;rw[zAl rfl,zAl this,zAl rfl,e];simp[BK,hs]
 .simp[hi]
def bV.farStore (h:bV P Al F π v w){a a'}(S:bY π a a'){y Q}(hy:bE Al π y Q)(m):
  (∃hl,v.farStore P a y m= .error hl/\Fatal hl)\/
  ∃(K w1:zW)(b I:Nat)(l:List Nat),v.farStore P a y m= .ok (K,l.map λi=>⟨b,i,aB⟩)/\w.farStore P a' Q m= .ok (w1,l.map λi=>⟨I,i,aB⟩)/\π b I/\
   bV P Al F π K w1/\jM F π π v K w w1/\(F b->l=[]):=by
 have no:∀o,v.heap[a.block]? =o->(∀x u,o≠aA (.view x u))->(∀c t,o≠aA (.pending c t))->∃hl,v.farStore P a y m= .error hl/\Fatal hl:=by
  intro o N hn hp;unfold World.farStore;rw[N];cases o with
  |none=>exact⟨_,rfl,by simp[World.noCell,N]⟩
  |some o=>
   cases o with
   |view x u=>exact absurd rfl (hn x u)
   |pending c t=>exact absurd rfl (hp c t)
   |_=>exact⟨_,rfl,by simp[World.noCell,N]⟩
 obtain⟨c,c',ty,fr,j,G,H,n,_⟩|⟨_,o,n,_,T⟩|⟨O,J,G,H,n⟩:=h.blk _ _ S.1
 .exact aG (no _ G (by simp) (by simp))
 .exact aG (no _ n (λx u e=>T.2.1 x u (zAm e)) (λc t e=>T.2.2.2 c t (zAm e)))
 .cases n with
  |number _ _=>exact aG (no _ G (by simp) (by simp))
  | @view z B n t hu=>
  unfold World.farStore;simp only[G,H];obtain⟨k,e⟩|⟨c,c',e,fr,j,first,C,cells,e1,e2,Y,X,W,e6,V,U⟩:=UA h n S t m
  .left;have:∃k,v.viewStore P z t a y m= .error k:=by
    unfold World.viewStore;by_cases r:(!tight P P.depth t)=aE;{rw[zAl r];exact⟨_,rfl⟩};{rw[zAj r,e];exact⟨_,rfl⟩}
   obtain⟨k,hw⟩:=this;rw[hw];exact⟨_,rfl,by simp⟩
  .rw[rJ e1,rJ e2];obtain s|s:=OJ hy
   .rw[s];by_cases r:(!tight P P.depth t)=aE
    .rw[zAl r];left;exact⟨_,rfl,by simp⟩
    .rw[zAj r];left;exact⟨_,rfl,by simp⟩
   rw[s];by_cases r:(!tight P P.depth t)=aE;{rw[zAl r];left;exact⟨_,rfl,by simp⟩};simp only[zAj r];cases hb:y.bytes? with
   |none=>left;exact⟨_,rfl,by simp⟩
   |some bytes=>
    dsimp only;by_cases R:aA bytes.length≠C.bytes?.map (·.length);{rw[zAl R];left;exact⟨_,rfl,by simp⟩};simp only[zAj R];by_cases hF:F z.block
    .obtain⟨k,f⟩|f:=WV cells (V hF).1 (V hF).2.1
     .rw[f];left;exact⟨_,rfl,by simp⟩
     .subst f;right;refine⟨v,w,z.block,B.block,[],?_,?_,n.1,h,jM.refl v w,λ_=>rfl⟩
      .simp only[List.foldlM_nil];show aGf (({v with heap:=v.heap.setIfInBounds z.block (aI c e fr)}:zW),_)=_;rw[cO Y];rfl
      .simp only[List.foldlM_nil];show aGf (({w with heap:=w.heap.setIfInBounds B.block (aI c' e j)}:zW),_)=_;rw[cO X];rfl
    .have:=U.1 hF;subst this;obtain⟨k,f⟩|⟨c1,p,f1,f2,f3,f4⟩:=Rb cells W
     .rw[f];left;exact⟨_,rfl,by simp⟩
     .rw[f1,f2];right;have D:=f4;have M:p.size=c'.size:=by{rw[f3.size,f4,W.size]};refine⟨_,_,z.block,B.block,cells.map (·.1),by simp only[zEm];rfl,by simp only[zEm];rfl,n.1,?_,?_,λx=>absurd x hF⟩
      .have:=h.EG n.1 (MV c1 e j) (MV p e j) ?_
       .rw[<-GX c1 D Y,<-GX p M X]at this;exact this
       .rintro o o' ⟨d,d',ty,g,g',q1,q2,L,q4,Z⟩;cases q1;cases q2;unfold BK;dsimp only;by_cases E:d.size=c1.size/\ty=e
        .rw[zAl E,zAl ⟨by rw[L.size,E.1,f3.size],E.2⟩];exact⟨c1,p,e,j,j,rfl,rfl,f3,λx=>absurd x hF,λ_=>rfl,λhN=>by have:=U.2 hN;rw[D];exact this⟩
        .rw[zAj E,zAj (λx=>E ⟨by rw[<-L.size,x.1,f3.size],x.2⟩)];exact⟨d,d',ty,g,g',rfl,rfl,L,q4,Z⟩
      .refine⟨λ_ _ x=>x,by simp,by simp,λI _ A=> ?_,λ_ _ x=>aG x,rfl,rfl,rfl,rfl,rfl,rfl,⟨0,rfl,rfl⟩,λx y=>⟨by simpa using x,y⟩,λb _ A=> ?_,λb G H=>by simp at H;omega⟩
       .have:B.block≠I:=λq=>hF (A z.block (q▸n.1));simp only[zAd this]
       .have:z.block≠b:=λq=>A B.block (q▸n.1);simp only[zAd this]
end
section
variable {P:zZ}{Al:zF}{F:Kp}{α β:Type}{A:Rn->α->β->Prop}
def Vo {α:Type}:Result α×zE->zW
 |(.ok _ w,_)=>w
 |(.halt _ w,_)=>w
def Xn (F:Kp)(u:zW):Prop:=∃n,F.sY=aA n/\n<u.drawn
def Form {α β:Type}(A:Rn->α->β->Prop)(r:Result α×zE):Prop:=
 (∃(a:α)(b:β)(d:Rn)(c:zW)(e:zE),r=(.ok a c,e)/\A d a b)\/∃(x:zY)(c:zW)(e:zE),r=(.halt (.panic x) c,e)
def qS (P:zZ)(Al:zF)(F:Kp)(A:Rn->α->β->Prop)(π:Rn)(v w:zW)(g:zE)(r:Result α×zE)(r':Result β×zE):Prop:=
 ((∃hl j c,r=(.halt hl j,c)/\Fatal hl)\/(Xn F (Vo r)/\Form A r))\/
 ∃(f:Rn)(h w1:zW)(c:zE)(d:zE),bV P Al F f h w1/\jM F π f v h w w1/\(∀e∈d,nJ F f e)/\
  ((∃a b,r=(.ok a h,c)/\r'=(.ok b w1,g++d)/\A f a b)\/(∃x i,r=(.halt (.panic x) h,c)/\r'=(.halt (.panic i) w1,g++d)/\bE Al f x i))
def qS.step {π ρ v v1 w w1 a d r r'}
  (g:jM F π ρ v v1 w w1) (j:∀e∈d,nJ F ρ e) (h:qS P Al F A ρ v1 w1 (a++d) r r'):qS P Al F A π v w a r r':=by
 obtain h|⟨f,v2,w2,b,d2,m,c,l,k⟩:=h
 .exact aG h
 .refine aH ⟨f,v2,w2,b,d++d2,m,g.trans c,λe i=> ?_,?_⟩
  .obtain x|x:=zEl.1 i
   .exact(j e x).mono c.sub
   .exact l e x
  .rw[<-zEp];exact k
def nU (es)(e:Event):es++ #[e]=es.push e:=by simp
end
section
variable {P:zZ}{α β γ:Type}
def bC {s:Sem α}{f:α->Sem β}(v:zW)(es:zE):(s>>=f).runT P v es=match s.runT P v es with|(.ok a w,e)=>(f a).runT P w e|(.halt h w,e)=>(.halt h w,e):=by
 show(s.bind f).runT P v es=_;induction s generalizing v es with
 |pure a=>rfl
 |load m a k i=>
  simp only[Sem.bind,Sem.runT];split;{exact i _ _ _}
  .split
   .exact i _ _ _
   .rfl
 |store m a x k i=>cases x<;>simp only[Sem.bind,Sem.runT]<;>(repeat' split)<;>first|rfl|exact i _ _|(simp_all;done)
 |new o k i=>simp only[Sem.bind,Sem.runT];exact i _ _ _
 |shape r k i=>simp only[Sem.bind,Sem.runT];exact i _ _ _
 |freeze a n k i=>simp only[Sem.bind,Sem.runT];exact i _ _
 |frozen a k i=>simp only[Sem.bind,Sem.runT];exact i _ _ _
 |getObj r k i=>simp only[Sem.bind,Sem.runT];split<;>first|rfl|exact i _ _ _
 |setObj r o k i=>simp only[Sem.bind,Sem.runT];split<;>first|rfl|exact i _ _
 |choose q k i=>simp only[Sem.bind,Sem.runT];split<;>exact i _ _ _
 |sys c k i=>simp only[Sem.bind,Sem.runT];exact i _ _ _
 |program k i=>simp only[Sem.bind,Sem.runT];exact i _ _ _
 |mark m k i=>simp only[Sem.bind,Sem.runT];exact i _ _
 |halt h=>rfl
def bind_assoc' {s}{f:α->Sem β}{g:β->Sem γ}:(s>>=f)>>=g=s>>=λa=>f a>>=g:=by
 show(s.bind f).bind g=s.bind λa=>(f a).bind g
 induction s with
 |pure a=>rfl
 |load m a k i=>simp only[Sem.bind,i]
 |store m a x k i=>simp only[Sem.bind,i]
 |new o k i=>simp only[Sem.bind,i]
 |shape r k i=>simp only[Sem.bind,i]
 |freeze a n k i=>simp only[Sem.bind,i]
 |frozen a k i=>simp only[Sem.bind,i]
 |getObj r k i=>simp only[Sem.bind,i]
 |setObj r o k i=>simp only[Sem.bind,i]
 |choose q k i=>simp only[Sem.bind,i]
 |sys c k i=>simp only[Sem.bind,i]
 |program k i=>simp only[Sem.bind,i]
 |mark m k i=>simp only[Sem.bind,i]
 |halt h=>rfl
end
section
variable {P:zZ}{Al:zF}{F:Kp}{π:Rn}{v w:zW}
def yQ (a:Addr)(acc:ByteArray)(n:Nat)(x:zY):Sem ByteArray:=
 match x with| .int aP b=>loadBytes (a.add 1) (acc.push b.toNat.toUInt8) n|_=>stuck "a byte variable that holds no byte"
def wB (M:bV P Al F π v w):∀(n){a z}(acc)(r j),bY π a z->
  (∃hl g,(loadBytes a acc n).runT P v r=(.halt hl v,g)/\Fatal hl)\/
  ∃s g d,(loadBytes a acc n).runT P v r=(.ok s v,g)/\(loadBytes z acc n).runT P w j=(.ok s w,j++d)/\(∀e∈d,nJ F π e)/\
   (n≠0->(∀c t fr,v.heap[a.block]? =aA (aI c t fr)->a.off+n<=c.size)/\¬F a.block):=by
 intro n;induction n with
 |zero=>intro a z acc r j h;exact aH ⟨acc,r,#[],rfl,by simp[loadBytes,pure,Sem.runT],by simp,λh=>absurd rfl h⟩
 |succ n Z=>
  intro a z acc r j h;have H:∀(x G:zY)(d:zE)(u:zE),bE Al π x G->(∀e∈d,nJ F π e)->
    (loadBytes a acc (n+1)).runT P v r=(yQ a acc n x).runT P v u->
    (loadBytes z acc (n+1)).runT P w j=(yQ z acc n G).runT P w (j++d)->
    (∀m,x= .int aP m->(∀c t fr,v.heap[a.block]? =aA (aI c t fr)->a.off+1<=c.size/\a.spot=aB)/\¬F a.block)->
    (∃hl g,(loadBytes a acc (n+1)).runT P v r=(.halt hl v,g)/\Fatal hl)\/
    ∃s g d,(loadBytes a acc (n+1)).runT P v r=(.ok s v,g)/\(loadBytes z acc (n+1)).runT P w j=(.ok s w,j++d)/\(∀e∈d,nJ F π e)/\
     (n+1≠0->(∀c t fr,v.heap[a.block]? =aA (aI c t fr)->a.off+(n+1)<=c.size)/\¬F a.block):=by
   intro x G d u hx E p K hb
   rw[p,K]
   have no:yQ a acc n x=stuck "a byte variable that holds no byte"->
     ∃hl g,(yQ a acc n x).runT P v u=(.halt hl v,g)/\Fatal hl:=λe=>by rw[e];exact⟨_,_,rfl,by simp⟩
   cases hx with
   |int k m=>
    cases k<;>first|exact aG (no rfl)|skip
    obtain⟨R,Q⟩:=hb m rfl;show(∃hl g,(loadBytes (a.add 1) (acc.push m.toNat.toUInt8) n).runT P v u=(.halt hl v,g)/\Fatal hl)\/∃s g L,(loadBytes (a.add 1) (acc.push m.toNat.toUInt8) n).runT P v u=(.ok s v,g)/\(loadBytes (z.add 1) (acc.push m.toNat.toUInt8) n).runT P w (j++d)=(.ok s w,j++L)/\_;obtain y|⟨s,g,d2,Y,X,W,V⟩:=Z (acc.push m.toNat.toUInt8) u (j++d) (h.add 1);{exact aG y}
    .refine aH ⟨s,g,d++d2,Y,by rw[X,zEp],λe D=> ?_,λ_=>⟨λc t fr B=> ?_,Q⟩⟩
     .obtain q|q:=zEl.1 D
      .exact E e q
      .exact W e q
     .have q1:=R c t fr B;by_cases hn:n=0
      .omega
      .have:=(V hn).1 c t fr (by simpa [Addr.add]using B);simp[Addr.add]at this;omega
   |_=>exact aG (no rfl)
  obtain⟨x,G,p,K,C⟩|⟨p,K⟩:=M.cell h
  .refine H x G #[⟨.cell z,aF,aF⟩] (r.push ⟨.cell a,aF,aF⟩) C (λe D=> ?_) ?_ ?_ ?_
   .simp only[zAs,zAn]at D;subst D;exact aG ⟨a,z,aF,_,rfl,h,by simp⟩
   .show(Sem.load .plain a _).runT P v r=_;simp only[Sem.runT,p];rfl
   .show(Sem.load .plain z _).runT P w j=_;rw[nU];simp only[Sem.runT,K];rfl
   .intro m T;subst T;refine⟨λc t fr B=> ?_,λhF=> ?_⟩
    .simp only[World.cell?,B]at p;split at p
     .cases p
     .rename_i O;have:=(zAb.1 p).1;exact⟨by omega,by simpa using O⟩
    .obtain⟨c,c',ty,fr,fr',J,g2,N,g4,g5⟩|⟨_,o,J,_,N⟩|⟨y,y',J,_,N⟩:=M.blk _ _ h.1
     .simp only[World.cell?,J]at p;split at p
      .cases p
      .exact(g4 hF).2.2.1 _ _ p
     .unfold World.cell? at p;rw[J]at p;cases o with
      |cells c t f=>exact absurd rfl (N.1 c t f)
      |_=>cases p
     .unfold World.cell? at p;rw[J]at p;cases N<;>cases p
  .obtain⟨hl,C,S⟩|⟨x,b,U,l,C,S,e5,e6⟩:=M.xr h aF
   .left;refine⟨hl,r,?_,S⟩;show(Sem.load .plain a _).runT P v r=_;simp only[Sem.runT,p];rw[show((Mode.plain==Mode.atomic):Bool)=aF from rfl,C]
   .refine H x x ((l.map λi=>(⟨U,i,aB⟩:Addr)).toArray.map λa=>(⟨.cell a,aF,aF⟩:Event)) (r++(l.map λi=>(⟨b,i,aB⟩:Addr)).toArray.map λa=>(⟨.cell a,aF,aF⟩:Event)) e6 (λe D=> ?_) ?_ ?_ ?_
    .simp only[zFm,zEm,zAs,zCh]at D;obtain⟨i,_,rfl⟩:=D;exact aG ⟨⟨b,i,aB⟩,⟨U,i,aB⟩,aF,_,rfl,⟨e5,rfl,rfl⟩,by simp⟩
    .show(Sem.load .plain a _).runT P v r=_;simp only[Sem.runT,p];rw[show((Mode.plain==Mode.atomic):Bool)=aF from rfl,C];rfl
    .show(Sem.load .plain z _).runT P w j=_;simp only[Sem.runT,K];rw[show((Mode.plain==Mode.atomic):Bool)=aF from rfl,S];rfl
    .intro m T;have I:∀c t fr,v.heap[a.block]?≠aA (aI c t fr):=λc t fr B=>by
      unfold World.farLoad at C;rw[B]at C;cases C
     exact⟨λc t fr B=>absurd B (I c t fr),λhF=>by
      obtain⟨o,B,⟨c,t,fr,rfl⟩|E⟩:=M.rows _ hF;{exact I c t fr B}
      .unfold World.farLoad at C;rw[B]at C;cases o<;>first|(cases C;done)|exact absurd rfl (E.2.1 _ _)|exact absurd rfl (E.2.2.1 _ _)|exact absurd rfl (E.2.2.2 _ _)|exact absurd rfl (E.1 _ _ _)⟩
def rW (B:bV P Al F π v w){a a'}(h:bY π a a')(es j):
  (∃hl n,(noView a).runT P v es=(.halt hl v,n)/\Fatal hl)\/
  ∃n d,(noView a).runT P v es=(.ok () v,n)/\(noView a').runT P w j=(.ok () w,j++d)/\∀e∈d,nJ F π e:=by
 have i:∀(u:zW)(b:Addr) c t fr (es:zE),u.heap[b.block]? =aA (aI c t fr)->(noView b).runT P u es=(.ok () u,es):=λu b c t fr es p=>by have:u.shape? b.block=aA (t,c.size):=by{simp only[World.shape?,p]};show(Sem.shape b.block _).runT P u es=_;simp only[Sem.runT,this];rfl
 have g:∀(u:zW)(b:Addr) o (es:zE),u.heap[b.block]? =aA o->(∀c t f,o≠aI c t f)->(∀x t,o≠.view x t)->(noView b).runT P u es=(.ok () u,es.push ⟨.obj b.block,aF,o.isChan⟩):=λu b o es p s C=>by
  have:u.shape? b.block=aB:=by
   simp only[World.shape?,p];cases o with
   |cells c t f=>exact absurd rfl (s c t f)
   |_=>rfl
  show(Sem.shape b.block _).runT P u es=_;simp only[Sem.runT,this];show(Sem.getObj b.block _).runT P u es=_;simp only[Sem.runT,p];cases o with
  |cells c t f=>exact absurd rfl (s c t f)
  |view x t=>exact absurd rfl (C x t)
  |_=>rfl
 obtain⟨c,c',ty,fr,D,m,r,k,g4,g5⟩|⟨_,o,m,r,k⟩|⟨y,E,m,r,k⟩:=B.blk _ _ h.1
 .exact aH ⟨es,#[],i v a _ _ _ es m,by rw[i w a' _ _ _ j r,zDc],by simp⟩
 .refine aH ⟨_,#[⟨.obj a'.block,aF,o.isChan⟩],g v a o es m k.1 k.2.1,by rw[g w a' o j r k.1 k.2.1,nU],λe q=> ?_⟩;simp only[zAs,zAn]at q;subst q;exact aH (aH (aH ⟨a.block,a'.block,_,rfl,h.1⟩))
 .cases k with
  |view z u p=>left;refine⟨.unsupported (.unsafePointer "memory seen as another type"),es.push ⟨.obj a.block,aF,aF⟩,?_,by simp⟩;have:v.shape? a.block=aB:=by{simp only[World.shape?,m]};show(Sem.shape a.block _).runT P v es=_;simp only[Sem.runT,this];show(Sem.getObj a.block _).runT P v es=_;simp only[Sem.runT,m];rfl
  |number z l=>refine aH ⟨_,#[⟨.obj a'.block,aF,aF⟩],g v a _ es m (by simp) (by simp),by rw[g w a' _ j r (by simp) (by simp),nU];rfl,λe q=> ?_⟩;simp only[zAs,zAn]at q;subst q;exact aH (aH (aH ⟨a.block,a'.block,_,rfl,h.1⟩))
def ED (u:zW)(a:Addr):Prop:=∀c t fr,u.heap[a.block]? =aA (aI c t fr)->fr.2<=c.size
def vT {u a}(h:ED u a)(es):(stringish a).runT P u es=(.ok (u.frozen? a) u,es):=by
 show(Sem.frozen a _).runT P u es=_;simp only[Sem.runT];cases d:u.frozen? a with
 |true=>rfl
 |false=>
  show(Sem.shape a.block _).runT P u es=_;simp only[Sem.runT];cases hu:u.heap[a.block]? with
  |none=>simp only[World.shape?,hu];rfl
  |some o=>
   cases o with
   |cells c t fr=>
    simp only[World.shape?,hu];show(Sem.frozen {block:=a.block,off:=c.size} _).runT P u es=_;have:u.frozen? {block:=a.block,off:=c.size}=aF:=by obtain⟨lo,hi⟩:=fr;have:=h c t (lo,hi) hu;simp only[World.frozen?,hu];simp only at this;have b:¬c.size<hi:=by{omega};simp[b]
    simp only[Sem.runT,this]
   |_=>simp only[World.shape?,hu];rfl
def yR {u a b}(f:ED u a)(e:ED u b)(es):(mayBeOne a b).runT P u es=(.ok (u.frozen? a&&u.frozen? b) u,es):=by
 have pos:∀(x:Addr),ED u x->u.frozen? x=aE->(u.shape? x.block matches aA (_,0))=aF:=λx g h=>by
  unfold World.frozen? at h;unfold World.shape?;cases hu:u.heap[x.block]? with
  |none=>rfl
  |some o=>
   cases o with
   |cells c t fr=>
    obtain⟨lo,hi⟩:=fr;rw[hu]at h;have:=g c t (lo,hi) hu;simp only[zBc,zBo]at h;simp only at this;cases i:c.size with
    |zero=>omega
    |succ n=>simp[i]
   |_=>rfl
 unfold mayBeOne;rw[bC,vT f];dsimp only;rw[bC,vT e];show(Sem.shape a.block _).runT P u es=_;simp only[Sem.runT];show(Sem.shape b.block _).runT P u es=_;simp only[Sem.runT];show(Result.ok ((u.frozen? a&&u.frozen? b)||(u.frozen? a&&(u.shape? a.block matches aA (_,0)))||(u.frozen? b&&(u.shape? b.block matches aA (_,0)))) u,es)=_;have k:(u.frozen? a&&(u.shape? a.block matches aA (_,0)))=aF:=by
  cases d:u.frozen? a with
  |false=>rfl
  |true=>rw[Bool.true_and];exact pos a f d
 have j:(u.frozen? b&&(u.shape? b.block matches aA (_,0)))=aF:=by
  cases d:u.frozen? b with
  |false=>rfl
  |true=>rw[Bool.true_and];exact pos b e d
 rw[k,j,Bool.or_false,Bool.or_false]
def NZ (m:bV P Al F π v w){a a'}(h:bY π a a')(q:F.cmp/\∃x,F x):ED v a/\ED w a'/\(w.frozen? a'=aE->v.frozen? a=aE):=by
 obtain⟨c,c',ty,fr,l,j,i,g,g4,g5⟩|⟨_,o,j,i,g⟩|⟨y,u,j,i,g⟩:=m.blk _ _ h.1
 .have k:=g5.2 q;refine⟨λc1 t1 e b=> ?_,λc1 t1 e b=> ?_,λd=> ?_⟩
  .rw[j]at b;cases b;exact k.1
  .rw[i]at b;cases b;rw[g.size];exact k.2
  .by_cases hF:F a.block
   .obtain⟨s,r,_⟩:=g4 hF;obtain⟨lo,hi⟩:=fr;obtain⟨n,p⟩:=l;simp only[World.frozen?,i,zBc,zBo]at d;simp only[World.frozen?,j,zBc,zBo];simp only at s r k;rw[h.2.1]at d;omega
   .rw[m.frozen h hF]at d;exact d
 .refine⟨λc1 t1 e b=> ?_,λc1 t1 e b=> ?_,λd=> ?_⟩
  .rw[j]at b;cases b;exact absurd rfl (g.1 _ _ _)
  .rw[i]at b;cases b;exact absurd rfl (g.1 _ _ _)
  .unfold World.frozen? at d;rw[i]at d;cases o with
   |cells c t f=>exact absurd rfl (g.1 c t f)
   |_=>cases d
 .refine⟨λc1 t1 e b=> ?_,λc1 t1 e b=> ?_,λd=> ?_⟩
  .rw[j]at b;cases b;cases g
  .rw[i]at b;cases b;cases g
  .unfold World.frozen? at d;rw[i]at d;cases g<;>cases d
def UC (s:bV P Al F π v w)(H:F.cmp/\∃x,F x){a a' b b'}(h:bY π a a')(k:bY π b b')(es i):
  (∃hl f,(sameAddr a b).runT P v es=(.halt hl v,f)/\Fatal hl)\/
  ∃t f d,(sameAddr a b).runT P v es=(.ok t v,f)/\(sameAddr a' b').runT P w i=(.ok t w,i++d)/\∀e∈d,nJ F π e:=by
 have j:=s.ok.inj h.1 k.1;obtain⟨G,o,N⟩:=NZ s h H;obtain⟨E,m,M⟩:=NZ s k H;by_cases e:a.block=b.block
 .have D:=j.1 e;refine aH ⟨a==b,es,#[],?_,?_,by simp⟩
  .unfold sameAddr;simp only[e,BEq.rfl,zCy];rfl
  .unfold sameAddr;have:(a'==b')=(a==b):=by
    obtain⟨_,I,R⟩:=h;obtain⟨_,k2,Q⟩:=k;by_cases l:a=b;{subst l;have:a'=b':=by{cases a';cases b';simp_all};simp[this]};{have:a'≠b':=λq=>l (by cases a;cases b;cases a';cases b';simp_all);rw[zEb l,zEb this]}
   simp only[D,BEq.rfl,zCy,this,zDc];rfl
 .have D:a'.block≠b'.block:=λq=>e (j.2 q);have run:∀(u:zW)(c d:Addr)(es:zE),c.block≠d.block->ED u c->ED u d->(sameAddr c d).runT P u es=
    if(u.frozen? c&&u.frozen? d)=aE then(.halt (.unsupported .addressObserved) u,es)else
     match(noView c).runT P u es with
     |(.ok _ u1,f)=>match(noView d).runT P u1 f with
      |(.ok _ u2,g)=>((mayBeOne c d)>>=λt=>if t=aE then(choose (.extern "sameAddr.stringBytes" 2)>>=λn=>pure (n==1))else pure aF).runT P u2 g
      |(.halt h u2,g)=>(.halt h u2,g)
     |(.halt h u1,f)=>(.halt h u1,f):=by
   intro u c d es C O nd
   unfold sameAddr
   rw[zEb C]
   simp only[zBa,zDg]
   show(Sem.frozen c _).runT P u es=_
   simp only[Sem.runT]
   show(Sem.frozen d _).runT P u es=_
   simp only[Sem.runT]
   show Sem.runT P (if(u.frozen? c&&u.frozen? d)=aE then _ else _) u es=_
   cases(u.frozen? c&&u.frozen? d)with
   |true=>rfl
   |false=>
    simp only[zBa,zDg];rw[bC];cases(noView c).runT P u es with
    |mk r f=>
     cases r with
     |halt h u1=>rfl
     |ok _ u1=>
      dsimp only;rw[bC];cases(noView d).runT P u1 f with
      |mk r g=>cases r<;>rfl
  rw[run v a b es e G E,run w a' b' i D o m];cases B:(v.frozen? a&&v.frozen? b)with
  |true=>exact aG ⟨_,_,rfl,by simp⟩
  |false=>
   have p:(w.frozen? a'&&w.frozen? b')=aF:=by
    cases L:w.frozen? a' with
    |false=>rfl
    |true=>
     cases I:w.frozen? b' with
     |false=>rfl
     |true=>rw[N L,M I]at B;cases B
   rw[p];simp only[zBa,zDg];obtain⟨hl,f,z,y⟩|⟨f,d,z,y,J⟩:=rW s h es i;{rw[z];exact aG ⟨hl,f,rfl,y⟩};rw[z,y];dsimp only;obtain⟨hl,g,r1,r2⟩|⟨g,d2,r1,r2,r3⟩:=rW s k f (i++d);{rw[r1];exact aG ⟨hl,g,rfl,r2⟩};rw[r1,r2];dsimp only;rw[bC,yR G E,bC,yR o m,B,p];refine aH ⟨aF,g,d++d2,rfl,by rw[<-zEp];rfl,λx K=> ?_⟩;obtain q|q:=zEl.1 K;{exact J x q};{exact r3 x q}
end
section
variable {P:zZ}{Al:zF}{F:Kp}{α β:Type}{A:Rn->α->β->Prop}
def Lr {γ}:∀(a:Ask γ)(u:zW),u.drawn<=(u.ask a).2.drawn:=by
 intro a;induction a with
 |done x=>intro u;exact zAa _
 |ask b range k i=>intro u;unfold World.ask;dsimp only;split;{exact i _ u};{exact zAv (aGk _) (i _ {u with drawn:=u.drawn+1})}
def Hm (u:zW)(c:Sys):u.drawn<=(u.sys c).2.drawn:=by
 have:=Lr (Kernel.perform c u.os) u;unfold World.sys;split
 .exact zAa _
 .rename_i h;rw[h]at this;exact this
def ZW {γ}:∀(s:Sem γ)(u)(b),u.drawn<=(Vo (s.runT P u b)).drawn:=by
 intro s;induction s with
 |pure a=>intro u b;exact zAa _
 |load m a k i=>
  intro u b;simp only[Sem.runT];split;{exact i _ _ _}
  .split
   .exact i _ _ _
   .exact zAa _
 |store m a x k i=>
  intro u b;have D:(u.setCell a x).drawn=u.drawn:=rfl;have j:∀y p l,u.farStore P a y (m== .atomic)= .ok (p,l)->p.drawn=u.drawn:=by
   intro y p l h;unfold World.farStore at h;cases hb:u.heap[a.block]? with
   |none=>rw[hb]at h;cases h
   |some o=>
    rw[hb]at h;cases o with
    |view at_ t=>
     dsimp only at h;cases d:u.viewStore P at_ t a y (m== .atomic)with
     |error f=>rw[d]at h;cases h
     |ok r=>
      rw[d]at h;cases h;cases g:u.seen P at_ t a (m== .atomic)with
      |error f=>
       have:∃f,u.viewStore P at_ t a y (m== .atomic)= .error f:=by unfold World.viewStore;by_cases C:(!tight P P.depth t)=aE;{rw[zAl C];exact⟨_,rfl⟩};{rw[zAj C,g];exact⟨_,rfl⟩}
       obtain⟨f,G⟩:=this;rw[G]at d;cases d
      |ok z=>
       obtain⟨c,e,fr,first,B,cells⟩:=z;rw[rJ g]at d;split at d;{cases d}
       .split at d
        .cases d
        .split at d
         .cases d
         .split at d
          .cases d
          .cases d;rfl
    |_=>cases h
  cases x<;>simp only[Sem.runT]<;>first|exact zAa _|skip
  all_goals
   split
   .split
    .exact zAa _
    .refine zAv ?_ (i _ _);exact zAa _
   .split
    .rename_i h;rw[<-j _ _ _ h];exact i _ _
    .exact zAa _
 |new o k i=>intro u b;exact i _ {u with heap:=u.heap.push o} b
 |shape r k i=>intro u b;exact i _ u b
 |freeze a n k i=>intro u b;have:(u.freeze a n).drawn=u.drawn:=by{unfold World.freeze;split<;>rfl};have E:=i (u.freeze a n) b;rw[this]at E;exact E
 |frozen a k i=>intro u b;exact i _ u b
 |getObj r k i=>intro u b;simp only[Sem.runT];split<;>first|exact zAa _|exact i _ _ _
 |setObj r o k i=>intro u b;simp only[Sem.runT];split<;>first|exact zAa _|exact i {u with heap:=u.heap.setIfInBounds r o} _
 |choose q k i=>intro u b;simp only[Sem.runT];split;{exact i _ _ _};{exact zAv (aGk _) (i _ {u with drawn:=u.drawn+1} b)}
 |sys c k i=>intro u b;exact zAv (Hm u c) (i _ _ _)
 |program k i=>intro u b;exact i _ u b
 |mark m k i=>intro u b;exact i u _
 |halt h=>intro u b;exact zAa _
def bR.runT {π s s'}(h:bR P Al F A π s s'):∀(v w)(p g),bV P Al F π v w->qS P Al F A π v w g (s.runT P v p) (s'.runT P w g):=by
 induction h with
 |pure h=>intro v w p g j;exact aH ⟨_,v,w,p,#[],j,jM.refl v w,by simp,aG ⟨_,_,rfl,by simp[Sem.runT],h⟩⟩
 | @load π m a D k L h O B=>
  intro v w p g j;obtain⟨x,R,I,K,Q⟩|⟨I,K⟩:=j.cell h;{simp only[Sem.runT,I,K];have:=B x R Q v w (p.push ⟨.cell a,aF,m== .atomic⟩) (g.push ⟨.cell D,aF,m== .atomic⟩) j;refine qS.step (jM.refl v w) (λe J=> ?_) (by rw[nU];exact this);simp only[zAs,zAn]at J;subst J;exact aG ⟨a,D,aF,_,rfl,h,by simp⟩}
  .obtain⟨hl,Q,S⟩|⟨x,b,E,l,Q,S,e5,e6⟩:=j.xr h (m== .atomic)
   .left;left;refine⟨hl,v,p,?_,S⟩;simp only[Sem.runT,I,Q]
   .simp only[Sem.runT,I,K,Q,S];refine qS.step (jM.refl v w) (λe J=> ?_) (B x x e6 v w _ _ j);simp only[zFm,zEm,zAs,zCh]at J;obtain⟨i,_,rfl⟩:=J;exact aG ⟨⟨b,i,aB⟩,⟨E,i,aB⟩,aF,_,rfl,⟨e5,rfl,rfl⟩,by simp⟩
 | @store π m a D x R k L h hx O B=>
  intro v w p g j;have W:(∀(cs:zA),x≠.agg cs)->(∀(cs:zA),x≠.tuple cs)->(∀(cs:zA),R≠.agg cs)->(∀(cs:zA),R≠.tuple cs)->qS P Al F A π v w g ((Sem.store m a x k).runT P v p) ((Sem.store m D R L).runT P w g):=by
   intro n1 n2 n3 n4;rw[Sem.runT.eq_5 _ _ _ _ _ _ _ (λcs h=>n1 cs h) (λcs h=>n2 cs h),Sem.runT.eq_5 _ _ _ _ _ _ _ (λcs h=>n3 cs h) (λcs h=>n4 cs h)];obtain⟨y,y',I,K,Q⟩|⟨I,K⟩:=j.cell h
   .simp only[I,K];by_cases hF:F a.block
    .left;left;rw[j.Fc h hF I];exact⟨_,_,_,rfl,by simp⟩
    .rw[j.frozen h hF];cases hf:v.frozen? a with
     |true=>left;left;exact⟨_,_,_,rfl,by simp⟩
     |false=>have:=B (v.setCell a x) (w.setCell D R) (p.push ⟨.cell a,aE,m== .atomic⟩) (g.push ⟨.cell D,aE,m== .atomic⟩) (j.setCell h hF hx);refine qS.step (ρ:=π) (v1:=v.setCell a x) (w1:=w.setCell D R) ⟨λ_ _ z=>z,by simp[World.setCell],by simp[World.setCell],λE _ G=> ?_,λ_ _ z=>aG z,rfl,rfl,rfl,rfl,rfl,rfl,⟨0,rfl,rfl⟩,λx y=>⟨by simpa [World.setCell]using x,y⟩,λb _ G=> ?_,λb N M=>by simp[World.setCell]at M;omega⟩ (λe J=> ?_) (by rw[nU];exact this);{have:D.block≠E:=λq=>hF (G a.block (q▸h.1));simp only[World.setCell,bS _ this]};{have:a.block≠b:=λq=>G D.block (q▸h.1);simp only[World.setCell,bS _ this]};{simp only[zAs,zAn]at J;subst J;exact aG ⟨a,D,aE,_,rfl,h,λ_=>hF⟩}
   .simp only[I,K];obtain⟨hl,Q,S⟩|⟨v1,w1,b,E,l,Q,S,e5,e6,e7,e8⟩:=j.farStore h hx (m== .atomic)
    .left;left;exact⟨hl,v,p,by simp only[Q],S⟩
    .simp only[Q,S];refine qS.step e7 (λe J=> ?_) (B v1 w1 _ _ e6);simp only[zFm,zEm,zAs,zCh]at J;obtain⟨i,hi,rfl⟩:=J;exact aG ⟨⟨b,i,aB⟩,⟨E,i,aB⟩,aE,_,rfl,⟨e5,rfl,rfl⟩,λ_ hF=>by rw[e8 hF]at hi;cases hi⟩
  cases hx with
  |agg _ _=>left;left;exact⟨_,_,_,rfl,by simp⟩
  |tuple _ _=>left;left;exact⟨_,_,_,rfl,by simp⟩
  |junk vb hj=>exact W (by simp) (by simp) (λcs e=>by rw[e]at hj;exact hj) (λcs e=>by rw[e]at hj;exact hj)
  |_=>exact W (by simp) (by simp) (by simp) (by simp)
 | @new π c c' ty k L h O B=>
  intro v w p g j;have:=B (more π v.heap.size w.heap.size) v.heap.size w.heap.size (j.push h ty).ok (λ_ _ x=>aG x) (aH ⟨rfl,rfl⟩) _ _ p g (j.push h ty);simp only[Sem.runT];refine qS.step (ρ:=more π v.heap.size w.heap.size) (v1:={v with heap:=v.heap.push (aI c ty)}) (w1:={w with heap:=w.heap.push (aI c' ty)}) (d:= #[]) ⟨λ_ _ x=>aG x,by simp only[zBw];omega,by simp only[zBw];omega,λE Z _=> ?_,λb E x=> ?_,rfl,rfl,rfl,rfl,rfl,rfl,⟨0,rfl,rfl⟩,λx y=>⟨by simp only[zBw];omega,λb E z=> ?_⟩,λb Z _=> ?_,λb N M=>⟨w.heap.size,aH ⟨by simp only[zBw]at M;omega,rfl⟩⟩⟩ (by simp) (by rw[zDc];exact this);{show(w.heap.push _)[E]? =_;rw[zBk,zAj (by omega)]}
  .obtain x|⟨rfl,rfl⟩:=x
   .exact aG x
   .exact aH ⟨zAa _,zAa _,by show _<(w.heap.push _).size;rw[zBw];omega⟩
  .obtain z|⟨rfl,rfl⟩:=z
   .exact y _ _ z
   .exact x
  .show(v.heap.push _)[b]? =_;rw[zBk,zAj (by omega)]
 | @marked π c c' ty k L hC h O B=>
  intro v w p g j;have:=B (more π v.heap.size w.heap.size) v.heap.size w.heap.size (j.rS hC h ty).ok (λ_ _ x=>aG x) (aH ⟨rfl,rfl⟩) _ _ p g (j.rS hC h ty);rw[oU,oU];refine qS.step (ρ:=more π v.heap.size w.heap.size) (v1:={v with heap:=v.heap.push (aI c ty (c.size,c.size+1))}) (w1:={w with heap:=w.heap.push (aI c' ty (c'.size,c'.size+1))}) (d:= #[]) ⟨λ_ _ x=>aG x,by simp only[zBw];omega,by simp only[zBw];omega,λE Z _=> ?_,λb E x=> ?_,rfl,rfl,rfl,rfl,rfl,rfl,⟨0,rfl,rfl⟩,λx y=>⟨by simp only[zBw];omega,λb E z=> ?_⟩,λb Z _=> ?_,λb N M=>⟨w.heap.size,aH ⟨by simp only[zBw]at M;omega,rfl⟩⟩⟩ (by simp) (by rw[zDc];exact this);{show(w.heap.push _)[E]? =_;rw[zBk,zAj (by omega)]}
  .obtain x|⟨rfl,rfl⟩:=x
   .exact aG x
   .exact aH ⟨zAa _,zAa _,by show _<(w.heap.push _).size;rw[zBw];omega⟩
  .obtain z|⟨rfl,rfl⟩:=z
   .exact y _ _ z
   .exact x
  .show(v.heap.push _)[b]? =_;rw[zBk,zAj (by omega)]
 | @view π x R k L h O B=>
  intro v w p g j;have:=B (more π v.heap.size w.heap.size) v.heap.size w.heap.size (j.yJ h).ok (λ_ _ x=>aG x) (aH ⟨rfl,rfl⟩) _ _ p g (j.yJ h);simp only[Sem.runT];refine qS.step (ρ:=more π v.heap.size w.heap.size) (v1:={v with heap:=v.heap.push x}) (w1:={w with heap:=w.heap.push R}) (d:= #[]) ⟨λ_ _ x=>aG x,by simp only[zBw];omega,by simp only[zBw];omega,λE Z _=> ?_,λb E x=> ?_,rfl,rfl,rfl,rfl,rfl,rfl,⟨0,rfl,rfl⟩,λx y=>⟨by simp only[zBw];omega,λb E z=> ?_⟩,λb Z _=> ?_,λb N M=>⟨w.heap.size,aH ⟨by simp only[zBw]at M;omega,rfl⟩⟩⟩ (by simp) (by rw[zDc];exact this);{show(w.heap.push _)[E]? =_;rw[zBk,zAj (by omega)]}
  .obtain x|⟨rfl,rfl⟩:=x
   .exact aG x
   .exact aH ⟨zAa _,zAa _,by show _<(w.heap.push _).size;rw[zBw];omega⟩
  .obtain z|⟨rfl,rfl⟩:=z
   .exact y _ _ z
   .exact x
  .show(v.heap.push _)[b]? =_;rw[zBk,zAj (by omega)]
 | @getObj π r T k L h O B=>
  intro v w p g j;have Y:∀(t:Bool)(e:Event),e∈#[(⟨.obj T,aF,t⟩:Event)]->nJ F π e:=λt e J=>by simp only[zAs,zAn]at J;subst J;exact aH (aH (aH ⟨r,T,t,rfl,h⟩))
  obtain⟨c,c',ty,fr,fr',N,M,_⟩|⟨_,o,N,M,U⟩|⟨x,R,N,M,U⟩:=j.blk _ _ h;{left;left;exact⟨.stuck "getObj: a row of cells",v,p,by simp only[Sem.runT,N],by simp⟩}
  .have I:(Sem.getObj r k).runT P v p=(k o).runT P v (p.push ⟨.obj r,aF,o.isChan⟩):=by
    simp only[Sem.runT,N];cases o with
    |cells c t f=>exact absurd rfl (U.1 c t f)
    |_=>rfl
   have K:(Sem.getObj T L).runT P w g=(L o).runT P w (g.push ⟨.obj T,aF,o.isChan⟩):=by
    simp only[Sem.runT,M];cases o with
    |cells c t f=>exact absurd rfl (U.1 c t f)
    |_=>rfl
   rw[I,K];exact qS.step (jM.refl v w) (d:= #[⟨.obj T,aF,o.isChan⟩]) (Y _) (by rw[nU];exact B o o (aG ⟨U,rfl⟩) v w _ _ j)
  .have I:(Sem.getObj r k).runT P v p=(k x).runT P v (p.push ⟨.obj r,aF,aF⟩):=by
    simp only[Sem.runT,N];cases U<;>rfl
   have K:(Sem.getObj T L).runT P w g=(L R).runT P w (g.push ⟨.obj T,aF,aF⟩):=by simp only[Sem.runT,M];cases U<;>rfl
   rw[I,K];exact qS.step (jM.refl v w) (d:= #[⟨.obj T,aF,aF⟩]) (Y _) (by rw[nU];exact B _ _ (aH ⟨x,R,rfl,rfl,U⟩) v w _ _ j)
 | @shape π r T k L h O B=>intro v w p g j;simp only[Sem.runT,j.shape h];exact B _ v w p g j
 | @freeze π a D n k L hF h O B=>
  intro v w p g j;have:=B (v.freeze a n) (w.freeze D n) p g (j.freeze hF h n);simp only[Sem.runT];have C:∀(u:zW)(x:Addr),(u.freeze x n).heap.size=u.heap.size/\(u.freeze x n).tape=u.tape/\(u.freeze x n).os=u.os/\(u.freeze x n).output=u.output/\(u.freeze x n).drawn=u.drawn:=λu x=>by{unfold World.freeze;split<;>simp};refine qS.step (d:= #[]) ⟨λ_ _ x=>x,by rw[(C v a).1];exact zAa _,by rw[(C w D).1];exact zAa _,λE _ G=> ?_,λb E x=>aG x,(C _ _).2.1,(C _ _).2.2.1,(C _ _).2.2.2.1,(C _ _).2.1,(C _ _).2.2.1,(C _ _).2.2.2.1,⟨0,(C v a).2.2.2.2,(C w D).2.2.2.2⟩,λx y=>⟨by rw[(C v a).1,(C w D).1];exact x,y⟩,λb _ G=> ?_,λb N M=>by rw[(C v a).1]at M;omega⟩ (by simp) (by rw[zDc];exact this)
  .have:D.block≠E:=λq=>hF _ (G a.block (q▸h.1));unfold World.freeze;split
   .rfl
   .simp only[bS _ this]
  .have:a.block≠b:=λq=>G D.block (q▸h.1);unfold World.freeze;split
   .rfl
   .simp only[bS _ this]
 | @frozen π a D k L hF h O B=>intro v w p g j;simp only[Sem.runT,j.frozen h (hF _)];exact B _ v w p g j
 | @share π a D n k L h O B=>
  intro v w p g j;rw[bC,bC];obtain⟨hl,H,I,K⟩|⟨s,H,d,I,K,Q,S⟩:=wB j n .empty p g h;{rw[I];exact aG (aG ⟨hl,v,H,rfl,K⟩)}
  .rw[I,K];show qS P Al F A π v w g ((Sem.freeze a n (k s)).runT P v H) ((Sem.freeze D n (L s)).runT P w (g++d));simp only[Sem.runT];have C:∀(u:zW)(x:Addr),(u.freeze x n).heap.size=u.heap.size/\(u.freeze x n).tape=u.tape/\(u.freeze x n).os=u.os/\(u.freeze x n).output=u.output/\(u.freeze x n).drawn=u.drawn:=λu x=>by unfold World.freeze;split<;>simp
   have hW:bV P Al F π (v.freeze a n) (w.freeze D n):=by by_cases X:n=0;{subst X;exact j};{exact j.WU h (S X).1 λ_=>(S X).2}
   refine qS.step (v1:=v.freeze a n) (w1:=w.freeze D n) ⟨λ_ _ x=>x,by rw[(C v a).1];exact zAa _,by rw[(C w D).1];exact zAa _,λE _ G=> ?_,λb E x=>aG x,(C _ _).2.1,(C _ _).2.2.1,(C _ _).2.2.2.1,(C _ _).2.1,(C _ _).2.2.1,(C _ _).2.2.2.1,⟨0,(C v a).2.2.2.2,(C w D).2.2.2.2⟩,λx y=>⟨by rw[(C v a).1,(C w D).1];exact x,y⟩,λb _ G=> ?_,λb N M=>by rw[(C v a).1]at M;omega⟩ Q (B s _ _ _ _ hW)
   .unfold World.freeze;split
    .rfl
    .rename_i X;have:D.block≠E:=λq=>(S X).2 (G a.block (q▸h.1));simp only[bS _ this]
   .have:a.block≠b:=λq=>G D.block (q▸h.1);unfold World.freeze;split
    .rfl
    .simp only[bS _ this]
 | @same π a D b E k L hN h h' O B=>intro v w p g j;rw[bC,bC];obtain⟨hl,H,I,K⟩|⟨t,H,d,I,K,Q⟩:=UC j hN h h' p g;{rw[I];exact aG (aG ⟨hl,v,H,rfl,K⟩)};{rw[I,K];exact qS.step (jM.refl v w) Q (B t v w _ _ j)}
 | @choose π q k L O B=>
  intro v w p g j;simp only[Sem.runT];split;{exact B 0 v w p g j}
  .by_cases hl:F.upto v.drawn
   .have e0:w.tape w.drawn=v.tape v.drawn:=j.tape 0 hl;have I:q.cut (w.tape w.drawn q)=q.cut (v.tape v.drawn q):=by{rw[e0]};rw[I];have:=B (q.cut (v.tape v.drawn q)) {v with drawn:=v.drawn+1} {w with drawn:=w.drawn+1} p g ⟨j.ok,j.blk,λk O=>by have:=j.tape (k+1) (by rw[zGg k 1,<-zCi];exact O);rw[zGg k 1,<-zCi,<-zCi]at this;exact this,j.fresh,j.low,j.os,j.rows⟩;exact qS.step (v1:={v with drawn:=v.drawn+1}) (w1:={w with drawn:=w.drawn+1}) (d:= #[]) ⟨λ_ _ x=>x,zAa _,zAa _,λ_ _ _=>rfl,λ_ _ x=>aG x,rfl,rfl,rfl,rfl,rfl,rfl,⟨1,rfl,rfl⟩,λx y=>⟨x,y⟩,λ_ _ _=>rfl,λb N M=>absurd M (zFe.2 N)⟩ (by simp) (by rw[zDc];exact this)
   .obtain⟨u,hu⟩:=zFi.1 hl;obtain⟨pd,ub⟩:=Classical.not_imp.1 hu;have hov:Xn F (Vo ((k (q.cut (v.tape v.drawn q))).runT P {v with drawn:=v.drawn+1} p)):=
     ⟨u,pd,zAc (show u<v.drawn+1 by omega) (ZW (k (q.cut (v.tape v.drawn q))) {v with drawn:=v.drawn+1} p)⟩
    have:=B (q.cut (v.tape v.drawn q)) {v with drawn:=v.drawn+1} {w with drawn:=v.drawn+1,tape:=v.tape} p g ⟨j.ok,j.blk,λ_ _=>rfl,j.fresh,j.low,j.os,j.rows⟩;obtain(N|N)|⟨V,v1,w1,H,d,g1,g2,g3,g4⟩:=this;{exact aG (aG N)};{exact aG (aH N)}
    .refine aG (aH ⟨hov,?_⟩);obtain⟨a,b,r1,r2,fy⟩|⟨x,R,r1,r2,hx⟩:=g4
     .exact aG ⟨a,b,V,v1,H,r1,fy⟩
     .exact aH ⟨x,v1,H,r1⟩
 | @program π k L J O B=>intro v w p g j;simp only[Sem.runT];exact B v w p g j
 | @mark π m k L hm O B=>intro v w p g j;simp only[Sem.runT];have:=B v w (p.push ⟨.mark m,aF,aE⟩) (g.push ⟨.mark m,aF,aE⟩) j;refine qS.step (jM.refl v w) (d:= #[⟨.mark m,aF,aE⟩]) (λe J=> ?_) (by rw[nU];exact this);simp only[zAs,zAn]at J;subst J;obtain rfl|⟨f,rfl⟩:=hm;{exact aH (aG (aG rfl))};{exact aH (aH (aG ⟨f,rfl⟩))}
 | @env π k L O B=>intro v w p g j;have C:∀(u:zW),u.sys .env=(.strings u.os.env,u):=λu=>rfl;simp only[Sem.runT,C,j.os];have:=B (.strings v.os.env) v w (p.push ⟨.output,aE,aF⟩) (g.push ⟨.output,aE,aF⟩) j;refine qS.step (jM.refl v w) (d:= #[⟨.output,aE,aF⟩]) (λe J=> ?_) (by rw[nU];exact this);simp only[zAs,zAn]at J;subst J;exact aH (aG (aH rfl))
 |panic h=>intro v w p g j;exact aH ⟨_,v,w,p,#[],j,jM.refl v w,by simp,aH ⟨_,_,rfl,by simp[Sem.runT],h⟩⟩
 |dead h=>intro v w p g j;obtain⟨hl,w1,H,e,K⟩:=h v p;exact aG (aG ⟨hl,w1,H,e,K⟩)
end
section
variable {P:zZ}{Al:zF}{F:Kp}{α β γ δ:Type}
def HY {s:Sem α}{f:α->Sem β}(v)(es){hl w e}(h:s.runT P v es=(.halt hl w,e)):(s.bind f).runT P v es=(.halt hl w,e):=by
 have b:∀(s:Sem α)(v:zW)(es:zE),(s.bind f).runT P v es=match s.runT P v es with|(.ok a w,e)=>(f a).runT P w e|(.halt h w,e)=>(.halt h w,e):=by
  intro s;induction s with
  |pure a=>intro v es;rfl
  |load m a k i=>
   intro v es;simp only[Sem.bind,Sem.runT];split;{exact i _ _ _}
   .split
    .exact i _ _ _
    .rfl
  |store m a x k i=>intro v es;cases x<;>simp only[Sem.bind,Sem.runT]<;>(repeat' split)<;>first|rfl|exact i _ _|(simp_all;done)
  |new o k i=>intro v es;simp only[Sem.bind,Sem.runT];exact i _ _ _
  |shape r k i=>intro v es;simp only[Sem.bind,Sem.runT];exact i _ _ _
  |freeze a n k i=>intro v es;simp only[Sem.bind,Sem.runT];exact i _ _
  |frozen a k i=>intro v es;simp only[Sem.bind,Sem.runT];exact i _ _ _
  |getObj r k i=>intro v es;simp only[Sem.bind,Sem.runT];split<;>first|rfl|exact i _ _ _
  |setObj r o k i=>intro v es;simp only[Sem.bind,Sem.runT];split<;>first|rfl|exact i _ _
  |choose q k i=>intro v es;simp only[Sem.bind,Sem.runT];split<;>exact i _ _ _
  |sys c k i=>intro v es;simp only[Sem.bind,Sem.runT];exact i _ _ _
  |program k i=>intro v es;simp only[Sem.bind,Sem.runT];exact i _ _ _
  |mark m k i=>intro v es;simp only[Sem.bind,Sem.runT];exact i _ _
  |halt h=>intro v es;rfl
 rw[b,h]
def bR.bind {A:Rn->α->β->Prop}{B:Rn->γ->δ->Prop}{π:Rn}{s:Sem α}{s':Sem β}{f:α->Sem γ}{f':β->Sem δ}(ok:Ok P π)(h:bR P Al F A π s s')
  (g:∀(ρ:Rn) a b,Ok P ρ->(∀x y,π x y->ρ x y)->A ρ a b->bR P Al F B ρ (f a) (f' b)):bR P Al F B π (s.bind f) (s'.bind f'):=by
 induction h with
 |pure h=>exact g _ _ _ ok (λ_ _ x=>x) h
 |load h j i=>exact .load h λv L O=>i v L O ok g
 |store h N j i=>exact .store h N (i ok g)
 |new h j i=>exact .new h λρ r E d q G=>i ρ r E d q G d λD a b l p=>g D a b l λx y m=>p _ _ (q _ _ m)
 | @marked π c c' ty k u hC h j i=>
  have H:(Sem.new (aI c ty) λr=>markStringish ⟨r,0,aB⟩>>=λ_=>k r).bind f= .new (aI c ty) λr=>markStringish ⟨r,0,aB⟩>>=λ_=>(k r).bind f:=by show Sem.new _ _=Sem.new _ _;congr 1;funext r;exact bind_assoc'
  have z:(Sem.new (aI c' ty) λr=>markStringish ⟨r,0,aB⟩>>=λ_=>u r).bind f'= .new (aI c' ty) λr=>markStringish ⟨r,0,aB⟩>>=λ_=>(u r).bind f':=by show Sem.new _ _=Sem.new _ _;congr 1;funext r;exact bind_assoc'
  rw[H,z];exact .marked hC h λρ r E d q G=>i ρ r E d q G d λD a b l p=>g D a b l λx y m=>p _ _ (q _ _ m)
 |view h j i=>exact .view h λρ r E d q G=>i ρ r E d q G d λD a b l p=>g D a b l λx y m=>p _ _ (q _ _ m)
 |getObj h j i=>exact .getObj h λo M Q=>i o M Q ok g
 |shape h j i=>exact .shape h λs=>i s ok g
 |freeze hF h j i=>exact .freeze hF h (i ok g)
 |frozen hF h j i=>exact .frozen hF h λt=>i t ok g
 | @share π a C n k u h j i=>have H:(loadBytes a .empty n>>=λs=>Go.freeze a n>>=λ_=>k s).bind f=loadBytes a .empty n>>=λs=>Go.freeze a n>>=λ_=>(k s).bind f:=bind_assoc';have z:(loadBytes C .empty n>>=λs=>Go.freeze C n>>=λ_=>u s).bind f'=loadBytes C .empty n>>=λs=>Go.freeze C n>>=λ_=>(u s).bind f':=bind_assoc';rw[H,z];exact .share h λs=>i s ok g
 | @same π a C b K k u R h S j i=>have H:(sameAddr a b>>=k).bind f=sameAddr a b>>=λt=>(k t).bind f:=bind_assoc';have z:(sameAddr C K>>=u).bind f'=sameAddr C K>>=λt=>(u t).bind f':=bind_assoc';rw[H,z];exact .same R h S λt=>i t ok g
 |choose j i=>exact .choose λn=>i n ok g
 | @program π k u he j i=>exact .program (λT q=>congrArg (λs:Sem β=>s.bind f') (he T q)) (i ok g)
 |mark hm j i=>exact .mark hm (i ok g)
 |env j i=>exact .env λr=>i r ok g
 |panic h=>exact .panic h
 |dead h=>exact .dead λv J=>let⟨hl,w,I,e,z⟩:=h v J;⟨hl,w,I,HY v J e,z⟩
end
def Flat (v:zY):Prop:=∀(Al:zF)(π:Rn),bE Al π v v
structure KR (P:zZ):Prop where
 zero:∀t i z,t<P.types.size->P.info? t=aA i->i.zero=aA z->Flat z
 slice:∀t e,t<P.types.size->P.underlying t=aA (.slice e)->e<P.types.size
 array:∀t n e,t<P.types.size->P.underlying t=aA (.array n e)->e<P.types.size
 pointer:∀t e,t<P.types.size->P.underlying t=aA (.pointer e)->e<P.types.size
abbrev ER {α:Type}:Rn->α->α->Prop:=λ_ a b=>a=b
abbrev VR (Al:zF):Rn->zY->zY->Prop:=λπ a b=>bE Al π a b
abbrev gd (Al:zF):Rn->zA->zA->Prop:=λπ a b=>aY Al π a b
abbrev AR:Rn->Addr->Addr->Prop:=λπ a b=>bY π a b
section
variable {P:zZ}{Al:zF}{F:Kp}{π:Rn}{α β γ δ:Type}{A:Rn->α->β->Prop} [ok:Ok P π]
def aR {B:Rn->γ->δ->Prop}(A:Rn->α->β->Prop){s:Sem α}{s':Sem β}{f:α->Sem γ}{f':β->Sem δ}(h:bR P Al F A π s s')
  (c:∀(ρ:Rn) a b,Ok P ρ->(∀x y,π x y->ρ x y)->A ρ a b->bR P Al F B ρ (f a) (f' b)):bR P Al F B π (s>>=f) (s'>>=f'):=bR.bind ok h c
def TO {hl s'}(h:Fatal hl):bR P Al F A π (.halt hl) s':= .dead λv e=>⟨hl,v,e,rfl,h⟩
def aT {w s'}:bR P Al F A π (stuck w) s':=TO (by simp)
def aU {u:Unsupported}{s':Sem β}(h:∀g,u≠.initOrder g:=by simp):bR P Al F A π (unsupported u) s':=TO (aH ⟨u,rfl,h⟩)
def aS {a b}(h:A π a b):bR P Al F A π (Pure.pure a) (Pure.pure b):= .pure h
def nX {x a}(h:bE Al π x a):bR P Al F A π (goPanic x) (goPanic a):= .panic h
def gI (q):bR P Al F ER π (choose q) (choose q):= .choose λ_=> .pure rfl
def dU {B:Rn->γ->δ->Prop}{k:zZ->Sem γ}{k':zZ->Sem δ}(a:∀fs,Shape P fs->k' ⟨P.toTables,fs⟩=k' P)
  (h:∀(ρ:Rn)(p q:zZ),Ok P ρ->(∀x y,π x y->ρ x y)->(p=P/\q=P)->bR P Al F B ρ (k p) (k' q)):bR P Al F B π (program>>=k) (program>>=k'):=
 .program a (h π P P ok (λ_ _ x=>x) ⟨rfl,rfl⟩)
def Nt {s s'}(h:∀v es,∃hl w e,s.runT P v es=(.halt hl w,e)/\Fatal hl):bR P Al F A π s s':= .dead h
def bB (t):bR P Al F (λ_ a b=>a=b/\P.underlying t=aA a) π (underlying t) (underlying t):=by
 refine dU (λ_ _=>rfl) ?_;rintro f p q ok g ⟨e,c⟩;rw[e,c];cases h:P.underlying t with
 |none=>exact aT
 |some d=>exact aS ⟨rfl,rfl⟩
def eW (t):bR P Al F (λ_ a b=>a=b/\P.info? t=aA a) π (typeInfo t) (typeInfo t):=by
 refine dU (λ_ _=>rfl) ?_;rintro f p q ok g ⟨e,c⟩;rw[e,c];cases h:P.info? t with
 |none=>exact aT
 |some d=>exact aS ⟨rfl,rfl⟩
def cA (t):bR P Al F ER π (sizeOf t) (sizeOf t):=by refine aR _ (eW t) ?_;rintro b a _ ok h ⟨rfl,_⟩;exact aS rfl
def MO (t):bR P Al F ER π (isAgg t) (isAgg t):=by refine aR _ (bB t) ?_;rintro b a _ ok h ⟨rfl,_⟩;cases a<;>exact aS rfl
def gH (d:KR P){t:zD}(c:t<P.types.size):bR P Al F (VR Al) π (zeroValue t) (zeroValue t):=by
 refine aR _ (eW t) ?_;rintro b a _ ok e ⟨rfl,hi⟩;cases h:a.zero with
 |none=>exact aU
 |some z=>exact aS (d.zero t a z c hi h Al b)
def TM {a a'}(h:bY π a a')(m):bR P Al F (VR Al) π (load a m) (load a' m):= .load h λ_ _ b=> .pure b
def xU {a a'}(h:bY π a a')(n):∀(i){acc b},aY Al π acc b->bR P Al F (gd Al) π (loadCellsFrom a i n acc) (loadCellsFrom a' i n b):=by
 induction n with
 |zero=>intro i acc b c;exact aS c
 |succ n d=>intro i acc b c;exact .load (h.add i) λv f e=>d (i+1) (c.push e)
def qG {a a'}(h:bY π a a')(n):bR P Al F (gd Al) π (loadCells a n) (loadCells a' n):=xU h n 0 .nil
def cD {x a:zY}{l c:zV}(h:aY Al π (x::l).toArray (a::c).toArray):bE Al π x a/\aY Al π l.toArray c.toArray:=
 ⟨h.at' 0 x a (by simp) (by simp),by have:=h.size;simp at this⊢;exact this,λi v d e b=>h.at' (i+1) v d (by simpa using e) (by simpa using b)⟩
def lB:∀(l b){a d}(i),bY π a d->aY Al π l.toArray b.toArray->bR P Al F ER π (storeCells a l i) (storeCells d b i):=by
 intro l;induction l with
 |nil=>
  intro b a d i h c;have:=c.size;cases b with
  |nil=>exact aS rfl
  |cons _ _=>simp at this
 |cons x l e=>
  intro b a d i h c;cases b with
  |nil=>have:=c.size;simp at this
  |cons j b=>obtain⟨g,f⟩:=cD c;exact .store (h.add i) g (e b (i+1) h f)
def DC {a a'}(h:bY π a a')(t):bR P Al F (VR Al) π (loadVar t a) (loadVar t a'):=by
 refine aR _ (MO t) ?_;rintro k b _ ok e rfl;cases b with
 |false=>exact TM (h.mono e) _
 |true=>refine aR _ (cA t) ?_;rintro j n _ ok d rfl;refine aR _ (qG ((h.mono e).mono d) n) ?_;intro i c c' ok g f;exact aS (.agg f.size f.at')
def toArray_toList (c:zA):c.toList.toArray=c:=by simp
def PO {a a'}(h:bY π a a'){x b}(f:bE Al π x b)(t):bR P Al F ER π (storeVar t a x) (storeVar t a' b):=by
 have d:=f.cells;refine aR _ (cA t) ?_;rintro g n _ ok c rfl;rw[d.size];by_cases e:x.cells.size=n
 .simp only[e,ne_eq,not_true_eq_false,zDg];exact lB _ _ 0 (h.mono c) (by rw[toArray_toList,toArray_toList];exact d.mono c)
 .simp only[e,ne_eq,not_false_eq_true,zCy];exact aT
def lR {c c'}(h:aY Al π c c')(ty):bR P Al F AR π (newRow ty c) (newRow ty c'):= .new h λ_ _ _ _ _ a=> .pure ⟨a,rfl,rfl⟩
def wP {x a}(h:bE Al π x a)(ty):bR P Al F AR π (newVar ty x) (newVar ty a):=lR h.cells ty
def jT {c c'}(h:aY Al π c c')(t)(off):bR P Al F (VR Al) π (part t c off) (part t c' off):=by
 refine aR _ (MO t) ?_;rintro j b _ ok d rfl;cases b with
 |true=>refine aR _ (cA t) ?_;rintro i n _ ok a rfl;have:=((h.mono d).mono a).extract off (off+n);exact aS (.agg this.size this.at')
 |false=>obtain⟨e,_⟩|⟨x,k,e,g,f⟩:=h.get off;{simp only[e];exact aT};{simp only[e,g];exact aS (f.mono d)}
def eJ:bE Al π (.tuple #[]) (.tuple #[]):= .tuple rfl (by simp)
def mM {x a}(h:bE Al π x a):bR P Al F ER π (asIntOf x) (asIntOf a):=by
 cases h with
 |int k n=>exact aS rfl
 |pointer b=>cases b with
  |none=>exact aT
  |some _=>exact aU
 |_=>exact aT
def nY {x b}(h:bE Al π x b):bR P Al F ER π (asInt x) (asInt b):=by refine aR _ (mM h) ?_;rintro c a _ ok d rfl;exact aS rfl
def GP {x a}(h:bE Al π x a):bR P Al F ER π (asBool x) (asBool a):=by
 cases h with
 |bool b=>exact aS rfl
 |_=>exact aT
def Ij {x a}(h:bE Al π x a):bR P Al F (gd Al) π (asAgg x) (asAgg a):=by
 cases h with
 |agg c b=>exact aS ⟨c,b⟩
 |_=>exact aT
def lA {x a}(h:bE Al π x a):bR P Al F AR π (Instr.sureAddr x) (Instr.sureAddr a):=by
 cases h with
 |pointer b=>cases b with
  |none=>exact aT
  |some h=>exact aS h
 |_=>exact aT
def jB {s:Rn->α->β->Prop}:bR P Al F s π (aGh .nilDeref) (aGh .nilDeref):=by refine dU (λ_ _=>rfl) ?_;rintro b p q ok c ⟨a,h⟩;rw[a,h];exact nX (.iface _ (.string _))
def dG (m){s:Rn->α->β->Prop}:bR P Al F s π (aGh (.error m)) (aGh (.error m)):=by refine dU (λ_ _=>rfl) ?_;rintro b p q ok c ⟨a,h⟩;rw[a,h];exact nX (.iface _ (.string _))
def xP (x y)(t)(c:BoundsCode){s:Rn->α->β->Prop}:bR P Al F s π (aGh (.bounds x y t c)) (aGh (.bounds x y t c)):=by
 refine dU (λ_ _=>rfl) ?_;rintro g p q ok j ⟨f,d⟩;rw[f,d];refine nX (.iface _ (.agg rfl ?_));intro i v b a h;have e:v=b:=by rw[a]at h;exact zAm h
 subst e;have:i=0\/i=1\/i=2\/i=3:=by have:=(zAb.1 a).1;simp at this;omega
 obtain rfl|rfl|rfl|rfl:=this<;>simp at a<;>subst a<;>constructor
def fC (k:IntKind)(x y)(c:BoundsCode){s:Rn->α->β->Prop}:bR P Al F s π (boundsPanic k x y c) (boundsPanic k x y c):=by
 unfold boundsPanic;split
 .refine aR ER ?_ ?_
  .skip;refine aR ER (gI _) ?_;rintro b a _ ok h rfl;exact aS rfl
  .rintro b a _ ok h rfl;exact xP _ _ _ _
 .refine aR ER (aS rfl) ?_;rintro b a _ ok h rfl;exact xP _ _ _ _
def GQ {x a}(h:bE Al π x a):bR P Al F AR π (asAddr x) (asAddr a):=by
 cases h with
 |pointer b=>cases b with
  |none=>exact jB
  |some h=>exact aS h
 |_=>exact aT
end
section
variable(P:zZ)(fs:Array Func)
def jS:∀(d:Nat)(t:zD)(off:Nat),byteOfCell ⟨P.toTables,fs⟩ d t off=byteOfCell P d t off
 |0,_,_=>rfl
 |d+1,t,off=>by unfold byteOfCell;simp only[jS d];rfl
def vS:∀(d:Nat)(t:zD)(off:Nat),cellOfByte ⟨P.toTables,fs⟩ d t off=cellOfByte P d t off
 |0,_,_=>rfl
 |d+1,t,off=>by unfold cellOfByte;simp only[vS d];rfl
def tH (d)(e)(c o)(b):cellAtBytes ⟨P.toTables,fs⟩ d e c o b=cellAtBytes P d e c o b:=by unfold cellAtBytes;simp only[jS,vS];rfl
def TB:∀(d:Nat)(t u:zD),Program.alikeButTags ⟨P.toTables,fs⟩ d t u=P.alikeButTags d t u
 |0,_,_=>rfl
 |d+1,t,u=>by unfold Program.alikeButTags;simp only[TB d]
def PI (t):Program.stoodInAs ⟨P.toTables,fs⟩ t=P.stoodInAs t:=by unfold Program.stoodInAs;simp only[TB];rfl
def kY (t):Program.stoodInHeld ⟨P.toTables,fs⟩ t=P.stoodInHeld t:=by unfold Program.stoodInHeld;rw[PI]
def sQ:∀(d:Nat)(t:zD),Program.holdsStoodIn ⟨P.toTables,fs⟩ d t=P.holdsStoodIn d t
 |0,_=>rfl
 |d+1,t=>by unfold Program.holdsStoodIn;simp only[sQ d,kY];rfl
def tF:∀(d:Nat)(t:zD),Program.eqGuardType ⟨P.toTables,fs⟩ d t=P.eqGuardType d t
 |0,_=>rfl
 |d+1,t=>by unfold Program.eqGuardType;simp only[tF d];rfl
def SZ (fits:zD->Bool):∀(d:Nat)(e:zD)(c o n:Nat),rowAt ⟨P.toTables,fs⟩ fits d e c o n=rowAt P fits d e c o n
 |0,_,_,_,_=>rfl
 |d+1,e,c,o,n=>by unfold rowAt;simp only[SZ fits d,kY];rfl
def vR:∀(d:Nat)(t u:zD),sameLayout ⟨P.toTables,fs⟩ d t u=sameLayout P d t u
 |0,_,_=>rfl
 |d+1,t,u=>by unfold sameLayout;simp only[vR d,kY];rfl
def ML:∀(d:Nat)(e:zD)(c o:Nat)(u:zD)(n:Nat),liesAt ⟨P.toTables,fs⟩ d e c o u n=liesAt P d e c o u n
 |0,_,_,_,_,_=>rfl
 |d+1,e,c,o,u,n=>by unfold liesAt;simp only[ML d,SZ,vR];rfl
end
section
variable {P:zZ}{Al:zF}{F:Kp}{π:Rn}{α β γ δ:Type}{A:Rn->α->β->Prop} [ok:Ok P π]
def fZ {r r'}(h:π r r'):bR P Al F ER π (shape r) (shape r'):= .shape h λ_=> .pure rfl
def lS (hF:∀b,¬F b){a a'}(h:bY π a a'):bR P Al F ER π (frozen a) (frozen a'):= .frozen hF h λ_=> .pure rfl
def ZQ (hF:∀b,¬F b){a a'}(h:bY π a a')(n):bR P Al F ER π (freeze a n) (freeze a' n):= .freeze hF h (.pure rfl)
def tL (n):bR P Al F ER π (askRoom n) (askRoom n):=by
 unfold askRoom;split
 .exact .mark (aG rfl) (.pure rfl)
 .exact .pure rfl
inductive Tq (π:Rn):Option (Addr×zD)->Option (Addr×zD)->Prop
 |none:Tq π aB aB
 |some {a a':Addr} {t:zD} (h:bY π a a'):Tq π (aA (a,t)) (aA (a',t))
def rP {r r'}(h:π r r'):bR P Al F Tq π (viewAt r) (viewAt r'):=by
 refine aR _ (fZ h) ?_;rintro e s _ ok c rfl;cases s with
 |some x=>exact aS .none
 |none=>
  refine .getObj (c _ _ h) ?_;rintro o g (⟨b,a⟩|⟨x,f,b,a,d⟩)
  .rw[a];cases o with
   |view x u=>exact absurd rfl (b.2.1 x u)
   |_=>exact .pure .none
  .cases b;cases a;cases d with
   |view h u _=>exact .pure (.some h)
   |number h l=>exact .pure .none
def oI {a a'}(h:bY π a a'):bR P Al F ER π (noView a) (noView a'):=by
 refine aR _ (rP h.1) ?_;intro c s d ok e b;cases b with
 |none=>exact aS rfl
 |some _=>exact aU
def vX (hF:∀b,¬F b){a a'}(h:bY π a a'):bR P Al F ER π (stringish a) (stringish a'):=by
 refine aR _ (lS hF h) ?_;rintro f b _ ok d rfl;cases b with
 |true=>exact aS rfl
 |false=>
  refine aR _ (fZ (d _ _ h.1)) ?_;rintro e s _ ok c rfl;cases s with
  |none=>exact aS rfl
  |some x=>exact lS hF ⟨c _ _ (d _ _ h.1),rfl,rfl⟩
def xS (hF:∀b,¬F b){a a' b b'}(h:bY π a a')(k:bY π b b'):bR P Al F ER π (mayBeOne a b) (mayBeOne a' b'):=by
 have n:∀(d:Rn)(x f:Addr),Ok P d->bY d x f->bR P Al F ER d (do pure ((<-shape x.block) matches aA (_,0))) (do pure ((<-shape f.block) matches aA (_,0))):=by intro d x f ok m;refine aR _ (fZ m.1) ?_;rintro i s _ ok u rfl;exact aS rfl
 refine aR _ (vX hF h) ?_;rintro d s1 _ ok c rfl;refine aR _ (vX hF (k.mono c)) ?_;rintro i s2 _ ok e rfl;have p:=(h.mono c).mono e;have l:=(k.mono c).mono e;refine aR ER (n i _ _ ok p) ?_;rintro j t _ ok g rfl;refine aR ER (n j _ _ ok (l.mono g)) ?_;rintro q r _ ok o rfl;exact aS rfl
def addr_eq (ok:Ok P π){a a' b b'}(h:bY π a a')(k:bY π b b'):(a'=b'↔a=b):=by
 have:=ok.inj h.1 k.1;obtain⟨_,f,d⟩:=h;obtain⟨_,k2,c⟩:=k;constructor
 .intro e;cases a;cases b;cases a';cases b';cases e;simp_all
 .intro e;cases a;cases b;cases a';cases b';cases e;simp_all
end
section
variable {P:zZ}{Al:zF}{F:Kp}{π:Rn}{α β γ δ:Type}{A:Rn->α->β->Prop} [ok:Ok P π]
inductive Ts (π:Rn):Option (Addr×Bool)->Option (Addr×Bool)->Prop
 |none:Ts π aB aB
 |some {a a':Addr} {t:Bool} (h:bY π a a'):Ts π (aA (a,t)) (aA (a',t))
def xR {r r'}(h:π r r'):bR P Al F Ts π (numberAt r) (numberAt r'):=by
 refine aR _ (fZ h) ?_;rintro e s _ ok c rfl;cases s with
 |some x=>exact aS .none
 |none=>
  refine .getObj (c _ _ h) ?_;rintro o g (⟨b,a⟩|⟨x,f,b,a,d⟩)
  .rw[a];cases o with
   |number x u=>exact absurd rfl (b.2.2.1 x u)
   |_=>exact .pure .none
  .cases b;cases a;cases d with
   |view h u _=>exact .pure .none
   |number h l=>exact .pure (.some h)
def fM {a a'}(h:bY π a a'):bR P Al F (λb (x y:Addr×Bool)=>bY b x.1 y.1/\x.2=y.2) π (behindNumber a) (behindNumber a'):=by
 refine aR _ (xR h.1) ?_;intro b s e ok d c;cases c with
 |none=>exact aS ⟨h.mono d,rfl⟩
 |some h=>exact aS ⟨h,rfl⟩
def xY {a a':Addr}(h:bY π a a')(l:Bool):bR P Al F (VR Al) π (asNumber a l) (asNumber a' l):=
 .view (.number h l) λc r d _ _ b=> .pure (.pointer (.some ⟨b,rfl,rfl⟩))
def vI (ok:Ok P π){a a' b b'}(h:bY π a a')(k:bY π b b'):(a'.block==b'.block)=(a.block==b.block):=by
 have:=ok.inj h.1 k.1;by_cases e:a.block=b.block
 .simp[e,this.1 e]
 .have c:a'.block≠b'.block:=λq=>e (this.2 q);rw[zEb e,zEb c]
def AP (ok:Ok P π){a a' b b'}(h:bY π a a')(k:bY π b b'):(a'==b')=(a==b):=by
 have:=addr_eq ok h k;by_cases e:a=b
 .have c:=this.2 e;simp[e,c]
 .have c:a'≠b':=λq=>e (this.1 q);rw[zEb e,zEb c]
def KZ (hF:∀b,¬F b){a a' b b'}(h:bY π a a')(k:bY π b b'):bR P Al F ER π (sameAddr a b) (sameAddr a' b'):=by
 unfold sameAddr;rw[vI ok h k,AP ok h k];split
 .exact aS rfl
 .refine aR _ (lS hF h) ?_;rintro s s1 _ ok d rfl;refine aR _ (lS hF (k.mono d)) ?_;rintro r s2 _ ok f rfl;have i:=(h.mono d).mono f;have g:=(k.mono d).mono f;split
  .exact aU
  .refine aR _ (oI i) ?_;rintro q _ _ ok c rfl;refine aR _ (oI (g.mono c)) ?_;rintro p _ _ ok e rfl;refine aR _ (xS hF ((i.mono c).mono e) ((g.mono c).mono e)) ?_;rintro o t _ ok l rfl;split
   .refine aR _ (gI _) ?_;rintro m n _ ok j rfl;exact aS rfl
   .exact aS rfl
def xO (g:F.cmp\/∀b,¬F b){a a' b b'}(h:bY π a a')(k:bY π b b'):bR P Al F ER π (sameAddr a b) (sameAddr a' b'):=by
 by_cases f:F.cmp/\∃x,F x
 .have:=bR.same (P:=P) (Al:=Al) (A:=ER) (k':=λt=> .pure t) f h k (λt=> .pure rfl);have e:∀(s:Sem Bool),(s>>=λt=> .pure t)=s:=λs=>by
   show s.bind _=s;induction s with
   |pure a=>rfl
   |load m a k i=>simp only[Sem.bind,i]
   |store m a x k i=>simp only[Sem.bind,i]
   |new o k i=>simp only[Sem.bind,i]
   |shape r k i=>simp only[Sem.bind,i]
   |freeze a n k i=>simp only[Sem.bind,i]
   |frozen a k i=>simp only[Sem.bind,i]
   |getObj r k i=>simp only[Sem.bind,i]
   |setObj r o k i=>simp only[Sem.bind,i]
   |choose q k i=>simp only[Sem.bind,i]
   |sys c k i=>simp only[Sem.bind,i]
   |program k i=>simp only[Sem.bind,i]
   |mark m k i=>simp only[Sem.bind,i]
   |halt h=>rfl
  rwa [e,e]at this
 .exact KZ (λb d=>g.elim (λc=>f ⟨c,b,d⟩) λc=>c b d) h k
omit ok in
def bR.weaken {A B:Rn->α->β->Prop}{s:Sem α}{s':Sem β}(h:bR P Al F A π s s')(d:∀ρ a b,A ρ a b->B ρ a b):bR P Al F B π s s':=by
 induction h with
 |pure h=>exact .pure (d _ _ _ h)
 |load h _ i=>exact .load h i
 |store h c _ i=>exact .store h c i
 |new h _ i=>exact .new h i
 |marked hC h _ i=>exact .marked hC h i
 |view h _ i=>exact .view h i
 |getObj h _ i=>exact .getObj h i
 |shape h _ i=>exact .shape h i
 |freeze hF h _ i=>exact .freeze hF h i
 |frozen hF h _ i=>exact .frozen hF h i
 |share h _ i=>exact .share h i
 |same e h f _ i=>exact .same e h f i
 |choose _ i=>exact .choose i
 |program he _ i=>exact .program he i
 |mark hm _ i=>exact .mark hm i
 |env _ i=>exact .env i
 |panic h=>exact .panic h
 |dead h=>exact .dead h
def iR {m S}(G:∀(ρ e) s s',(∀x y,ρ x y->e x y)->S ρ s s'->S e s s'):∀(l c:List γ)(E:Rn->γ->γ->Prop),(∀(ρ e) s s',(∀x y,ρ x y->e x y)->E ρ s s'->E e s s')->c.length=l.length->(∀(i:Nat) a b,l[i]? =aA a->c[i]? =aA b->E π a b)->∀(s s':m)(f j:γ->m->Sem (ForInStep m)),S π s s'->
  (∀(ρ) a b t k,Ok P ρ->(∀x y,π x y->ρ x y)->E ρ a b->S ρ t k->bR P Al F (λρ x y=>(∃u d,x= .yield u/\y= .yield d/\S ρ u d)\/(∃u d,x= .done u/\y= .done d/\S ρ u d)) ρ (f a t) (j b k))->
  bR P Al F S π (forIn l s f) (forIn c s' j):=by
 intro l;induction l generalizing π with
 |nil=>
  intro c E v hl r s s' f j p q;cases c with
  |nil=>exact aS p
  |cons _ _=>simp at hl
 |cons a l z=>
  intro c E v hl r s s' f j p q;cases c with
  |nil=>simp at hl
  |cons b c=>rw[List.forIn_cons,List.forIn_cons];refine aR _ (q π a b s s' ok (λ_ _ x=>x) (r 0 a b (by simp) (by simp)) p) ?_;intro ρ x y w h g;obtain⟨u,d,rfl,rfl,n⟩|⟨u,d,rfl,rfl,n⟩:=g;{exact z c E v (by simpa using hl) (λi a b C B=>v π ρ a b h (r (i+1) a b (by simpa using C) (by simpa using B))) u d f j n λe a b t k o D=>q e a b t k o λx y g=>D _ _ (h _ _ g)};{exact aS n}
def xV (op:BinOp)(k:IntKind)(x y):bR P Al F (VR Al) π (Op.intArith op k x y) (Op.intArith op k x y):=by unfold Op.intArith;cases op<;>first|exact aS (.int _ _)|exact aT
def ZO (op:BinOp)(k:IntKind)(x y):bR P Al F (VR Al) π (Op.intDiv op k x y) (Op.intDiv op k x y):=by
 unfold Op.intDiv;split
 .exact dG _
 .cases op<;>first|exact aS (.int _ _)|exact aT
def DF (op:BinOp)(k:IntKind)(x y):bR P Al F (VR Al) π (Op.intBits op k x y) (Op.intBits op k x y):=by unfold Op.intBits;cases op<;>first|exact aS (.int _ _)|exact aT
def Ia (op:BinOp)(k:IntKind)(x)(a:IntKind)(y):bR P Al F (VR Al) π (Op.shift op k x a y) (Op.shift op k x a y):=by
 unfold Op.shift;split
 .exact dG _
 .cases op<;>first|exact aS (.int _ _)|exact aT
def ZP (op:BinOp)(x y):bR P Al F (VR Al) π (Op.intCmp op x y) (Op.intCmp op x y):=by unfold Op.intCmp;cases op<;>first|exact aS (.bool _)|exact aT
def xN (op:BinOp)(x y):bR P Al F (VR Al) π (Op.stringOp op x y) (Op.stringOp op x y):=by
 unfold Op.stringOp;cases op<;>dsimp only<;>first|exact aS (.bool _)|exact aT|skip
 by_cases h:((x.size+y.size:Nat):Int)>IntKind.i64.max
 .rw[zAl h];exact aU
 .rw[zAj h];exact aS (.string _)
def fR {a a'}(h:bY π a a'):bR P Al F ER π (byteOf a) (byteOf a'):=by
 unfold byteOf;rw[h.2.2];cases d:a.spot with
 |some s=>exact aS rfl
 |none=>
  refine dU (λm _=>by simp only[jS];rfl) ?_;rintro l p q ok d ⟨i,g⟩;rw[i,g];refine aR _ (oI (h.mono d)) ?_;rintro k _ _ ok c rfl;refine aR _ (fZ (c _ _ (d _ _ h.1))) ?_;rintro j s _ ok f rfl;cases s with
  |none=>exact aT
  |some x=>
   obtain⟨e,n⟩:=x;dsimp only;rw[h.2.1];split;{exact aS rfl}
   .cases byteOfCell P P.depth e (a.off%P.cellsOf e)with
    |none=>exact aT
    |some b=>exact aS rfl
def EJ {c}(l:Array γ)(s:c)(f f':γ->c->Sem (ForInStep c))
  (g:∀(ρ) a t,Ok P ρ->(∀x y,π x y->ρ x y)->bR P Al F ER ρ (f a t) (f' a t)):bR P Al F ER π (forIn l s f) (forIn l s f'):=by
 rw[<-zFb,<-zFb];refine iR (λ_ _ _ _ _ h=>h) l.toList l.toList ER (λ_ _ _ _ _ h=>h) rfl (λi a b j d=>by rw[j]at d;exact zAm d) s s f f' rfl ?_;rintro ρ a _ t _ ok e rfl rfl;have:=g ρ a t ok e;exact bR.weaken this λc x y h=>by subst h;cases x with
  |yield u=>exact aG ⟨u,u,rfl,rfl,rfl⟩
  |done u=>exact aH ⟨u,u,rfl,rfl,rfl⟩
def BH {c}(l:Array γ)(s:c)(f f':γ->c->Sem (ForInStep c))
  (j:∀(ρ) a t,a∈l.toList->Ok P ρ->(∀x y,π x y->ρ x y)->bR P Al F ER ρ (f a t) (f' a t)):bR P Al F ER π (forIn l s f) (forIn l s f'):=by
 rw[<-zFb,<-zFb];refine iR (λ_ _ _ _ _ h=>h) l.toList l.toList (λ_ a b=>a=b/\a∈l.toList) (λ_ _ _ _ _ h=>h) rfl (λi a b e d=>by rw[e]at d;exact⟨zAm d,zCr e⟩) s s f f' rfl ?_;rintro ρ a _ t _ ok g ⟨rfl,hm⟩ rfl;have:=j ρ a t hm ok g;exact bR.weaken this λc x y h=>by subst h;cases x with
  |yield u=>exact aG ⟨u,u,rfl,rfl,rfl⟩
  |done u=>exact aH ⟨u,u,rfl,rfl,rfl⟩
def ZN (t:zD){a a' b b':Addr}(c:bY π a a')(d:bY π b b'):bR P Al F ER π
  (do
   let(a,b):=((<-behindNumber a).1,(<-behindNumber b).1)
   if a.block==b.block&&a.block<(<-program).globals.size then return(<-byteOf a)==(<-byteOf b)
   let .named "sync.copyChecker" _:=(<-typeInfo t).desc|unsupported .addressObserved
   if a==b then pure aE else unsupported .addressObserved)
  (do
   let(a,b):=((<-behindNumber a').1,(<-behindNumber b').1)
   if a.block==b.block&&a.block<(<-program).globals.size then return(<-byteOf a)==(<-byteOf b)
   let .named "sync.copyChecker" _:=(<-typeInfo t).desc|unsupported .addressObserved
   if a==b then pure aE else unsupported .addressObserved):=by
 refine aR _ (fM c) ?_;rintro y ⟨a,q⟩ ⟨a',_⟩ ok o ⟨c,rfl⟩;refine aR _ (fM (d.mono o)) ?_;rintro x ⟨b,q⟩ ⟨b',_⟩ ok g ⟨d,rfl⟩;replace c:=c.mono g;dsimp only at c d⊢;refine dU (λ_ _=>rfl) ?_;rintro w p q ok f ⟨s,r⟩;rw[s,r];replace c:=c.mono f;replace d:=d.mono f;have u:decide (a'.block<P.globals.size)=decide (a.block<P.globals.size):=by
  by_cases h:a.block<P.globals.size;{have:=ok.base c.1 (aG (aGl h));simp[<-this]}
  .by_cases j:a'.block<P.globals.size
   .have:=ok.base c.1 (aH (aGl j));simp[<-this]
   .simp[h,j]
 rw[vI ok c d,AP ok c d,u];split
 .refine aR _ (fR c) ?_;rintro k n _ ok e rfl;refine aR _ (fR (d.mono e)) ?_;rintro v m _ ok l rfl;exact aS rfl
 .refine aR _ (eW t) ?_;rintro k i _ ok e ⟨rfl,_⟩;split
  .split
   .exact aS rfl
   .exact aU
  .exact aU
def Basic (P:zZ)(t:zD):Prop:=P.underlying t=aA .bool\/(∃k,P.underlying t=aA (.int k))\/P.underlying t=aA .string
def uP (P:zZ)(t:zD)(x y:zY):Prop:=(∃e,P.underlying t=aA (.pointer e))/\∀a b,x= .pointer (aA a)->y= .pointer (aA b)->a.block=b.block
def TJ [ok:Ok P π] {a a' b b'}(h:bY π a a')(k:bY π b b')(e:a.block=b.block):bR P Al F ER π (sameAddr a b) (sameAddr a' b'):=by have c:=(ok.inj h.1 k.1).1 e;unfold sameAddr;simp only[e,c,BEq.rfl,zCy];rw[AP ok h k];exact aS rfl
def KL (P:zZ):Nat->zD->Prop
 |0,_=>True
 |d+1,t=>match P.underlying t with
  |some (.func _ _ _)=>False
  |some (.struct a)=>∀f∈a.toList,KL P d f.type
  |some (.array _ e)=>KL P d e
  |some (.interface _)=>False
  |_=>True
def DJ:∀(d){π} [Ok P π] (t){x T y S},KL P d t->((F.cmp\/∀b,¬F b)\/Basic P t\/uP P t x y)->bE Al π x T->bE Al π y S->bR P Al F ER π (Op.equalIn d t x y) (Op.equalIn d t T S):=by
 intro d;induction d with
 |zero=>intro π ok t x T y S J V o j;exact aU
 |succ d Y=>
  intro π ok t x T y S J V o j;refine aR _ (bB t) ?_;rintro ρ u _ ok Z ⟨rfl,hu⟩;unfold KL at J;rw[hu]at J;replace o:=o.mono Z;replace j:=j.mono Z;have I:u≠.bool->(∀k,u≠.int k)->u≠.string->(∀e,u≠.pointer e)->F.cmp\/∀b,¬F b:=λQ O N M=>V.resolve_right λh=>by obtain(h|⟨k,h⟩|h)|⟨⟨e,h⟩,_⟩:=h;{exact Q (zAm (hu.symm.trans h))};{exact O k (zAm (hu.symm.trans h))};{exact N (zAm (hu.symm.trans h))};{exact M e (zAm (hu.symm.trans h))}
  cases u with
  |bool=>cases o<;>first|exact aT|(cases j<;>first|exact aT|exact aS rfl)
  |string=>cases o<;>first|exact aT|(cases j<;>first|exact aT|exact aS rfl)
  |float k=>cases o<;>exact aT
  |complex k=>cases o<;>exact aT
  |int k=>
   cases o with
   |int k a=>
    cases j with
    |int k' b=>dsimp only;split<;>first|exact aS rfl|exact aT
    |pointer B=>
     cases B with
     |none=>exact aU
     |some _=>
      by_cases W:a=0;{subst W;exact aS rfl}
      .rename_i b b' _;have e1:∀(z:Addr),(match TypeDesc.int k,Value.int k a,Value.pointer (aA z)with| .int _,.int _ 0,.pointer (aA _)=>(0:Nat)|_,_,_=>1)=1:=by
        intro z;cases a with
        |ofNat n=>cases n with
         |zero=>exact absurd rfl W
         |succ n=>rfl
        |negSucc n=>rfl
       cases a with
       |ofNat n=>cases n with
        |zero=>exact absurd rfl W
        |succ n=>exact aU
       |negSucc n=>exact aU
    |_=>exact aT
   |pointer B=>
    cases B with
    |none=>cases j<;>exact aU
    |some s=>
     cases j with
     |pointer w=>
      cases w with
      |none=>exact aU
      |some l=>exact ZN t s l
     |int k' b=>
      cases b with
      |ofNat n=>cases n with
       |zero=>exact aS rfl
       |succ n=>exact aU
      |negSucc n=>exact aU
     |_=>exact aU
   |_=>cases j<;>first|exact aT|exact aU
  |pointer e=>
   have g:(F.cmp\/∀b,¬F b)\/uP P t x y:=V.imp id λh=>h.resolve_left λh=>by obtain h|⟨k,h⟩|h:=h;{cases zAm (hu.symm.trans h)};{cases zAm (hu.symm.trans h)};{cases zAm (hu.symm.trans h)}
   cases o with
   |pointer B=>
    cases j with
    |pointer w=>
     cases B with
     |none=>cases w<;>exact aS rfl
     |some s=>
      cases w with
      |none=>exact aS rfl
      |some l=>
       refine aR _ (cA e) ?_;rintro X n _ ok K rfl;replace s:=s.mono K;replace l:=l.mono K;rw[AP ok s l];split
       .obtain g|g:=g
        .exact xO g s l
        .exact TJ s l (g.2 _ _ rfl rfl)
       .split
        .exact aS rfl
        .refine aR _ (gI _) ?_;rintro R n _ ok C rfl;exact aS rfl
    |_=>cases B<;>exact aT
   |_=>exact aT
  |unsafePointer=>
   have g:=I (by simp) (by simp) (by simp) (by simp);cases o with
   |pointer B=>
    cases j with
    |pointer w=>
     cases B with
     |none=>cases w<;>exact aS rfl
     |some s=>
      cases w with
      |none=>exact aS rfl
      |some l=>exact xO g s l
    |_=>exact aT
   |_=>exact aT
  |chan dr e=>cases o<;>first|exact aT|(cases j<;>first|exact aT|exact aS rfl)
  |interface ms=>exact J.elim
  |struct fs=>
   have g:=I (by simp) (by simp) (by simp) (by simp);cases o with
   |agg Q O=>
    cases j with
    |agg N M=>
     refine dU (λfs _=>by simp only[kY]) ?_;rintro X p q ok C ⟨B,w⟩;rw[B,w];split;{exact aU}
     .refine aR ER (BH fs _ _ _ ?_) ?_
      .intro R f st L ok v;have E:=((aY.mk Q O).mono C).mono v;have D:=((aY.mk N M).mono C).mono v;split
       .refine aR _ (jT E f.type f.offset) ?_;intro υ a a' ok H s;refine aR _ (jT (D.mono H) f.type f.offset) ?_;intro φ b b' ok G l;refine aR _ (Y f.type (J f L) (aG g) (s.mono G) l) ?_;rintro χ r _ ok U rfl;split
        .exact aS rfl
        .exact aS rfl
       .exact aS rfl
      .rintro R r _ ok v rfl;dsimp only;split<;>exact aS rfl
    |_=>exact aT
   |_=>exact aT
  |array n e=>
   have g:=I (by simp) (by simp) (by simp) (by simp);cases o with
   |agg Q O=>
    cases j with
    |agg N M=>
     refine aR _ (cA e) ?_;rintro X k _ ok C rfl;rw[zEd,zEd];refine aR ER (bR.weaken (iR (λ_ _ _ _ _ h=>h) _ _ ER (λ_ _ _ _ _ h=>h) rfl (λi a b s l=>by rw[s]at l;exact zAm l) _ _ _ _ rfl ?_) (λ_ _ _ h=>h)) ?_
     .rintro R i _ st _ ok v rfl rfl;have E:=((aY.mk Q O).mono C).mono v;have D:=((aY.mk N M).mono C).mono v;refine aR _ (jT E e (i*k)) ?_;intro υ a a' ok H s;refine aR _ (jT (D.mono H) e (i*k)) ?_;intro φ b b' ok G l;refine aR _ (Y e J (aG g) (s.mono G) l) ?_;rintro χ r _ ok U rfl;split
      .exact aS (aH ⟨_,_,rfl,rfl,rfl⟩)
      .exact aS (aG ⟨_,_,rfl,rfl,rfl⟩)
     .rintro R r _ ok v rfl;dsimp only;split<;>exact aS rfl
    |_=>exact aT
   |_=>exact aT
  |slice e=>
   cases o with
   |slice B n c=>
    cases j with
    |slice w m c'=>
     cases B with
     |none=>cases w<;>exact aS rfl
     |some s=>
      cases w with
      |none=>exact aS rfl
      |some l=>exact aT
    |void=>cases B<;>first|exact aS rfl|exact aT
    |_=>cases B<;>exact aT
   |void=>
    cases j with
    |slice w m c'=>cases w<;>first|exact aS rfl|exact aT
    |_=>exact aT
   |_=>exact aT
  |map a b=>cases o<;>first|exact aT|(cases j<;>first|exact aT|exact aS rfl)
  |func a b c=>exact J.elim
  |_=>cases o<;>first|exact aT|(cases j<;>exact aT)
end
def Vl {P α t d}(h:P.underlying t=aA d)(f:TypeDesc->Sem α)(v)(es):(underlying t>>=f).runT P v es=(f d).runT P v es:=by show Sem.runT P (Sem.bind (match P.underlying t with|some d=>pure d|none=>stuck "no such type") f) v es=_;rw[h];rfl
def Vk {P α t}(h:P.underlying t=aB)(f:TypeDesc->Sem α)(v)(es):(underlying t>>=f).runT P v es=(.halt (.stuck "no such type") v,es):=by show Sem.runT P (Sem.bind (match P.underlying t with|some d=>pure d|none=>stuck "no such type") f) v es=_;rw[h];rfl
def nK {α:Type}(P:zZ)(s:Sem α):Prop:=∀v a,∃hl w e,s.runT P v a=(.halt hl w,e)/\Fatal hl
def uI {P α t}{f:TypeDesc->Sem α}(h:∀d,nK P (f d)):nK P (underlying t>>=f):=λv e=>by
 cases hu:P.underlying t with
 |none=>rw[Vk hu];exact⟨_,_,_,rfl,aG ⟨_,rfl⟩⟩
 |some d=>rw[Vl hu];exact h d v e
def pA {P α w}:nK P (stuck w:Sem α):=λ_ _=>⟨_,_,_,rfl,aG ⟨_,rfl⟩⟩
def sF {P:zZ}{α:Type}{u:Unsupported}(h:∀g,u≠.initOrder g:=by simp):nK P (unsupported u:Sem α):=λ_ _=>⟨_,_,_,rfl,aH ⟨u,rfl,h⟩⟩
def BJ {P α γ t d}(h:P.underlying t=aA d)(f:TypeDesc->Sem α)(k:α->Sem γ)(v)(es):((underlying t>>=f)>>=k).runT P v es=(f d>>=k).runT P v es:=by show Sem.runT P (Sem.bind (Sem.bind (match P.underlying t with|some d=>pure d|none=>stuck "no such type") f) k) v es=_;rw[h];rfl
def EX {P α γ t}(h:P.underlying t=aB)(f:TypeDesc->Sem α)(k:α->Sem γ)(v)(es):((underlying t>>=f)>>=k).runT P v es=(.halt (.stuck "no such type") v,es):=by show Sem.runT P (Sem.bind (Sem.bind (match P.underlying t with|some d=>pure d|none=>stuck "no such type") f) k) v es=_;rw[h];rfl
def Cu {P γ t}(h:KL P Op.maxDepth t)(z y)(k:Bool->Sem γ)(v)(es):∃hl w e,((Op.equal t (.func (.method "") #[.iface 1000000 .nilIface] #[z]) y)>>=k).runT P v es=(.halt hl w,e)/\Fatal hl:=by
 obtain⟨m,a⟩:∃m,Op.maxDepth=m+1:=⟨Op.maxDepth-1,rfl⟩;unfold Op.equal;rw[a]at h⊢;unfold KL at h;unfold Op.equalIn;cases hu:P.underlying t with
 |none=>rw[EX hu];exact⟨_,_,_,rfl,aG ⟨_,rfl⟩⟩
 |some d=>rw[BJ hu];rw[hu]at h;cases d<;>first|exact h.elim|exact⟨_,_,_,rfl,by simp⟩|(cases y<;>first|exact⟨_,_,_,rfl,by simp⟩|(rename_i q;cases q<;>exact⟨_,_,_,rfl,by simp⟩))
def ZS {P Al F π γ β A t}(h:KL P Op.maxDepth t)(z y)(k:Bool->Sem γ){s':Sem β}:bR P Al F A π ((Op.equal t (.func (.method "") #[.iface 1000000 .nilIface] #[z]) y)>>=k) s':= .dead λv e=>Cu h z y k v e
section
variable {P:zZ}{Al:zF}{F:Kp}{π:Rn}{α β γ δ:Type}{A:Rn->α->β->Prop} [ok:Ok P π]
def vY:∀(d){π} [Ok P π] (t){x l y j},bE Al π x l->bE Al π y j->bR P Al F ER π (Op.eqGuardIn d t x y) (Op.eqGuardIn d t l j):=by
 intro d;induction d with
 |zero=>intro π ok t x l y j v o;exact aU
 |succ d J=>
  intro π ok t x l y j v o;refine aR _ (bB t) ?_;rintro T u _ ok K ⟨rfl,hu⟩;replace v:=v.mono K;replace o:=o.mono K;cases u with
  |interface ms=>
   cases v with
   |junk _ g=>cases l<;>first|exact g.elim|exact aS rfl
   |nilIface=>
    cases o with
    |junk _ g=>cases j<;>first|exact g.elim|exact aS rfl
    |_=>exact aS rfl
   |_=>first|exact aS rfl|(cases o<;>exact aS rfl)
  |struct O=>
   cases v with
   |agg I H=>
    cases o with
    |agg G E=>
     refine aR ER (EJ O _ _ _ ?_) ?_
     .intro C f st ok c;have p:=(aY.mk I H).mono c;have m:=(aY.mk G E).mono c;split
      .refine aR _ (jT p f.type f.offset) ?_;intro N a R ok s B;refine aR _ (jT (m.mono s) f.type f.offset) ?_;intro M b Q ok q w;refine aR _ (J f.type (B.mono q) w) ?_;rintro L r _ ok D rfl;split
       .exact aS rfl
       .exact aS rfl
      .exact aS rfl
     .rintro C r _ ok c rfl;dsimp only;split<;>exact aS rfl
    |junk _ g=>cases j<;>first|exact g.elim|exact aS rfl
    |_=>exact aS rfl
   |junk _ g=>cases l<;>first|exact g.elim|exact aS rfl
   |_=>exact aS rfl
  |array n e=>
   cases v with
   |agg I H=>
    cases o with
    |agg G E=>
     refine aR _ (cA e) ?_;rintro S k _ ok z rfl;rw[zEd,zEd];refine aR ER (bR.weaken (iR (λ_ _ _ _ _ h=>h) _ _ ER (λ_ _ _ _ _ h=>h) rfl (λi a b B w=>by rw[B]at w;exact zAm w) _ _ _ _ rfl ?_) (λ_ _ _ h=>h)) ?_
     .rintro C i _ st _ ok c rfl rfl;have p:=((aY.mk I H).mono z).mono c;have m:=((aY.mk G E).mono z).mono c;refine aR _ (jT p e (i*k)) ?_;intro N a R ok s B;refine aR _ (jT (m.mono s) e (i*k)) ?_;intro M b Q ok q w;refine aR _ (J e (B.mono q) w) ?_;rintro L r _ ok D rfl;split
      .exact aS (aH ⟨_,_,rfl,rfl,rfl⟩)
      .exact aS (aG ⟨_,_,rfl,rfl,rfl⟩)
     .rintro C r _ ok c rfl;dsimp only;split<;>exact aS rfl
    |junk _ g=>cases j<;>first|exact g.elim|exact aS rfl
    |_=>exact aS rfl
   |junk _ g=>cases l<;>first|exact g.elim|exact aS rfl
   |_=>exact aS rfl
  |_=>exact aS rfl
def TR (op:BinOp)(t)(x y){a a' b b'}(o:bE Al π a a')(n:bE Al π b b'):bR P Al F ER π (eqGuard op t x y a b) (eqGuard op t x y a' b'):=by
 have main:bR P Al F ER π (eqGuard .eql t x y a b) (eqGuard .eql t x y a' b'):=by
  cases o;case junk _ g=>cases a'<;>first|exact g.elim|exact aS rfl
  all_goals first
   |exact aS rfl
   |(cases n
     case junk _ g=>cases b'<;>first|exact g.elim|exact aS rfl
     all_goals first|exact aS rfl|skip)
  .have k:bR P Al F ER π (do if<-Op.eqGuardIn Op.maxDepth t .nilIface .nilIface then unsupported (.noEntry "binop/eql: two nil values of an interface type with methods, neither of them the literal nil")) (do if<-Op.eqGuardIn Op.maxDepth t .nilIface .nilIface then unsupported (.noEntry "binop/eql: two nil values of an interface type with methods, neither of them the literal nil")):=by
    refine aR _ (vY _ t .nilIface .nilIface) ?_;rintro i r _ ok d rfl;split;{exact aU};{exact aS rfl}
   cases x<;>cases y<;>first|exact aS rfl|exact k
  .rename_i w v _ _ u s;refine dU (λE _=>by simp only[tF]) ?_;rintro i p q ok d ⟨m,l⟩;rw[m,l];refine dU (λ_ _=>rfl) ?_;rintro B D C ok c ⟨f,e⟩;rw[f,e];split
   .exact aS rfl
   .refine aR _ (vY _ t ((bE.agg w v).mono λ_ _ h=>c _ _ (d _ _ h)) ((bE.agg u s).mono λ_ _ h=>c _ _ (d _ _ h))) ?_;rintro z r _ ok j rfl;split
    .exact aU
    .exact aS rfl
 cases op with
 |eql=>exact main
 |neq=>exact main
 |_=>exact aS rfl
def Bn (ok:Ok P π){b b'}(h:π b b'):(b'≥P.globals.size↔b≥P.globals.size):=by
 constructor
 .intro c;obtain a|a:=zDi b P.globals.size
  .have:=ok.base h (aG (aGl a));omega
  .exact a
 .intro c;obtain a|a:=zDi b' P.globals.size
  .have:=ok.base h (aH (aGl a));omega
  .exact a
def vW {a a' b b'}(h:bY π a a')(c:bY π b b'):bR P Al F ER π (Op.twoPlaces a b) (Op.twoPlaces a' b'):=by
 refine dU (λ_ _=>rfl) ?_;rintro s p q ok e ⟨i,g⟩;rw[i,g];replace h:=h.mono e;replace c:=c.mono e;have l:(a'.block !=b'.block||decide (a'.block≥P.globals.size))=(a.block !=b.block||decide (a.block≥P.globals.size)):=by have k:=vI ok h c;have j:decide (a'.block≥P.globals.size)=decide (a.block≥P.globals.size):=by{simp only[Bn ok h.1]};unfold bne;rw[k,j]
 rw[l];split
 .exact aU
 .refine aR _ (fR h) ?_;rintro r n _ ok d rfl;refine aR _ (fR (c.mono d)) ?_;rintro o m _ ok f rfl;exact aS rfl
def TV (k:IntKind){a a' b b'}(c:bY π a a')(h:bY π b b'):bR P Al F (VR Al) π (Op.addrSub k a b) (Op.addrSub k a' b'):=by refine aR _ (vW c h) ?_;rintro d x _ ok e rfl;exact aS (.int _ _)
def TW (op:BinOp){a a' b b'}(c:bY π a a')(h:bY π b b'):bR P Al F (VR Al) π (Op.addrCmp op a b) (Op.addrCmp op a' b'):=by refine aR _ (vW c h) ?_;rintro d x _ ok e rfl;cases op<;>first|exact aS (.bool _)|exact aU
def tM (k:IntKind){a a'}(b:bY π a a')(n):bR P Al F (VR Al) π (Op.addrMod k a n) (Op.addrMod k a' n):=by
 refine aR _ (fZ b.1) ?_;rintro j s _ ok d rfl;cases s with
 |none=>exact aU
 |some x=>obtain⟨e,m⟩:=x;dsimp only;refine aR _ (eW e) ?_;rintro g i _ ok h ⟨rfl,_⟩;split;{exact aU};{refine aR _ (fR ((b.mono d).mono h)) ?_;rintro f n _ ok c rfl;exact aS (.int _ _)}
def yd (ρ:Rn)(v v':zY):Prop:=∃p a,v= .pointer p/\v'= .pointer a/\xA ρ p a
def tJ (at_)(t){x k y j}(v:bE Al π x k)(l:bE Al π y j):bR P Al F yd π (Builtin.unsafeAdd_ at_ t #[x,y]) (Builtin.unsafeAdd_ at_ t #[k,j]):=by
 cases v with
 |pointer i=>
  cases i with
  |none=>
   refine aR _ (nY l) ?_;rintro u n _ ok f rfl;by_cases b:n=0;{rw[zAl b];exact aU}
   .rw[zAj b];by_cases d:n<0
    .rw[zAl d];exact aU
    .rw[zAj d];exact aU
  | @some a G c=>
   refine aR _ (nY l) ?_;rintro u n _ ok f rfl;by_cases b:n=0
   .rw[zAl b,zAl b];refine aR _ (rP (f _ _ c.1)) ?_;intro r s D ok h w;cases w with
    |none=>exact aS ⟨_,_,rfl,rfl,.some ((c.mono f).mono h)⟩
    |some _=>exact aU
   .rw[zAj b,zAj b];by_cases d:n<0
    .rw[zAl d];exact aU
    .rw[zAj d,zAj d];refine aR _ (fZ (f _ _ c.1)) ?_;rintro r s _ ok h rfl;cases s with
     |none=>exact aU
     |some z=>
      obtain⟨e,m⟩:=z;refine dU (λE _=>by simp only[tH];rfl) ?_;rintro C p q ok g ⟨i,B⟩;rw[i,B,c.2.1];cases cellAtBytes P P.depth e (m/P.cellsOf e) a.off n with
      |none=>exact aU
      |some o=>exact aS ⟨_,_,rfl,rfl,.some ⟨g _ _ (h _ _ (f _ _ c.1)),rfl,c.2.2⟩⟩
 |_=>exact aT
def cF (at_)(t){x b y a}(d:bE Al π x b)(c:bE Al π y a):bR P Al F (VR Al) π (Builtin.unsafeAdd_ at_ t #[x,y]) (Builtin.unsafeAdd_ at_ t #[b,a]):=(tJ at_ t d c).weaken λ_ _ _ ⟨_,_,e,f,h⟩=>by rw[e,f];exact .pointer h
def kZ (t)(z y){s'}:bR P Al F (VR Al) π (Builtin.unsafeAdd_ #[] t #[(.func (.method "") #[.iface 1000000 .nilIface] #[z]),y]) s':=by exact aT
def kA (t){x f y e}(j:bE Al π x f)(h:bE Al π y e):bR P Al F (VR Al) π (movedNumber t x y) (movedNumber t f e):=by
 refine aR _ (bB t) ?_;rintro r u _ ok p ⟨rfl,_⟩;replace j:=j.mono p;replace h:=h.mono p;have g:bR P Al F (VR Al) r (do
   let .pointer (aA n):=x|Builtin.unsafeAdd_ #[] t #[x,y]
   let(a,lost)<-behindNumber n
   match<-Builtin.unsafeAdd_ #[] t #[.pointer (aA a),y]with
   | .pointer (aA b)=>asNumber b lost
   |v=>pure v) (do
   let .pointer (aA n):=f|Builtin.unsafeAdd_ #[] t #[f,e]
   let(a,lost)<-behindNumber n
   match<-Builtin.unsafeAdd_ #[] t #[.pointer (aA a),e]with
   | .pointer (aA b)=>asNumber b lost
   |v=>pure v):=by
  cases j with
  |pointer m=>
   cases m with
   |none=>exact cF #[] t (.pointer .none) h
   |some o=>
    refine aR _ (fM o) ?_;rintro K ⟨a,q⟩ ⟨O,_⟩ ok l ⟨o,rfl⟩;refine aR _ (tJ #[] t (.pointer (.some o)) (h.mono l)) ?_;rintro J v M ok C ⟨_,_,rfl,rfl,m⟩;cases m with
    |none=>exact aS (.pointer .none)
    |some hb=>exact xY hb _
  |bool b=>exact cF #[] t (.bool b) h
  |int k n=>exact cF #[] t (.int k n) h
  |string s=>exact cF #[] t (.string s) h
  |slice y n c=>exact cF #[] t (.slice y n c) h
  |void E a=>exact cF #[] t (.void E a) h
  |func D d I B H G=>exact cF #[] t (.func D d I B H G) h
  |nilFunc=>exact cF #[] t .nilFunc h
  |iface w i=>exact cF #[] t (.iface w i) h
  |nilIface=>exact cF #[] t .nilIface h
  |jQ=>exact cF #[] t .jQ h
  |gY=>exact cF #[] t .gY h
  |agg d i=>exact cF #[] t (.agg d i) h
  |tuple d i=>exact cF #[] t (.tuple d i) h
  |junk L N=>exact kZ t _ _
  |same hb z=>exact kZ t _ _
 cases u<;>first|exact aU|exact g
def qY (t){x b y a}(c:bE Al π x b)(h:bE Al π y a):bR P Al F (VR Al) π (movedPointer t x y) (movedPointer t b a):=by
 have f:=cF (P:=P) (F:=F) #[] t c h;unfold movedPointer;cases c with
 |pointer g=>
  cases g with
  |none=>exact f
  |some e=>
   refine aR _ (xR e.1) ?_;intro j s k ok d i;cases i with
   |none=>exact cF #[] t (.pointer (.some (e.mono d))) (h.mono d)
   |some _=>exact aU
 |junk v l=>exact kZ t _ _
 |same hb z=>exact kZ t _ _
 |_=>exact f
def Ii (op:BinOp)(t){x G y z}(Q:(op= .eql\/op= .neq)->KL P Op.maxDepth t)(T:(F.cmp\/∀b,¬F b)\/(op≠.eql/\op≠.neq)\/Basic P t\/uP P t x y)(D:bE Al π x G)(m:bE Al π y z):bR P Al F (VR Al) π (binOp op t x y) (binOp op t G z):=by
 have f:op= .eql->bR P Al F (VR Al) π (do pure (.bool (<-Op.equal t x y))) (do pure (.bool (<-Op.equal t G z))):=λj=>by refine aR _ (DJ _ t (Q (by simp[j])) (T.imp id λh=>h.elim (λh=>absurd j h.1) id) D m) ?_;rintro i r _ ok C rfl;exact aS (.bool _)
 have e:op= .neq->bR P Al F (VR Al) π (do pure (.bool (!(<-Op.equal t x y)))) (do pure (.bool (!(<-Op.equal t G z)))):=λj=>by refine aR _ (DJ _ t (Q (by simp[j])) (T.imp id λh=>h.elim (λh=>absurd j h.2) id) D m) ?_;rintro i r _ ok C rfl;exact aS (.bool _)
 have X:=kA (P:=P) (F:=F) t D m;have W:=qY (P:=P) (F:=F) t D m;have M:=kA (P:=P) (F:=F) t m D;have both:∀{a w b J:Addr},bY π a w->bY π b J->∀(g:Addr->Addr->Sem zY),(∀(i:Rn)(c c' d I:Addr),Ok P i->bY i c c'->bY i d I->bR P Al F (VR Al) i (g c d) (g c' I))->
   bR P Al F (VR Al) π (do g (<-behindNumber a).1 (<-behindNumber b).1) (do g (<-behindNumber w).1 (<-behindNumber J).1):=by
  intro a w b J s l g N
  refine aR _ (fM s) ?_
  rintro i ⟨a,q⟩ ⟨w,_⟩ ok C ⟨s,rfl⟩
  refine aR _ (fM (l.mono C)) ?_
  rintro U ⟨b,q⟩ ⟨J,_⟩ ok K ⟨l,rfl⟩
  exact N U _ _ _ _ ok (s.mono K) l
 have one:∀{a w:Addr},bY π a w->∀(g:Addr->Sem zY),(∀(i:Rn)(c c':Addr),Ok P i->bY i c c'->bR P Al F (VR Al) i (g c) (g c'))->
   bR P Al F (VR Al) π (do g (<-behindNumber a).1) (do g (<-behindNumber w).1):=by
  intro a w s g N
  refine aR _ (fM s) ?_
  rintro i ⟨a,q⟩ ⟨w,_⟩ ok C ⟨s,rfl⟩
  exact N i _ _ ok s
 cases D with
 |int k a=>
  cases m with
  |int V b=>
   unfold binOp;cases op;all_goals
    dsimp only
    first
    |exact Ia _ _ _ _ _
    |(by_cases S:k≠V
      .rw[zAl S];exact aT
      .rw[zAj S];first|exact xV _ _ _ _|exact ZO _ _ _ _|exact DF _ _ _ _|exact ZP _ _ _)
  |pointer o=>
   cases op<;>first|exact f rfl|exact e rfl|exact M|skip
   all_goals
    cases o with
    |none=>exact aU
    |some l=>
     first
     |exact one l (λc=>Op.addrMod k c (a+1)) (λi c c' ok v=>tM _ v _)
     |exact aU
  |junk H B=>cases z<;>first|exact B.elim|(cases op<;>first|exact f rfl|exact e rfl|exact aT)
  |_=>cases op<;>first|exact f rfl|exact e rfl|exact aT
 |string a=>
  cases m with
  |string b=>have:=xN (P:=P) (Al:=Al) (F:=F) (π:=π) op a b;cases op<;>exact this
  |pointer o=>cases op<;>first|exact f rfl|exact e rfl|exact aU
  |junk H B=>cases z<;>first|exact B.elim|(cases op<;>first|exact f rfl|exact e rfl|exact aT)
  |_=>cases op<;>first|exact f rfl|exact e rfl|exact aT
 | @pointer p R o=>
  cases m with
  |int k n=>
   have E:bR P Al F (VR Al) π (do if(<-underlying t) matches .unsafePointer then movedPointer t (.pointer p) (.int k n)else movedNumber t (.pointer p) (.int k n)) (do if(<-underlying t) matches .unsafePointer then movedPointer t (.pointer R) (.int k n)else movedNumber t (.pointer R) (.int k n)):=by refine aR _ (bB t) ?_;rintro i u _ ok C ⟨rfl,_⟩;cases u<;>first|exact qY t (.pointer (o.mono C)) (.int k n)|exact kA t (.pointer (o.mono C)) (.int k n)
   cases op<;>first|exact f rfl|exact e rfl|exact E|exact kA t (.pointer o) (.int k (-n))|skip
   all_goals
    cases o with
    |none=>exact aU
    |some l=>
     first
     |exact one l (λc=>Op.addrMod k c n) (λi c c' ok v=>tM _ v _)
     |exact one l (λc=>Op.addrMod k c (n+1)) (λi c c' ok v=>tM _ v _)
     |exact aU
  |pointer L=>
   cases o with
   |none=>cases L<;>cases op<;>first|exact f rfl|exact e rfl|exact aU
   |some s=>
    cases L with
    |none=>cases op<;>first|exact f rfl|exact e rfl|exact aU
    |some l=>have Z:=both s l (λc d=>Op.addrSub aQ c d) (λi c c' d I ok v O=>TV _ v O);have Y:=both s l (λc d=>Op.addrCmp op c d) (λi c c' d I ok v O=>TW _ v O);cases op<;>first|exact f rfl|exact e rfl|exact Z|exact Y|exact aU
  |junk H B=>cases z<;>first|exact B.elim|(cases o<;>cases op<;>first|exact f rfl|exact e rfl|exact aU)
  |_=>cases o<;>cases op<;>first|exact f rfl|exact e rfl|exact aU
 |junk H B=>cases m;all_goals cases op<;>first|exact ZS (Q (by simp)) _ _ _|exact aT|exact aU
 |_=>
  cases m with
  |pointer L=>cases op<;>first|exact f rfl|exact e rfl|exact aU
  |junk H B=>cases z<;>first|exact B.elim|(cases op<;>first|exact f rfl|exact e rfl|exact aT)
  |_=>cases op<;>first|exact f rfl|exact e rfl|exact aT
end
section
variable {P:zZ}{Al:zF}{F:Kp}{π:Rn}{α β γ δ:Type}{A:Rn->α->β->Prop} [ok:Ok P π]
def Hy (op:UnOp){x a}(h:bE Al π x a):bR P Al F (VR Al) π (Op.unary op x) (Op.unary op a):=by
 cases h with
 |int k n=>
  cases op with
  |neg=>exact xV (π:=π) .sub k 0 n
  |xor=>exact DF (π:=π) .xor k (if k.signed then-1 else k.max) n
  |_=>exact aT
 |bool b=>cases op<;>first|exact aS (.bool _)|exact aT
 |pointer c=>cases c<;>cases op<;>first|exact aU|exact aT
 |_=>cases op<;>exact aT
def Ik (e:KR P){t:zD}(b:t<P.types.size):bR P Al F (VR Al) π (Instr.alloc t aE (.tuple #[])) (Instr.alloc t aE (.tuple #[])):=by refine aR _ (gH e b) ?_;intro g z i ok j h;refine aR _ (wP h t) ?_;intro f a k ok c d;exact aS (.pointer (.some d))
def Vd (t){x b}(h:bE Al π x b):bR P Al F (VR Al) π (Instr.box t x) (Instr.box t b):=by refine aR _ (wP h t) ?_;intro e a f ok c d;exact aS (.pointer (.some d))
def wJ (Al:zF)(π:Rn):List (Nat×zY)->List (Nat×zY)->Prop
 |[],[]=>True
 |x::l,a::b=>a.1=x.1/\bE Al π x.2 a.2/\wJ Al π l b
 |_,_=>False
omit ok in
def wJ.mono {ρ:Rn}(h:∀b b',π b b'->ρ b b'):∀{l a:List (Nat×zY)},wJ Al π l a->wJ Al ρ l a
 |[],[],_=>trivial
 |_::_,_::_,⟨e,d,c⟩=>⟨e,d.mono h,wJ.mono h c⟩
omit ok in
def Ra (off):∀(l a:List (zY×Nat)){c c'},a.map (·.2)=l.map (·.2)->aY Al π (l.map (·.1)).toArray (a.map (·.1)).toArray->aY Al π c c'->
  aY Al π (l.foldl (λcs x=>cs.setIfInBounds (off+x.2) x.1) c) (a.foldl (λcs x=>cs.setIfInBounds (off+x.2) x.1) c'):=by
 intro l;induction l with
 |nil=>intro a c c' h d b;cases a with
  |nil=>exact b
  |cons _ _=>simp at h
 |cons x l i=>
  intro a c c' h d b;cases a with
  |nil=>simp at h
  |cons g a=>simp only[zEa,List.cons.injEq]at h;simp only[zEa]at d;obtain⟨f,e⟩:=cD d;simp only[zFd];rw[h.1];exact i a h.2 e (b.set f _)
omit ok in
def JM (place:Nat->Option (Nat×Nat)):∀(l b){c c'},wJ Al π l b->aY Al π c c'->
  (Instr.fill place c l=aB/\Instr.fill place c' b=aB)\/∃d m,Instr.fill place c l=aA d/\Instr.fill place c' b=aA m/\aY Al π d m:=by
 intro l;induction l with
 |nil=>intro b c c' h e;cases b with
  |nil=>exact aH ⟨c,c',rfl,rfl,e⟩
  |cons _ _=>exact h.elim
 |cons x l q=>
  intro b c c' h e;cases b with
  |nil=>exact h.elim
  |cons n b=>
   obtain⟨i,v⟩:=x;obtain⟨r,o⟩:=n;obtain⟨j,g,s⟩:=h;simp only at j g;subst j;unfold Instr.fill;cases place r with
   |none=>exact aG ⟨rfl,rfl⟩
   |some p=>obtain⟨off,size⟩:=p;dsimp only;have f:=g.cells;rw[f.size,e.size];split;{exact aG ⟨rfl,rfl⟩};{refine q b s ?_;rw[<-aGb,<-aGb,aGc,aGc];have k:∀(a:zA),a.toList.zipIdx.map (·.1)=a.toList:=λa=>by{simp};have:=Ra off v.cells.toList.zipIdx o.cells.toList.zipIdx (by simp[List.zipIdx_map_snd,f.size]) (by rw[k,k,toArray_toList,toArray_toList];exact f) e;exact this}
def ZR (fs:Array Field):bR P Al F ER π (fs.mapM λf=>do pure (f.offset,<-sizeOf f.type)) (fs.mapM λf=>do pure (f.offset,<-sizeOf f.type)):=by
 rw[zFj];refine aR ER ?_ ?_
 .induction fs.toList generalizing π with
  |nil=>exact aS rfl
  |cons f l i=>rw[List.mapM_cons];refine aR ER ?_ ?_;{refine aR _ (cA _) ?_;rintro a n _ ok h rfl;exact aS rfl};{rintro a x _ ok h rfl;refine aR ER i ?_;rintro b x _ ok h rfl;exact aS rfl}
 .rintro a x _ ok h rfl;exact aS rfl
def Ih (q:KR P){t:zD}(m:t<P.types.size){k p}(h:wJ Al π k.toList p.toList):bR P Al F (VR Al) π (Instr.build t k) (Instr.build t p):=by
 refine aR _ (gH q m) ?_;intro w z x ok o j;refine aR _ (bB t) ?_;rintro v u _ ok c ⟨rfl,_⟩;replace j:=j.mono c;replace h:=(h.mono o).mono c;cases u with
 |struct r=>refine aR _ (ZR r) ?_;rintro l places _ ok a rfl;obtain⟨b,g⟩|⟨d,s,b,g,f⟩:=JM (places[·]?) _ _ (h.mono a) (j.mono a).cells;{rw[b];exact aT};{rw[b,g];exact aS (.agg f.size f.at')}
 |array n e=>refine aR _ (cA e) ?_;rintro l size _ ok a rfl;obtain⟨b,g⟩|⟨d,s,b,g,f⟩:=JM (λi=>aA (i*size,size)) _ _ (h.mono a) (j.mono a).cells;{rw[b];exact aT};{rw[b,g];exact aS (.agg f.size f.at')}
 |_=>exact aT
omit ok in
def AW {c c'}(h:aY Al π c c')(n):aY Al π ((aGd n).map (c[·%c.size]!)) ((aGd n).map (c'[·%c'.size]!)):=by
 refine⟨by simp,λi a b j g=> ?_⟩;rw[zCj]at j g;obtain⟨x,k,rfl⟩:=zBp.1 j;obtain⟨y,f,rfl⟩:=zBp.1 g;rw[k]at f;cases f;rw[h.size];obtain⟨d,e⟩|⟨v,m,d,e,l⟩:=h.get (x%c.size)
 .simp only[getElem!_def,d,e];exact .bool aF
 .simp only[getElem!_def,d,e];exact l
def GO (o:KR P){t:zD}(r:t<P.types.size)(len){j p}(h:wJ Al π j.toList p.toList):bR P Al F (VR Al) π (Instr.buildSlice t len j) (Instr.buildSlice t len p):=by
 refine aR _ (bB t) ?_;rintro D u _ ok v ⟨rfl,hu⟩;cases u with
 |slice e=>
  refine aR _ (cA e) ?_;rintro n size _ ok l rfl;by_cases hl:len*size>2^24;{rw[zAl hl];exact aU}
  .rw[zAj hl,zAj hl];have tail:∀(b:Rn)(z f:zA),Ok P b->(∀x y,n x y->b x y)->aY Al b z f->
     bR P Al F (VR Al) b (do
      let aA cells:=Instr.fill (λi=>aA (i*size,size)) ((aGd (len*size)).map (z[·%z.size]!)) j.toList|stuck "buildSlice: a part of the wrong size"
      pure (.slice (aA (<-newRow e cells)) len len)) (do
      let aA cells:=Instr.fill (λi=>aA (i*size,size)) ((aGd (len*size)).map (f[·%f.size]!)) p.toList|stuck "buildSlice: a part of the wrong size"
      pure (.slice (aA (<-newRow e cells)) len len)):=by
    intro b z f ok c k
    obtain⟨m,q⟩|⟨d,E,m,q,B⟩:=JM (λi=>aA (i*size,size)) _ _ (((h.mono v).mono l).mono c) (AW k (len*size))
    .rw[m];exact aT
    .rw[m,q];refine aR _ (lR B e) ?_;intro C a G ok s w;exact aS (.slice (.some w) _ _)
   by_cases g:len*size=0;{rw[zAl g,zAl g];exact tail n #[] #[] ok (λ_ _ x=>x) .nil};{rw[zAj g,zAj g];refine aR _ (gH o (o.slice t e r hu)) ?_;intro b z f ok c k;exact tail b _ _ ok c k.cells}
 |_=>exact aT
end
section
variable {P:zZ}{Al:zF}{F:Kp}{π:Rn}{α β γ δ:Type}{A:Rn->α->β->Prop} [ok:Ok P π]
def LA (r:KR P){t:zD}(C:t<P.types.size){x p y o}(B:bE Al π x p)(w:bE Al π y o):bR P Al F (VR Al) π (Instr.makeSlice t x y) (Instr.makeSlice t p o):=by
 refine aR _ (bB t) ?_;rintro M u _ ok q ⟨rfl,hu⟩;cases u with
 |slice e=>
  refine aR _ (nY (B.mono q)) ?_;rintro L n _ ok j rfl;refine aR _ (nY ((w.mono q).mono j)) ?_;rintro K m _ ok H rfl;refine aR _ (eW e) ?_;rintro J i _ ok G ⟨rfl,_⟩;dsimp only;have b:∀(d:Rn)(k:Nat)(z f:zA),Ok P d->aY Al d z f->bR P Al F (VR Al) d
    (do let a<-newRow e ((aGd k).map (z[·%z.size]!));pure (.slice (aA a) (IntKind.i64.wrap n).toNat (IntKind.i64.wrap m).toNat))
    (do let a<-newRow e ((aGd k).map (f[·%f.size]!));pure (.slice (aA a) (IntKind.i64.wrap n).toNat (IntKind.i64.wrap m).toNat)):=by
   intro d k z f ok g
   refine aR _ (lR (AW g k) e) ?_
   intro l a N ok h I
   exact aS (.slice (.some I) _ _)
  split
  .split
   .exact dG _
   .split
    .exact dG _
    .refine aR _ (gI _) ?_;rintro d c _ ok h rfl;exact dG _
  .refine aR _ (tL _) ?_;rintro d _ _ ok h rfl;refine aR _ (cA e) ?_;rintro l size _ ok E rfl;by_cases s:(IntKind.i64.wrap m).toNat*size=0
   .simp only[zAl s];exact b l _ #[] #[] ok .nil
   .simp only[zAj s];refine aR _ (gH r (r.slice t e C hu)) ?_;intro v z f ok D g;exact b v _ _ _ ok g.cells
 |_=>exact aT
def xT (t){x a}(h:bE Al π x a):bR P Al F (VR Al) π (Instr.makeInterface t x) (Instr.makeInterface t a):=by refine aR _ (bB t) ?_;rintro c u _ ok b ⟨rfl,_⟩;cases u<;>first|exact aT|exact aS (.iface _ (h.mono b))
def TQ {x a}(h:bE Al π x a)(i):bR P Al F (VR Al) π (Instr.extract x i) (Instr.extract a i):=by
 cases h with
 |tuple d c=>unfold Instr.extract;dsimp only;obtain⟨e,b⟩|⟨v,g,e,b,f⟩:=(aY.mk d c).get i;{rw[e];exact aT};{rw[e,b];exact aS f}
 |_=>exact aT
inductive lO (Al:zF)(π:Rn):Option zY->Option zY->Prop
 |none:lO Al π aB aB
 |some {x x':zY} (h:bE Al π x x'):lO Al π (aA x) (aA x')
omit ok in
def lO.mono {ρ}(h:∀b b',π b b'->ρ b b'){x a}(k:lO Al π x a):lO Al ρ x a:=by
 cases k with
 |none=>exact .none
 |some k=>exact .some (k.mono h)
def gM {x a}(h:bE Al π x a)(n)(c:BoundsCode):bR P Al F ER π (Instr.sliceBound x n c) (Instr.sliceBound a n c):=by
 refine aR _ (mM h) ?_;rintro b ⟨k,i⟩ _ ok d rfl;dsimp only;split
 .exact aS rfl
 .exact fC _ _ _ _
def jZ (b)(len cap){l o h q m j}(hl:lO Al π l o)(hh:lO Al π h q)(s:lO Al π m j):
  bR P Al F ER π (Instr.sliceBounds b len cap l h m) (Instr.sliceBounds b len cap o q j):=by
 cases s with
 |none=>
  cases hh with
  |none=>
   cases hl with
   |none=>exact aS rfl
   |some d=>refine aR ER (aS rfl) ?_;rintro i k _ ok a rfl;refine aR ER (aS rfl) ?_;rintro f p _ ok c rfl;refine aR _ (gM ((d.mono a).mono c) _ _) ?_;rintro g n _ ok e rfl;exact aS rfl
  |some hw=>
   refine aR ER (aS rfl) ?_;rintro f p _ ok a rfl;refine aR _ (gM (hw.mono a) _ _) ?_;rintro i k _ ok c rfl;cases hl with
   |none=>exact aS rfl
   |some d=>refine aR _ (gM ((d.mono a).mono c) _ _) ?_;rintro g n _ ok e rfl;exact aS rfl
 |some r=>
  refine aR _ (gM r _ _) ?_;rintro f p _ ok a rfl;cases hh with
  |none=>exact aT
  |some hw=>
   refine aR _ (gM (hw.mono a) _ _) ?_;rintro i k _ ok c rfl;cases hl with
   |none=>exact aS rfl
   |some d=>refine aR _ (gM ((d.mono a).mono c) _ _) ?_;rintro g n _ ok e rfl;exact aS rfl
def fY {x d}(h:bE Al π x d)(c:BoundsCode):bR P Al F (λ_ a b=>a=0/\b=0) π (Instr.sliceBound x 0 c) (Instr.sliceBound d 0 c):=by
 refine aR _ (mM h) ?_;rintro e ⟨k,i⟩ _ ok f rfl;dsimp only;split
 .exact aS ⟨by omega,by omega⟩
 .exact fC _ _ _ _
def BG {l n h o m k}(hl:lO Al π l n)(hh:lO Al π h o)(s:lO Al π m k):
  bR P Al F (λ_ p q=>q=p/\p.1=0/\p.2.1=0/\p.2.2=0) π (Instr.sliceBounds aE 0 0 l h m) (Instr.sliceBounds aE 0 0 n o k):=by
 cases s with
 |none=>
  cases hh with
  |none=>
   refine aR (λ_ a b=>a=0/\b=0) (aS ⟨rfl,rfl⟩) ?_;rintro j _ _ ok d ⟨rfl,rfl⟩;refine aR (λ_ a b=>a=0/\b=0) (aS ⟨rfl,rfl⟩) ?_;rintro i _ _ ok c ⟨rfl,rfl⟩;cases hl with
   |none=>exact aS ⟨rfl,rfl,rfl,rfl⟩
   |some e=>refine aR _ (fY ((e.mono d).mono c) _) ?_;rintro g _ _ ok f ⟨rfl,rfl⟩;exact aS ⟨rfl,rfl,rfl,rfl⟩
  |some hw=>
   refine aR (λ_ a b=>a=0/\b=0) (aS ⟨rfl,rfl⟩) ?_;rintro j _ _ ok d ⟨rfl,rfl⟩;refine aR _ (fY (hw.mono d) _) ?_;rintro i _ _ ok c ⟨rfl,rfl⟩;cases hl with
   |none=>exact aS ⟨rfl,rfl,rfl,rfl⟩
   |some e=>refine aR _ (fY ((e.mono d).mono c) _) ?_;rintro g _ _ ok f ⟨rfl,rfl⟩;exact aS ⟨rfl,rfl,rfl,rfl⟩
 |some r=>
  refine aR _ (fY r _) ?_;rintro j _ _ ok d ⟨rfl,rfl⟩;cases hh with
  |none=>exact aT
  |some hw=>
   refine aR _ (fY (hw.mono d) _) ?_;rintro i _ _ ok c ⟨rfl,rfl⟩;cases hl with
   |none=>exact aS ⟨rfl,rfl,rfl,rfl⟩
   |some e=>refine aR _ (fY ((e.mono d).mono c) _) ?_;rintro g _ _ ok f ⟨rfl,rfl⟩;exact aS ⟨rfl,rfl,rfl,rfl⟩
def Hz (t){x B}(g:bE Al π x B){l C h D m q}(hl:lO Al π l C)(hh:lO Al π h D)(i:lO Al π m q):
  bR P Al F (VR Al) π (Instr.slice t x l h m) (Instr.slice t B C D q):=by
 have w:q.isSome=m.isSome:=by cases i<;>rfl
 refine aR _ (bB t) ?_;rintro K u _ ok o ⟨rfl,_⟩;replace g:=g.mono o;replace hl:=hl.mono o;replace hh:=hh.mono o;replace i:=i.mono o;cases u with
 |string=>
  cases g with
  |string s=>dsimp only;rw[w];split;{exact aT};{refine aR _ (jZ aF _ _ hl hh .none) ?_;rintro p ⟨a,b,c⟩ _ ok f rfl;exact aS (.string _)}
  |_=>exact aT
 |slice e=>
  cases g with
  |slice G n c=>
   refine aR _ (jZ aE _ _ hl hh i) ?_;rintro p ⟨a,b,c⟩ _ ok f rfl;refine aR _ (cA e) ?_;rintro z size _ ok d rfl;refine aS (.slice ?_ _ _);have j:=(G.mono f).mono d;split;{exact j}
   .cases j with
    |none=>exact .none
    |some y=>exact .some (y.add _)
  |void H a0=>refine aR _ (BG hl hh i) ?_;rintro p ⟨a,b,c⟩ _ ok f ⟨rfl,E⟩;refine aR _ (cA e) ?_;rintro z size _ ok d rfl;obtain⟨rfl,rfl,rfl⟩:=E;exact aS (.void H a0)
  |_=>exact aT
 |pointer arr=>
  refine aR _ (GQ g) ?_;intro p a N ok f y;refine aR _ (bB arr) ?_;rintro z u _ ok d ⟨rfl,_⟩;cases u with
  |array n e=>refine aR _ (jZ aF _ _ ((hl.mono f).mono d) ((hh.mono f).mono d) ((i.mono f).mono d)) ?_;rintro J ⟨L,M,m1⟩ _ ok v rfl;refine aR _ (cA e) ?_;rintro I size _ ok r rfl;refine aS (.slice ?_ _ _);have k:=((y.mono d).mono v).mono r;split;{exact .some k};{exact .some (k.add _)}
  |_=>exact aT
 |_=>cases g<;>exact aT
def TH (t){x i}(o:bE Al π x i){l k h q m j}(hl:lO Al π l k)(hh:lO Al π h q)(p:lO Al π m j):
  bR P Al F (VR Al) π (Instr.sliceAt t x l h m) (Instr.sliceAt t i k q j):=by
 refine aR _ (bB t) ?_;rintro y u _ ok b ⟨rfl,_⟩;cases u with
 |array n e=>refine aR _ (lA (o.mono b)) ?_;intro w a C ok c r;refine aR _ (jZ aF _ _ ((hl.mono b).mono c) ((hh.mono b).mono c) ((p.mono b).mono c)) ?_;rintro v ⟨z,B,m1⟩ _ ok g rfl;refine aR _ (cA e) ?_;rintro s size _ ok f rfl;refine aS (.slice ?_ _ _);have d:=(r.mono g).mono f;split;{exact .some d};{exact .some (d.add _)}
 |_=>exact Hz t (o.mono b) (hl.mono b) (hh.mono b) (p.mono b)
def ZL {a a'}(e:bY π a a')(n m):bR P Al F AR π (partAt a n m) (partAt a' n m):=by
 refine aR _ (fR e) ?_;rintro g b _ ok i rfl;have f:bY g {block:=a.block,off:=a.off+n} {block:=a'.block,off:=a'.off+n}:=⟨i _ _ e.1,by simp[e.2.1],rfl⟩;refine aR _ (fR f) ?_;rintro j c _ ok d rfl;refine aS ?_;have h:=f.mono d;split
 .exact h
 .exact⟨h.1,h.2.1,rfl⟩
def TP (t){x c}(g:bE Al π x c)(i):bR P Al F (VR Al) π (Instr.fieldAt t x i) (Instr.fieldAt t c i):=by
 refine aR _ (bB t) ?_;rintro p u _ ok k ⟨rfl,_⟩;cases u with
 |struct m=>
  dsimp only;cases m[i]? with
  |none=>exact aT
  |some f=>
   refine aR _ (lA (g.mono k)) ?_;intro o a r ok j d;refine aR AR ?_ ?_
   .unfold fieldPlace;refine aR _ (cA f.type) ?_;rintro e n _ ok h rfl;split
    .exact ZL (d.mono h) _ _
    .exact aS ((d.mono h).add _)
   .intro e b q ok h l;exact aS (.pointer (.some l))
 |_=>exact aT
def Ie (t){x a}(h:bE Al π x a)(i):bR P Al F (VR Al) π (Instr.field t x i) (Instr.field t a i):=by
 refine aR _ (bB t) ?_;rintro k u _ ok d ⟨rfl,_⟩;cases u with
 |struct g=>
  dsimp only;cases g[i]? with
  |none=>exact aT
  |some f=>refine aR _ (Ij (h.mono d)) ?_;intro j c c' ok b e;exact jT e _ _
 |_=>exact aT
def TN (t){x s y r}(h:bE Al π x s)(v:bE Al π y r):bR P Al F (VR Al) π (Instr.indexAt t x y) (Instr.indexAt t s r):=by
 refine aR _ (mM v) ?_;rintro C ⟨k,i⟩ _ ok w rfl;replace h:=h.mono w;have tail:∀(f:Rn)(base b:zO)(len:Nat)(e:zD),Ok P f->(xA f base b\/len=0/\∃a q,base=aA a/\b=aA q)->bR P Al F (VR Al) f
   (do
    let d:=len<=1&&(match<-underlying t with| .array .. =>aE|_=>aF)
    match base with
    |some a=>
     if 0<=i/\i<len then pure (.pointer (aA (a.add (i.toNat*(<-sizeOf e)))))
     else if d then unsupported (.noEntry "op/indexAddr.an index out of range at an array of length 0 or 1 (ledger 616)")
     else boundsPanic k i len .index
    |none=>boundsPanic k i 0 .index)
   (do
    let d:=len<=1&&(match<-underlying t with| .array .. =>aE|_=>aF)
    match b with
    |some a=>
     if 0<=i/\i<len then pure (.pointer (aA (a.add (i.toNat*(<-sizeOf e)))))
     else if d then unsupported (.noEntry "op/indexAddr.an index out of range at an array of length 0 or 1 (ledger 616)")
     else boundsPanic k i len .index
    |none=>boundsPanic k i 0 .index):=by
  intro f base b len e ok o
  refine aR _ (bB t) ?_
  rintro m u _ ok g ⟨rfl,_⟩
  obtain o|⟨rfl,a,q,rfl,rfl⟩:=o
  rotate_left
  .have l:¬(0<=i/\i<((0:Nat):Int)):=by{omega};simp only[zAj l];cases u<;>dsimp only<;>(split<;>first|exact aU|exact fC (π:=m) k i 0 .index)
  cases o with
  |none=>exact fC _ _ _ _
  |some p=>dsimp only;by_cases l:0<=i/\i<(len:Int);{rw[zAl l,zAl l];refine aR _ (cA e) ?_;rintro B n _ ok j rfl;exact aS (.pointer (.some (((p.mono g).mono j).add _)))};{simp only[zAj l];cases u<;>dsimp only<;>(split<;>first|exact aU|exact fC (π:=m) k i len .index)}
 refine aR _ (bB t) ?_;rintro f u _ ok g ⟨rfl,_⟩;replace h:=h.mono g;cases u with
 |array len e=>refine aR _ (lA h) ?_;intro m a q ok j p;exact tail m _ _ len e ok (aG (.some p))
 |slice e=>
  cases h with
  |slice z n c=>exact tail f _ _ n e ok (aG z)
  |void D a0=>exact tail f _ _ 0 e ok (aH ⟨rfl,_,_,rfl,rfl⟩)
  |_=>exact aT
 |_=>cases h<;>exact aT
def Ic (t){x g y f}(h:bE Al π x g)(j:bE Al π y f):bR P Al F (VR Al) π (Instr.index t x y) (Instr.index t g f):=by
 refine aR _ (mM j) ?_;rintro r ⟨k,i⟩ _ ok l rfl;replace h:=h.mono l;refine aR _ (bB t) ?_;rintro q u _ ok d ⟨rfl,_⟩;replace h:=h.mono d;cases u with
 |array len e=>
  cases h with
  |agg o m=>dsimp only;by_cases a:0<=i/\i<(len:Int);{rw[zAl a,zAl a];refine aR _ (cA e) ?_;rintro p n _ ok c rfl;exact jT ((aY.mk o m).mono c) _ _};{rw[zAj a,zAj a];exact fC _ _ _ _}
  |_=>exact aT
 |string=>
  cases h with
  |string s=>
   dsimp only;cases(if 0<=i then s[i.toNat]? else aB)with
   |none=>exact fC _ _ _ _
   |some b=>exact aS (.int _ _)
  |_=>exact aT
 |_=>cases h<;>exact aT
end
section
variable {P:zZ}{Al:zF}{F:Kp}{π:Rn}{α β γ δ:Type}{A:Rn->α->β->Prop} [ok:Ok P π]
def pP (hF:∀b,¬F b){a a'}(h:bY π a a'):bR P Al F ER π (markStringish a) (markStringish a'):=by
 refine aR _ (fZ h.1) ?_;rintro c s _ ok d rfl;cases s with
 |none=>exact aS rfl
 |some x=>exact ZQ hF (show bY c ⟨a.block,x.2,aB⟩ ⟨a'.block,x.2,aB⟩from⟨d _ _ h.1,rfl,rfl⟩) _
omit ok in
def KC (d:Array UInt8):aY Al π (d.map λb=>(.int aP b.toNat:zY)) (d.map λb=>(.int aP b.toNat:zY)):=by refine⟨rfl,λi v c a h=> ?_⟩;rw[a]at h;cases h;rw[zCj]at a;obtain⟨x,_,rfl⟩:=zBp.1 a;exact .int _ _
def xM (hF:(∀b,¬F b)\/¬F.cmp)(e)(s):bR P Al F (VR Al) π (Conv.stringToBytes e s) (Conv.stringToBytes e s):=by
 refine aR _ (gI _) ?_;rintro g n _ ok m rfl;obtain hF|hC:=hF;rotate_left
 .have:=bR.marked (P:=P) (Al:=Al) (π:=g) (ty:=e) (k':=λr=>Sem.pure (Value.slice (aA ⟨r,0,aB⟩) s.size n)) hC ((KC s.data).append (aY.replicate (.int aP 0) (n-s.size))) λc r i o d j=> .pure (show bE Al c _ _ from bE.slice (.some (show bY c ⟨r,0,aB⟩ ⟨i,0,aB⟩from⟨j,rfl,rfl⟩)) _ _);exact this
 refine aR _ (lR ((KC s.data).append (aY.replicate (.int aP 0) _)) e) ?_;intro c a p ok d f;refine aR _ (pP hF f) ?_;rintro k _ _ ok h rfl;exact aS (.slice (.some (f.mono h)) _ _)
def xX {x g}(o:bE Al π x g):bR P Al F (VR Al) π (Conv.bytesToString x) (Conv.bytesToString g):=by
 cases o with
 |slice p n c=>
  cases p with
  |none=>exact aS (.string _)
  |some f=>
   refine aR _ (qG f n) ?_;intro r c c' ok t j;refine aR ER ?_ ?_
   .rw[<-zFb,<-zFb];refine iR (λ_ _ _ _ _ h=>h) c.toList c'.toList (VR Al) (λ_ _ _ _ h k=>k.mono h) (by simp[j.size]) (λi a b f q=>j.at' i a b (by simpa using f) (by simpa using q)) _ _ _ _ rfl ?_;rintro l a b s _ ok d e rfl;cases e with
    |int k m=>cases k<;>first|exact aT|exact aS (aG ⟨_,_,rfl,rfl,rfl⟩)
    |_=>exact aT
   .rintro l s _ ok d rfl;exact aS (.string _)
 |void u a0=>exact aS (.string _)
 |_=>exact aT
def GH {a a'}(h:bY π a a'):bR P Al F AR π (Conv.seenAt a) (Conv.seenAt a'):=by
 refine aR _ (rP h.1) ?_;intro n s o ok i g;cases g with
 |none=>exact aS (h.mono i)
 | @some b t u hb=>
  dsimp only;rw[h.2.1,h.2.2,hb.2.2];split;{exact aS hb}
  .split
   .exact aU
   .refine dU (λr _=>by simp only[jS,tH];rfl) ?_;rintro m p q ok d ⟨k,j⟩;rw[k,j];cases byteOfCell P P.depth u a.off with
    |none=>exact aU
    |some β=>
     refine aR _ (fZ (d _ _ hb.1)) ?_;rintro l s _ ok f rfl;cases s with
     |none=>exact aU
     |some z=>
      obtain⟨e,cells⟩:=z;dsimp only;split;{exact aU}
      .rw[hb.2.1];cases cellAtBytes P P.depth e (cells/P.cellsOf e) b.off β with
       |none=>exact aU
       |some c=>exact aS ⟨f _ _ (d _ _ hb.1),rfl,rfl⟩
def TT {r r'}(h:π r r'):bR P Al F ER π (cellsIn r) (cellsIn r'):=by
 refine aR _ (fZ h) ?_;rintro e s _ ok c rfl;cases s with
 |some z=>exact aS rfl
 |none=>refine .getObj (c _ _ h) ?_;rintro o g (⟨b,a⟩|⟨x,f,b,a,d⟩);{rw[a];cases o<;>exact .pure rfl};{cases b;cases a;cases d<;>exact .pure rfl}
def sS {a a'}(h:bY π a a')(u)(n):bR P Al F ER π (variablesAt a u n) (variablesAt a' u n):=by
 refine dU (λi _=>by simp only[ML];rfl) ?_;rintro g p q ok b ⟨e,d⟩;rw[e,d];refine aR _ (fZ (b _ _ h.1)) ?_;rintro f s _ ok c rfl;rw[h.2.1];cases s with
 |none=>exact aS rfl
 |some z=>exact aS rfl
def pO {src dst}(O:∀e,(P.underlying src=aA (.pointer e)\/P.underlying dst=aA (.pointer e))->kE P e){x N}(d:bE Al π x N):
  bR P Al F (VR Al) π (Conv.unsafePointer src dst x) (Conv.unsafePointer src dst N):=by
 refine aR _ (bB src) ?_;rintro ρ u1 _ ok V ⟨rfl,Y⟩;refine aR _ (bB dst) ?_;rintro σ u2 _ ok I ⟨rfl,X⟩;replace d:=(d.mono V).mono I;cases u1 with
 |pointer t=>
  cases u2 with
  |unsafePointer=>
   cases d with
   |pointer f=>
    cases f with
    |none=>exact aS (.pointer .none)
    |some l=>
     refine aR _ (GH l) ?_;intro S s T ok H g;refine aR _ (TT g.1) ?_;rintro R c _ ok i rfl;rw[g.2.1,g.2.2];refine aR _ (cA t) ?_;rintro M n _ ok o rfl;have j:=(g.mono i).mono o;have k1:bR P Al F (VR Al) M (do pure (.pointer (aA ⟨<-newObj (.view s t),0,aB⟩))) (do pure (.pointer (aA ⟨<-newObj (.view T t),0,aB⟩))):=
      .view (.view j t (O t (aG Y))) λC r U _ _ J=> .pure (.pointer (.some ⟨J,rfl,rfl⟩))
     cases c<;>dsimp only<;>split<;>first|exact k1|exact aS (.pointer (.some j))
   |_=>exact aT
  |_=>cases d<;>exact aT
 |unsafePointer=>
  cases u2 with
  |pointer u=>
   cases d with
   |pointer f=>
    cases f with
    |none=>exact aS (.pointer .none)
    |some l=>
     refine aR _ (GH l) ?_;intro S a Z ok H l;refine aR _ (cA u) ?_;rintro R n _ ok i rfl;refine aR _ (sS (l.mono i) u 1) ?_;rintro M b _ ok o rfl;have v:=(l.mono i).mono o;split;{exact aS (.pointer (.some v))}
     .refine aR _ (fZ v.1) ?_;rintro C s _ ok G rfl;have fin:∀(w:Rn),Ok P w->(∀x y,C x y->w x y)->bR P Al F (VR Al) w (do pure (.pointer (aA ⟨<-newObj (.view a u),0,aB⟩))) (do pure (.pointer (aA ⟨<-newObj (.view Z u),0,aB⟩))):=λw _ h=>
       .view (.view ((v.mono G).mono h) u (O u (aH X))) λC r U _ _ J=> .pure (.pointer (.some ⟨J,rfl,rfl⟩))
      cases s with
      |none=>exact aU
      |some z=>refine dU (λfs _=>by simp only[sQ]) ?_;rintro w p q ok E ⟨f,W⟩;rw[f,W];refine dU (λ_ _=>rfl) ?_;rintro B p' q' ok D ⟨L,K⟩;rw[L,K];split;{exact aU};{exact fin B ok λx y h=>D _ _ (E _ _ h)}
   |_=>exact aT
  |unsafePointer=>
   cases d with
   |pointer f=>exact aS (.pointer f)
   |_=>exact aT
  |int k=>
   cases d with
   |pointer f=>
    cases f with
    |none=>exact aS (.int _ _)
    |some l=>exact xY l _
   |_=>exact aT
  |_=>cases d<;>exact aT
 |int k=>
  cases u2 with
  |unsafePointer=>
   cases d with
   |int k n=>
    by_cases Q:n=0;{subst Q;exact aU}
    .cases n with
     |ofNat m=>cases m with
      |zero=>exact absurd rfl Q
      |succ m=>exact aU
     |negSucc m=>exact aU
   |pointer f=>cases f<;>first|exact aU|exact aT
   |_=>exact aT
  |_=>cases d<;>exact aT
 |_=>cases u2<;>cases d<;>exact aT
end
def wY {P}(src dst)(z):nK P (Conv.unsafePointer src dst (.func (.method "") #[.iface 1000000 .nilIface] #[z])):=by refine uI λa=>uI λb=> ?_;cases a<;>cases b<;>exact pA
def RD {P}(src dst)(z):nK P (convert src dst (.func (.method "") #[.iface 1000000 .nilIface] #[z])):=by
 refine uI λa=>uI λb=> ?_;cases a<;>cases b<;>first|exact sF|exact wY src dst z|skip
 all_goals
  refine uI λc=> ?_
  cases c<;>first|exact pA|(rename_i k;cases k<;>exact pA)
section
variable {P:zZ}{Al:zF}{F:Kp}{π:Rn}{α β γ δ:Type}{A:Rn->α->β->Prop} [ok:Ok P π]
structure Du (P:zZ)(F:Kp)(src dst:zD):Prop where
 ptr:∀e,(P.underlying src=aA (.pointer e)\/P.underlying dst=aA (.pointer e))->kE P e
 mark:(∃e,P.underlying dst=aA (.slice e))->(∀b,¬F b)\/(¬F.cmp/\∀e,P.underlying src≠aA (.slice e))
 float:∀k,P.underlying dst≠aA (.float k)
 complex:∀k,P.underlying dst≠aA (.complex k)
 jg:∀e e',P.underlying src=aA (.slice e)->P.underlying dst=aA (.slice e')->False
 rune:∀e,(P.underlying src=aA (.slice e)\/P.underlying dst=aA (.slice e))->P.underlying e≠aA (.int .i32)
def TS {src dst}(i:Du P F src dst){x l}(f:bE Al π x l):bR P Al F (VR Al) π (convert src dst x) (convert src dst l):=by
 by_cases b:∃z,x=(.func (.method "") #[.iface 1000000 .nilIface] #[z])
 .obtain⟨z,rfl⟩:=b;exact .dead (RD src dst z)
 have a:=pO (F:=F) i.ptr f;refine aR _ (bB src) ?_;rintro I u1 _ ok E ⟨rfl,w⟩;refine aR _ (bB dst) ?_;rintro B u2 _ ok q ⟨rfl,j⟩;replace f:=(f.mono E).mono q;replace a:=pO (F:=F) i.ptr f;have C:∀e,u1= .slice e->bR P Al F (VR Al) B (do match<-underlying e with| .int aP=>Conv.bytesToString x| .int .i32=>Conv.runesToString x|_=>stuck "Convert: a slice of what to string?") (do match<-underlying e with| .int aP=>Conv.bytesToString l| .int .i32=>Conv.runesToString l|_=>stuck "Convert: a slice of what to string?"):=by
  intro e r;subst r;refine aR _ (bB e) ?_;rintro y u _ ok d ⟨rfl,m⟩;cases u with
  |int k=>cases k<;>first|exact aT|exact xX (f.mono d)|exact absurd m (i.rune e (aG w))
  |_=>exact aT
 have o:∀e s,u2= .slice e->bR P Al F (VR Al) B (do match<-underlying e with| .int aP=>Conv.stringToBytes e s| .int .i32=>Conv.stringToRunes e s|_=>stuck "Convert: string to a slice of what?") (do match<-underlying e with| .int aP=>Conv.stringToBytes e s| .int .i32=>Conv.stringToRunes e s|_=>stuck "Convert: string to a slice of what?"):=by
  intro e s r;subst r;refine aR _ (bB e) ?_;rintro y u _ ok d ⟨rfl,m⟩;cases u with
  |int k=>cases k<;>first|exact aT|exact xM ((i.mark ⟨e,j⟩).imp id And.left) e s|exact absurd m (i.rune e (aH j))
  |_=>exact aT
 cases u2 with
 |float k=>exact absurd j (i.float k)
 |complex k=>exact absurd j (i.complex k)
 |int k=>
  cases f with
  |int D n=>exact aS (.int _ _)
  |pointer g=>
   cases g with
   |none=>cases u1<;>first|exact a|exact aU
   |some t=>cases u1<;>first|exact a|exact aU
  |junk v _=>exact absurd ⟨_,rfl⟩ b
  |same _ z=>exact absurd ⟨z,rfl⟩ b
  |_=>cases u1<;>first|exact a|exact aU
 |string=>
  cases f with
  |int D n=>exact aS (.string _)
  |string s=>exact aS (.string s)
  |pointer g=>cases g<;>cases u1<;>first|exact C _ rfl|exact a|exact aU
  |junk v _=>exact absurd ⟨_,rfl⟩ b
  |same _ z=>exact absurd ⟨z,rfl⟩ b
  |_=>cases u1<;>first|exact C _ rfl|exact a|exact aU
 |slice e=>
  cases f with
  |string s=>exact o e s rfl
  |pointer g=>cases g<;>cases u1<;>first|exact a|exact aU
  |slice g n c=>
   cases g with
   |none=>cases u1<;>first|exact a|exact aU
   |some t=>
    cases u1 with
    |slice G=>
     refine aR _ (bB e) ?_;rintro y u _ ok d ⟨rfl,m⟩;cases(src==dst)with
     |false=>exact aU
     |true=>
      cases u with
      |int k=>
       cases k<;>first|exact aU|skip
       refine aR _ (pP ((i.mark ⟨e,j⟩).elim id λh=>absurd w (h.2 _)) (t.mono d)) ?_;rintro H _ _ ok p rfl;exact aS (.slice (.some ((t.mono d).mono p)) _ _)
      |_=>exact aU
    |_=>first|exact a|exact aU
  |void J a0=>
   cases u1 with
   |slice G=>exact(i.jg _ _ w j).elim
   |_=>first|exact a|exact aU
  |junk v _=>exact absurd ⟨_,rfl⟩ b
  |same _ z=>exact absurd ⟨z,rfl⟩ b
  |_=>cases u1<;>first|exact a|exact aU
 |unsafePointer=>cases f<;>cases u1<;>first|exact absurd ⟨_,rfl⟩ b|exact a|exact aU
 |_=>
  cases f with
  |pointer g=>cases g<;>cases u1<;>first|exact a|exact aU
  |junk v _=>exact absurd ⟨_,rfl⟩ b
  |same _ z=>exact absurd ⟨z,rfl⟩ b
  |_=>cases u1<;>first|exact a|exact aU
def Va (ts)(t){c a}(h:aY Al π c a):bR P Al F (VR Al) π (Builtin.len_ ts t c) (Builtin.len_ ts t a):=by
 unfold Builtin.len_;cases ts[0]? with
 |none=>obtain⟨b,d⟩|⟨x,g,b,d,f⟩:=h.get 0<;>rw[b]<;>exact aT
 |some t=>
  obtain⟨b,d⟩|⟨x,g,b,d,f⟩:=h.get 0;{rw[b];exact aT}
  .rw[b,d];refine aR _ (bB t) ?_;rintro k u _ ok l ⟨rfl,_⟩;cases u with
   |pointer arr=>refine aR _ (bB arr) ?_;rintro j u _ ok i ⟨rfl,_⟩;cases u<;>first|exact aT|exact aS (.int _ _)
   |array n e=>exact aS (.int _ _)
   |_=>cases f<;>first|exact aT|exact aS (.int _ _)
def Vb (ts)(t){c a}(h:aY Al π c a):bR P Al F (VR Al) π (Builtin.cap_ ts t c) (Builtin.cap_ ts t a):=by
 unfold Builtin.cap_;cases ts[0]? with
 |none=>obtain⟨b,d⟩|⟨x,g,b,d,f⟩:=h.get 0<;>rw[b]<;>exact aT
 |some t=>
  obtain⟨b,d⟩|⟨x,g,b,d,f⟩:=h.get 0;{rw[b];exact aT}
  .rw[b,d];refine aR _ (bB t) ?_;rintro k u _ ok l ⟨rfl,_⟩;cases u with
   |pointer arr=>refine aR _ (bB arr) ?_;rintro j u _ ok i ⟨rfl,_⟩;cases u<;>first|exact aT|exact aS (.int _ _)
   |array n e=>exact aS (.int _ _)
   |_=>cases f<;>first|exact aT|exact aS (.int _ _)
def Ib {x a}(h:bE Al π x a):bR P Al F ER π (Builtin.lenOf x) (Builtin.lenOf a):=by cases h<;>first|exact aT|exact aS rfl
def wQ {x d}(e:bE Al π x d):bR P Al F (λ_ a b=>a=b/\∀p c,x= .slice p 0 c->a=0) π (Builtin.lenOf x) (Builtin.lenOf d):=by
 cases e with
 |slice f n c=>exact aS ⟨rfl,λp c h=>by cases h;rfl⟩
 |void g a0=>exact aS ⟨rfl,λp c h=>rfl⟩
 |string s=>exact aS ⟨rfl,λp c h=>by cases h⟩
 |_=>exact aT
def GM (size){x a}(h:bE Al π x a):bR P Al F (λ_ d g=>d= #[]/\g= #[]) π (Builtin.firstCells size 0 x) (Builtin.firstCells size 0 a):=by
 cases h with
 |slice f n c=>
  cases f with
  |none=>exact aS ⟨rfl,rfl⟩
  |some i=>unfold Builtin.firstCells;rw[zFq];exact aS ⟨rfl,rfl⟩
 |void j a0=>unfold Builtin.firstCells;rw[zFq];exact aS ⟨rfl,rfl⟩
 |string s=>have e:(s.extract 0 0).data.map (λb=>(.int aP b.toNat:zY))= #[]:=by{simp};exact aS ⟨e,e⟩
 |_=>exact aT
def oJ (size n){x b}(e:∀a c,x= .slice a 0 c->n=0)(h:bE Al π x b):bR P Al F (gd Al) π (Builtin.firstCells size n x) (Builtin.firstCells size n b):=by
 cases h with
 |slice d m c=>
  cases d with
  |none=>exact aS .nil
  |some f=>exact qG f _
 |void g a0=>have:=e _ _ rfl;subst this;unfold Builtin.firstCells;rw[zFq];exact aS .nil
 |string s=>exact aS (KC _)
 |_=>exact aT
def Nu (ts)(t){k g}(h:aY Al π k g):bR P Al F (VR Al) π (Builtin.copy_ ts t k) (Builtin.copy_ ts t g):=by
 unfold Builtin.copy_;cases ts[0]? with
 |none=>obtain⟨i,p⟩|⟨x,w,i,p,o⟩:=h.get 0<;>rw[i]<;>exact aT
 |some t=>
  obtain⟨i,p⟩|⟨x,w,i,p,o⟩:=h.get 0;{rw[i];exact aT};obtain⟨f1,f2⟩|⟨y,J,f1,f2,j⟩:=h.get 1;{rw[i,f1];exact aT};rw[i,p,f1,f2];refine aR _ (bB t) ?_;rintro I u _ ok q ⟨rfl,_⟩;replace o:=o.mono q;replace j:=j.mono q;cases u with
  |slice e=>
   cases o with
   |slice B n c=>
    refine aR _ (wQ j) ?_;rintro v m _ ok f ⟨rfl,G⟩;refine aR _ (cA e) ?_;rintro s size _ ok b rfl;have C:∀a c,y= .slice a 0 c->aGm m n=0:=λa c h=>by{rw[G a c h];exact Nat.zero_min n};refine aR _ (oJ size _ C ((j.mono f).mono b)) ?_;intro r d L ok l D;cases B with
    |none=>exact aS (.int _ _)
    |some E=>refine aR _ (lB _ _ 0 (((E.mono f).mono b).mono l) (by rw[toArray_toList,toArray_toList];exact D)) ?_;rintro H _ _ ok z rfl;exact aS (.int _ _)
   |void K a0=>refine aR _ (Ib j) ?_;rintro v m _ ok f rfl;refine aR _ (cA e) ?_;rintro s size _ ok b rfl;rw[show aGm m 0=0 from Nat.min_zero m];refine aR _ (GM size ((j.mono f).mono b)) ?_;rintro r _ _ ok l ⟨rfl,rfl⟩;exact aS (.int _ _)
   |_=>exact aT
  |_=>exact aT
omit ok in
def qE {c c'}(h:aY Al π c c')(n):aY Al π (Builtin.zeroCells c n) (Builtin.zeroCells c' n):=by unfold Builtin.zeroCells;rw[h.size];have:=AW h (n*c.size);rw[h.size]at this;exact this
def Ig (j:KR P){ts}(m:∀t,ts[0]? =aA t->t<P.types.size)(t){d a}(h:aY Al π d a):bR P Al F (VR Al) π (Builtin.clear_ ts t d) (Builtin.clear_ ts t a):=by
 unfold Builtin.clear_;cases s:ts[0]? with
 |none=>obtain⟨b,f⟩|⟨x,k,b,f,i⟩:=h.get 0<;>rw[b]<;>exact aT
 |some t=>
  obtain⟨b,f⟩|⟨x,k,b,f,i⟩:=h.get 0;{rw[b];exact aT};rw[b,f];refine aR _ (bB t) ?_;rintro y u _ ok p ⟨rfl,hu⟩;cases i with
  |jQ=>cases u<;>exact aS eJ
  |slice q n c=>
   cases q with
   |none=>cases u<;>exact aS eJ
   |some r=>
    cases n with
    |zero=>cases u<;>exact aS eJ
    |succ n=>
     cases u with
     |slice e=>refine aR _ (gH j (j.slice t e (m t s) hu)) ?_;intro w z B ok g l;refine aR _ (lB _ _ 0 ((r.mono p).mono g) (by rw[toArray_toList,toArray_toList];exact qE l.cells _)) ?_;rintro v _ _ ok o rfl;exact aS eJ
     |_=>exact aT
  |void C a0=>cases u<;>exact aS eJ
  |_=>cases u<;>exact aT
def Ns {x e y d}(f:bE Al π x e)(a:bE Al π y d):bR P Al F (VR Al) π (Builtin.min2 x y) (Builtin.min2 e d):=by
 cases f with
 |int k n=>
  cases a with
  |int p m=>exact aS (.int _ _)
  |pointer h=>cases h<;>first|exact aT|exact aU
  |_=>exact aT
 |string s=>
  cases a with
  |string t=>refine aR _ (xN .leq s t) ?_;intro l v o ok q g;refine aR _ (GP g) ?_;rintro j b _ ok i rfl;exact aS (.string _)
  |pointer h=>cases h<;>first|exact aT|exact aU
  |_=>exact aT
 |pointer h=>cases h<;>cases a<;>first|exact aU|exact aT|(rename_i c;cases c<;>first|exact aU|exact aT)
 |_=>cases a<;>first|exact aT|(rename_i c;cases c<;>first|exact aU|exact aT)
def Uz (ts)(t){c a}(h:aY Al π c a):bR P Al F (VR Al) π (Builtin.min_ ts t c) (Builtin.min_ ts t a):=by
 unfold Builtin.min_;have hl:∀(l b:zV){π:Rn} [Ok P π] {x d:zY},bE Al π x d->aY Al π l.toArray b.toArray->bR P Al F (VR Al) π (l.foldlM Builtin.min2 x) (b.foldlM Builtin.min2 d):=by
  intro l;induction l with
  |nil=>intro b π ok x d g h;cases b with
   |nil=>exact aS g
   |cons _ _=>have:=h.size;simp at this
  |cons y l m=>
   intro b π ok x d g h;cases b with
   |nil=>have:=h.size;simp at this
   |cons q b=>obtain⟨j,i⟩:=cD h;rw[List.foldlM_cons,List.foldlM_cons];refine aR _ (Ns g j) ?_;intro p v r ok o n;exact m b n (i.mono o)
 have f:aY Al π c.toList.toArray a.toList.toArray:=by rw[toArray_toList,toArray_toList];exact h
 cases e:c.toList with
 |nil=>exact aT
 |cons x l=>
  cases k:a.toList with
  |nil=>rw[e,k]at f;have:=f.size;simp at this
  |cons d b=>rw[e,k]at f;obtain⟨j,i⟩:=cD f;exact hl l b j i
end
section
variable {P:zZ}{Al:zF}{F:Kp}{π:Rn}{α β γ δ:Type}{A:Rn->α->β->Prop} [ok:Ok P π]
def Calm (P:zZ)(s:Sem α):Prop:=∀v b,(∃a w e,s.runT P v b=(.ok a w,e))\/∃hl w e,s.runT P v b=(.halt hl w,e)/\Fatal hl
omit ok in
def Calm.dead {s}{f:α->Sem β}(h:Calm P s)(c:∀a,nK P (f a)):nK P (s>>=f):=by
 intro v d;rw[bC];obtain⟨a,w,b,e⟩|⟨hl,w,b,e,g⟩:=h v d
 .rw[e];exact c a w b
 .rw[e];exact⟨hl,w,b,rfl,g⟩
omit ok in
def Calm.bind {s}{f:α->Sem β}(h:Calm P s)(c:∀a,Calm P (f a)):Calm P (s>>=f):=by
 intro v d;rw[bC];obtain⟨a,w,b,e⟩|⟨hl,w,b,e,g⟩:=h v d
 .rw[e];exact c a w b
 .rw[e];exact aH ⟨hl,w,b,rfl,g⟩
omit ok in
def nK.bind {s}{f:α->Sem β}(h:nK P s):nK P (s>>=f):=by intro v b;rw[bC];obtain⟨hl,w,a,e,c⟩:=h v b;rw[e];exact⟨hl,w,a,rfl,c⟩
omit ok in
def vE (a:α):Calm P (pure a:Sem α):=λv e=>aG ⟨a,v,e,rfl⟩
omit ok in
def Dc (r):Calm P (shape r):=λv e=>aG ⟨_,v,e,rfl⟩
omit ok in
def XO (a):Calm P (frozen a):=λv e=>aG ⟨_,v,e,rfl⟩
omit ok in
def sV (a)(n):Calm P (Builtin.holdsCells a n):=by refine(Dc _).bind λs=> ?_;cases s<;>exact vE _
omit ok in
def LZ (size s n)(base)(x):Calm P (Builtin.mayShare size s n base x):=by
 have second:∀there:Bool,Calm P (do
   if !there then return aE
   match x with
   | .slice (aA b) _ _=>do pure (!(<-Builtin.holdsCells b (n*size))||base.any (·.block==b.block))
   |_=>pure aF):=by
  intro there
  cases there with
  |false=>exact vE _
  |true=>
   show Calm P (match x with
   | .slice (aA b) _ _=>do pure (!(<-Builtin.holdsCells b (n*size))||base.any (·.block==b.block))
   |_=>pure aF)
   split;{exact(sV _ _).bind λb=>vE _};{exact vE _}
 cases base with
 |none=>exact second aE
 |some a=>refine(sV _ _).bind λb=> ?_;exact(XO _).bind λc=>second _
def oK (S:KR P){e:zD}(R:e<P.types.size){base p:zO}(s k size n:Nat)(D:bE Al π (.slice base s k) (.slice p s k))(f:Bool){x w:zY}(O:bE Al π x w)(G:f=aF->∀a c,x= .slice a 0 c->n=0):
  bR P Al F (VR Al) π
   (do
    let m:Sem (zA):=
     if !f then Builtin.firstCells size n x
     else if n*size=0 then pure #[]
     else do pure (Builtin.zeroCells (<-zeroValue e).cells n)
    let g:=s+n
    if g<=k then
     let new<-m
     if let aA a:=base then storeCells (a.add (s*size)) new.toList
     pure (.slice base g k)
    else
     if(g:Int)>IntKind.i64.max/\(f\/(<-typeInfo e).bytes=0)then aGh (.error "growslice: len out of range")
     if Builtin.nextslicecap g k*(<-typeInfo e).bytes>2^48 then(if f then aGh (.error "growslice: len out of range")else do
      if !(<-Builtin.mayShare size s n base x)then mark .noRoom
      unsupported (.resourceLimit "append: a slice or a string whose bytes no memory bears"))
     let l<-choose (.appendCap g k e)
     askRoom (l*(<-typeInfo e).bytes)
     let old<-Builtin.firstCells size s (.slice base s k)
     let new<-m
     let rest:=Builtin.zeroCells (<-zeroValue e).cells (l-g)
     pure (.slice (aA (<-newRow e (old++new++rest))) g l))
   (do
    let m:Sem (zA):=
     if !f then Builtin.firstCells size n w
     else if n*size=0 then pure #[]
     else do pure (Builtin.zeroCells (<-zeroValue e).cells n)
    let g:=s+n
    if g<=k then
     let new<-m
     if let aA a:=p then storeCells (a.add (s*size)) new.toList
     pure (.slice p g k)
    else
     if(g:Int)>IntKind.i64.max/\(f\/(<-typeInfo e).bytes=0)then aGh (.error "growslice: len out of range")
     if Builtin.nextslicecap g k*(<-typeInfo e).bytes>2^48 then(if f then aGh (.error "growslice: len out of range")else do
      if !(<-Builtin.mayShare size s n p w)then mark .noRoom
      unsupported (.resourceLimit "append: a slice or a string whose bytes no memory bears"))
     let l<-choose (.appendCap g k e)
     askRoom (l*(<-typeInfo e).bytes)
     let old<-Builtin.firstCells size s (.slice p s k)
     let new<-m
     let rest:=Builtin.zeroCells (<-zeroValue e).cells (l-g)
     pure (.slice (aA (<-newRow e (old++new++rest))) g l)):=by
 have r:∀(t:Rn),Ok P t->(∀a b,π a b->t a b)->bR P Al F (gd Al) t
   (if !f then Builtin.firstCells size n x else if n*size=0 then pure #[]else do pure (Builtin.zeroCells (<-zeroValue e).cells n))
   (if !f then Builtin.firstCells size n w else if n*size=0 then pure #[]else do pure (Builtin.zeroCells (<-zeroValue e).cells n)):=by
  intro t ok u
  split
  .rename_i y;exact oJ size n (G (by simpa using y)) (O.mono u)
  .split
   .exact aS .nil
   .refine aR _ (gH S R) ?_;intro N z Y ok q y;exact aS (qE y.cells n)
 by_cases Q:s+n<=k
 .simp only[zAl Q];cases D with
  |void hV a0=>
   obtain rfl:n=0:=by omega
   have h0:bR P Al F (λ_ d M=>d= #[]/\M= #[]) π
     (if !f then Builtin.firstCells size 0 x else if 0*size=0 then pure #[]else do pure (Builtin.zeroCells (<-zeroValue e).cells 0))
     (if !f then Builtin.firstCells size 0 w else if 0*size=0 then pure #[]else do pure (Builtin.zeroCells (<-zeroValue e).cells 0)):=by
    split
    .exact GM size O
    .rw[zAl (zFq _)];exact aS ⟨rfl,rfl⟩
   refine aR _ h0 ?_;rintro t _ _ ok u ⟨rfl,rfl⟩;exact aS (.void hV a0)
  |slice D=>
   refine aR _ (r π ok λ_ _ h=>h) ?_;intro t d M ok u L;cases D with
   |none=>exact aS (.slice .none _ _)
   |some E=>refine aR _ (lB _ _ 0 ((E.mono u).add _) (by rw[toArray_toList,toArray_toList];exact L)) ?_;rintro N _ _ ok q rfl;exact aS (.slice (.some ((E.mono u).mono q)) _ _)
 .simp only[zAj Q];refine aR _ (eW e) ?_;rintro t i _ ok u ⟨rfl,_⟩;by_cases U:((s+n:Nat):Int)>IntKind.i64.max/\(f=aE\/i.bytes=0)
  .simp only[zAl U];exact dG _
  .simp only[zAj U];refine aR _ (eW e) ?_;rintro N j _ ok q ⟨rfl,_⟩;by_cases T:Builtin.nextslicecap (s+n) k*j.bytes>2^48
   .simp only[zAl T];cases f with
    |true=>exact dG _
    |false=>refine Nt (nK.bind ?_);rw[zAj (by simp)];refine(LZ _ _ _ _ _).dead λb=> ?_;cases b<;>exactλv es=>⟨_,_,_,rfl,by simp⟩
   .simp only[zAj T];refine aR _ (gI _) ?_;rintro τ l _ ok K rfl;refine aR _ (eW e) ?_;rintro X j' _ ok C ⟨rfl,_⟩;refine aR _ (tL _) ?_;rintro W _ _ ok J rfl;have sub:∀a b,π a b->W a b:=λa b h=>J _ _ (C _ _ (K _ _ (q _ _ (u _ _ h))));refine aR _ (oJ size s (λa c h=>by cases h;rfl) (D.mono sub)) ?_;intro V o o' ok I ho;refine aR _ (r V ok λa b h=>I _ _ (sub _ _ h)) ?_;intro χ d M ok H L;refine aR _ (gH S R) ?_;intro ψ z Y ok B y;refine aR _ (lR ((((ho.mono H).mono B).append (L.mono B)).append (qE y.cells _)) e) ?_;intro ω a a' ok Z E;exact aS (.slice (.some E) _ _)
def ZT (J:KR P){ts}(W:∀t,ts[0]? =aA t->t<P.types.size)(t){E r}(h:aY Al π E r):bR P Al F (VR Al) π (Builtin.append_ ts t E) (Builtin.append_ ts t r):=by
 unfold Builtin.append_;cases X:ts[0]? with
 |none=>obtain⟨C,K⟩|⟨x,R,C,K,G⟩:=h.get 0<;>rw[C]<;>exact aT
 |some t=>
  obtain⟨C,K⟩|⟨x,R,C,K,G⟩:=h.get 0;{rw[C];exact aT};obtain⟨f1,f2⟩|⟨y,y',f1,f2,p⟩:=h.get 1;{rw[C,f1];exact aT};rw[C,K,f1,f2];refine aR _ (bB t) ?_;rintro ρ u _ ok S ⟨rfl,hu⟩;replace G:=G.mono S;replace p:=p.mono S;cases u with
  |slice e=>
   have O:=J.slice t e (W t X) hu;obtain⟨base,q,s,d,rfl,rfl⟩|N:(∃base q s d,x= .slice base s d/\R= .slice q s d)\/∀base s d,x≠.slice base s d:=by
    cases G with
    |slice D n c=>exact aG ⟨_,_,_,_,rfl,rfl⟩
    |void hV a0=>exact aG ⟨_,_,_,_,rfl,rfl⟩
    |_=>exact aH λ_ _ _ h=>by cases h
   .refine aR _ (cA e) ?_;rintro Z size _ ok I rfl;have D:=G.mono I;replace p:=p.mono I;cases ts[1]? with
    |none=>refine aR (λ_ a b=>a=aF/\b=aF) (aS ⟨rfl,rfl⟩) ?_;rintro U z M ok g ⟨v,m⟩;subst v;subst m;refine aR _ (wQ (p.mono g)) ?_;rintro Q n _ ok j ⟨rfl,B⟩;exact oK J O s d size n ((D.mono g).mono j) aF ((p.mono g).mono j) λ_=>B
    |some V=>
     refine aR _ (bB V) ?_;rintro U u _ ok g ⟨rfl,_⟩;cases u with
     |int k=>refine aR (λ_ a b=>a=aE/\b=aE) (aS ⟨rfl,rfl⟩) ?_;rintro L z M ok f ⟨v,m⟩;subst v;subst m;replace p:=p.mono g;replace D:=D.mono g;refine aR _ (nY (p.mono f)) ?_;rintro Q l _ ok j rfl;by_cases hl:IntKind.i64.wrap l<0;{rw[zAl hl];first|exact dG _|(rw[zAl hl];exact dG _)};{(first|rw[zAj hl,zAj hl]|rw[zAj hl]);refine aR _ (eW e) ?_;rintro Y i _ ok H ⟨rfl,_⟩;by_cases o:IntKind.i64.wrap l*i.bytes>2^48;{(first|rw[zAl o,zAl o]|rw[zAl o]);refine aR _ (gI _) ?_;rintro T made _ ok w rfl;exact dG _};{(first|rw[zAj o,zAj o]|rw[zAj o]);refine aR (λ_ a b=>a=(IntKind.i64.wrap l).toNat/\b=(IntKind.i64.wrap l).toNat) (aS ⟨rfl,rfl⟩) ?_;rintro T z M ok w ⟨v,m⟩;rw[v,m];exact oK J O s d size (IntKind.i64.wrap l).toNat ((((D.mono f).mono j).mono H).mono w) aE ((((p.mono f).mono j).mono H).mono w) λh=>by cases h}}
     |_=>refine aR (λ_ a b=>a=aF/\b=aF) (aS ⟨rfl,rfl⟩) ?_;rintro L z M ok f ⟨v,m⟩;subst v;subst m;refine aR _ (wQ ((p.mono g).mono f)) ?_;rintro Q n _ ok j ⟨rfl,B⟩;exact oK J O s d size n (((D.mono g).mono f).mono j) aF (((p.mono g).mono f).mono j) λ_=>B
   .cases x<;>first|exact aT|exact absurd rfl (N _ _ _)
  |_=>exact aT
end
section
variable {P:zZ}{Al:zF}{F:Kp}{π:Rn}{α β γ δ:Type}{A:Rn->α->β->Prop} [ok:Ok P π]
def wR (t):bR P Al F (λ_ a b=>a=b/\P.underlying t=aA (.pointer a)) π (elemOf t) (elemOf t):=by
 refine aR _ (bB t) ?_;rintro c u _ ok h ⟨rfl,hu⟩;cases u with
 |pointer e=>exact aS ⟨rfl,hu⟩
 |_=>exact aT
def GJ:∀(n){π} [Ok P π] {a b}(acc),bY π a b->bR P Al F ER π (Extern.Bytes.loadBytes a n acc) (Extern.Bytes.loadBytes b n acc):=by
 intro n;induction n with
 |zero=>intro π ok a b acc h;exact aS rfl
 |succ n i=>
  intro π ok a b acc h;refine aR _ (TM h _) ?_;intro e v f ok d c;cases c with
  |int k m=>cases k<;>first|exact aT|exact i _ ((h.mono d).add 1)
  |_=>exact aT
def DL {x a}(h:bE Al π x a):bR P Al F ER π (Extern.Bytes.bytesOf x) (Extern.Bytes.bytesOf a):=by
 cases h with
 |string s=>exact aS rfl
 |slice b n c=>
  cases b with
  |none=>exact aS rfl
  |some d=>exact GJ _ _ d
 |void e a0=>exact aS rfl
 |_=>exact aT
def qX {a x}(h:aY Al π a x):(∃l b:zV,a=l.toArray/\x=b.toArray/\aY Al π l.toArray b.toArray):=⟨a.toList,x.toList,by simp,by simp,by rw[toArray_toList,toArray_toList];exact h⟩
def BF (ts)(t){d c}(h:aY Al π d c):bR P Al F (VR Al) π (Builtin.unsafeString_ ts t d) (Builtin.unsafeString_ ts t c):=by
 obtain⟨l,k,rfl,rfl,h⟩:=qX h;have a:=h.size;match l,k with
 |[],[]=>exact aT
 |[x],[j]=>cases(cD h).1<;>exact aT
 |[x,y],[j,u]=>
  have g:=(cD h).1;have v:=(cD (cD h).2).1;cases g with
  |pointer w=>
   refine aR _ (nY v) ?_;rintro D n _ ok m rfl;cases ts[0]? with
   |none=>exact aT
   |some pt=>
    by_cases r:n<0;{simp only[zAl r];exact dG _}
    .simp only[zAj r];by_cases q:n>IntKind.i64.max
     .simp only[zAl q];exact aU
     .simp only[zAj q];cases w with
      |none=>dsimp only;split;{exact aS (.string _)};{exact dG _}
      |some o=>
       by_cases p:n=0;{simp only[zAl p];exact aS (.string _)}
       .simp only[zAj p];refine aR _ (wR pt) ?_;rintro C e _ ok f ⟨rfl,_⟩;refine aR _ (sS ((o.mono m).mono f) e n.toNat) ?_;rintro B b _ ok i rfl;split
        .exact .share (((o.mono m).mono f).mono i) λs=> .pure (.string s)
        .exact aU
  |_=>exact aT
 |x::y::z::l,j::u::E::k=>have g:=(cD h).1;cases g<;>exact aT
 |[],_::_=>simp at a
 |[_],[]=>simp at a
 |[_],_::_::_=>simp at a
 |[_,_],[]=>simp at a
 |[_,_],[_]=>simp at a
 |[_,_],_::_::_::_=>simp at a
 |_::_::_::_,[]=>simp at a
 |_::_::_::_,[_]=>simp at a
 |_::_::_::_,[_,_]=>simp at a
def rO (ts:Array zD)(t:zD)(a:Addr)(n c:Nat):Builtin.unsafeSliceData_ ts t #[.slice (aA a) n c]=(if c≠0 then pure (.pointer (aA a))else do
  if(<-viewAt a.block).isSome then pure (.pointer (aA a))else pure (.pointer (aA ⟨<-newObj (.view a (<-elemOf t)),0,aB⟩))):=rfl
def vK {t}(B:∀e,P.underlying t=aA (.pointer e)->kE P e)(ts){g f}(C:∀x,g[0]? =aA x->∀b n s,Al (1000002+b)->x≠.slice (aA ⟨b,n,s⟩) 0 0)(h:aY Al π g f):bR P Al F (VR Al) π (Builtin.unsafeSliceData_ ts t g) (Builtin.unsafeSliceData_ ts t f):=by
 obtain⟨l,k,rfl,rfl,h⟩:=qX h;have d:=h.size;match l,k with
 |[],[]=>exact aT
 |[x],[p]=>
  have q:=(cD h).1;cases q with
  |slice w n c=>
   cases w with
   |none=>exact aS (.pointer .none)
   | @some a K i=>
    rw[rO,rO];by_cases o:c≠0;{simp only[zAl o];exact aS (.pointer (.some i))}
    .simp only[zAj o];refine aR _ (rP i.1) ?_;intro G s I ok m u;cases u with
     |some _=>exact aS (.pointer (.some (i.mono m)))
     |none=>refine aR _ (wR t) ?_;rintro E e _ ok j ⟨rfl,he⟩;exact .view (.view ((i.mono m).mono j) e (B e he)) λD r J _ _ v=> .pure (.pointer (.some ⟨v,rfl,rfl⟩))
  |void z a0=>exact absurd rfl (C _ rfl _ _ _ z)
  |_=>exact aT
 |x::y::l,p::H::k=>exact aT
 |[],_::_=>simp at d
 |[_],[]=>simp at d
 |[_],_::_::_=>simp at d
 |_::_::_,[]=>simp at d
 |_::_::_,[_]=>simp at d
def DK {e d}(h:aY Al π e d):bR P Al F (VR Al) π (Extern.BytealgCompare.compare e) (Extern.BytealgCompare.compare d):=by
 obtain⟨l,g,rfl,rfl,h⟩:=qX h;have c:=h.size;match l,g with
 |[],[]=>exact aT
 |[x],[f]=>exact aT
 |[x,y],[f,i]=>have k:=(cD h).1;have j:=(cD (cD h).2).1;refine aR _ (DL k) ?_;rintro p a _ ok n rfl;refine aR _ (DL (j.mono n)) ?_;rintro o b _ ok m rfl;exact aS (.int _ _)
 |x::y::z::l,f::i::q::g=>exact aT
 |[],_::_=>simp at c
 |[_],[]=>simp at c
 |[_],_::_::_=>simp at c
 |[_,_],[]=>simp at c
 |[_,_],[_]=>simp at c
 |[_,_],_::_::_::_=>simp at c
 |_::_::_::_,[]=>simp at c
 |_::_::_::_,[_]=>simp at c
 |_::_::_::_,[_,_]=>simp at c
def JX:∀(n t:Nat){acc a:zA},aY Al π acc a->aY Al π (Extern.BytealgMakeNoZero.digits n t acc) (Extern.BytealgMakeNoZero.digits n t a)
 |0,_,_,_,h=>h
 |n+1,t,_,_,h=>JX n (t/256) (h.push (.int _ _))
def tK (p rs){g f}(h:aY Al π g f):bR P Al F (VR Al) π (Extern.BytealgMakeNoZero.makeNoZero p rs g) (Extern.BytealgMakeNoZero.makeNoZero p rs f):=by
 obtain⟨l,i,rfl,rfl,h⟩:=qX h;have d:=h.size;match l,i with
 |[],[]=>exact aT
 |[x],[j]=>
  have m:=(cD h).1;cases m with
  |int k n=>
   cases k<;>first|exact aT|skip
   unfold Extern.BytealgMakeNoZero.makeNoZero;cases rs[0]? with
   |none=>exact aT
   |some t=>
    refine aR _ (bB t) ?_;rintro D u _ ok G ⟨rfl,_⟩;cases u with
    |slice e=>dsimp only;split;{exact dG _};{refine aR _ (gI _) ?_;rintro C c _ ok s rfl;refine aR _ (tL _) ?_;rintro B _ _ ok r rfl;refine aR _ (gI _) ?_;rintro z b _ ok q rfl;refine aR _ (lR (JX c b .nil) e) ?_;intro w a H ok o v;exact aS (.slice (.some v) _ _)}
    |_=>exact aT
  |_=>exact aT
 |x::y::l,j::E::i=>cases(cD h).1<;>exact aT
 |[],_::_=>simp at d
 |[_],[]=>simp at d
 |[_],_::_::_=>simp at d
 |_::_::_,[]=>simp at d
 |_::_::_,[_]=>simp at d
def TK {c b}(h:aY Al π c b):bR P Al F (VR Al) π (Extern.AbiNoEscape.same c) (Extern.AbiNoEscape.same b):=by
 obtain⟨l,d,rfl,rfl,h⟩:=qX h;have a:=h.size;match l,d with
 |[],[]=>exact aT
 |[x],[e]=>exact aS (cD h).1
 |x::y::l,e::f::d=>exact aT
 |[],_::_=>simp at a
 |[_],[]=>simp at a
 |[_],_::_::_=>simp at a
 |_::_::_,[]=>simp at a
 |_::_::_,[_]=>simp at a
def qF (p rs)(a a' b b'){c l}(f d)(j:c=0\/l=0):bR P Al F (VR Al) π (Extern.SlicesOverlaps.overlaps p rs #[.slice a c f,.slice b l d]) (Extern.SlicesOverlaps.overlaps p rs #[.slice a' c f,.slice b' l d]):=by
 unfold Extern.SlicesOverlaps.overlaps;cases p[0]? with
 |none=>exact aT
 |some t=>
  refine aR _ (bB t) ?_;rintro m u _ ok n ⟨rfl,_⟩;cases u with
  |slice e=>refine aR _ (cA e) ?_;rintro k size _ ok g rfl;have i:c=0\/l=0\/size=0:=j.elim aG λh=>aH (aG h);cases a<;>cases b<;>cases a'<;>cases b'<;>dsimp only<;>(try simp only[zAl i])<;>exact aS (.bool _)
  |_=>exact aT
def xQ (hF:∀b,¬F b)(p rs){o g}(h:aY Al π o g):bR P Al F (VR Al) π (Extern.SlicesOverlaps.overlaps p rs o) (Extern.SlicesOverlaps.overlaps p rs g):=by
 obtain⟨l,B,rfl,rfl,h⟩:=qX h;have c:=h.size;match l,B with
 |[],[]=>exact aT
 |[x],[v]=>cases(cD h).1<;>exact aT
 |[x,y],[v,H]=>
  have J:=(cD h).1;have C:=(cD (cD h).2).1;cases J with
  |slice M I ca=>
   cases C with
   |slice s w O=>
    unfold Extern.SlicesOverlaps.overlaps;cases p[0]? with
    |none=>exact aT
    |some t=>
     refine aR _ (bB t) ?_;rintro ρ u _ ok D ⟨rfl,_⟩;cases u with
     |slice e=>
      dsimp only;refine aR _ (cA e) ?_;rintro Z size _ ok r rfl;cases M with
      |none=>cases s<;>exact aS (.bool _)
      | @some a S j=>
       cases s with
       |none=>exact aS (.bool _)
       | @some b R hb=>
        replace j:=(j.mono D).mono r;replace hb:=(hb.mono D).mono r;have G:=vI ok j hb;have N:(S.block !=R.block)=(a.block !=b.block):=by{unfold bne;rw[G]};dsimp only;rw[G,N,j.2.1,hb.2.1];by_cases k:I=0\/w=0\/size=0;{(first|rw[zAl k,zAl k]|rw[zAl k]);exact aS (.bool _)}
        ·(first|rw[zAj k,zAj k]|rw[zAj k]);refine aR _ (lS hF j) ?_;rintro Y f1 _ ok d rfl;refine aR _ (lS hF (hb.mono d)) ?_;rintro X f2 _ ok f rfl;split;{exact aU}
         .split
          .refine aR _ (oI ((j.mono d).mono f)) ?_;rintro W _ _ ok i rfl;refine aR _ (oI (((hb.mono d).mono f).mono i)) ?_;rintro V _ _ ok q rfl;refine aR _ (xS hF ((((j.mono d).mono f).mono i).mono q) ((((hb.mono d).mono f).mono i).mono q)) ?_;rintro U m _ ok L rfl;split
           .refine aR _ (gI _) ?_;rintro T n _ ok K rfl;exact aS (.bool _)
           .exact aS (.bool _)
          .exact aS (.bool _)
     |_=>exact aT
   |void E Q=>exact qF p rs _ _ _ _ _ _ (aH rfl)
   |_=>exact aT
  |void E a0=>
   cases C with
   |slice s w O=>exact qF p rs _ _ _ _ _ _ (aG rfl)
   |void E Q=>exact qF p rs _ _ _ _ _ _ (aG rfl)
   |_=>exact aT
  |_=>exact aT
 |x::y::z::l,v::H::z'::B=>cases(cD h).1<;>first|exact aT|(cases(cD (cD h).2).1<;>exact aT)
 |[],_::_=>simp at c
 |[_],[]=>simp at c
 |[_],_::_::_=>simp at c
 |[_,_],[]=>simp at c
 |[_,_],[_]=>simp at c
 |[_,_],_::_::_::_=>simp at c
 |_::_::_::_,[]=>simp at c
 |_::_::_::_,[_]=>simp at c
 |_::_::_::_,[_,_]=>simp at c
end
def CE {P α}{f:zZ->Sem α}(h:nK P (f P)):nK P (program>>=f):=λv e=>h v e
def OF {P α}{f:TypeInfo->Sem α}(h:∀i,P.info? 1000000=aA i->nK P (f i)):nK P (typeInfo 1000000>>=f):=λv a=>by
 show∃hl w e,Sem.runT P (Sem.bind (match P.info? 1000000 with|some i=>pure i|none=>stuck "no such type") f) v a=(.halt hl w,e)/\Fatal hl;cases hi:P.info? 1000000 with
 |none=>exact⟨.stuck "no such type",v,a,rfl,aG ⟨_,rfl⟩⟩
 |some i=>exact h i hi v a
def XJ {P}(h:∀i,P.info? 1000000=aA i->i.methods.find? (·.name== "")=aB)(n)(v):nK P (method n 1000000 v ""):=by
 cases n with
 |zero=>exact sF
 |succ n=>unfold method;exact OF λi hi=>by rw[h i hi];exact pA
def EP {P}(h:∀i,P.info? 1000000=aA i->i.methods.find? (·.name== "")=aB)(v)(x):nK P (callMethod (.iface 1000000 v) "" x):=by exact CE (nK.bind (XJ h _ v))
def XK {P}(h:∀i,P.info? 1000000=aA i->i.methods.find? (·.name== "")=aB)(z)(x):nK P (do let d<-aGj (.func (.method "") #[.iface 1000000 .nilIface] #[z]) x;invoke d.target d.args):=by
 show nK P (invoke (.fn (.method "") #[z]) (#[.iface 1000000 .nilIface]++x));unfold invoke;have e:(#[Value.iface 1000000 .nilIface]++x)[0]? =aA (.iface 1000000 .nilIface):=by rw[zDd (by simp)];rfl
 rw[e];exact EP h _ _
def wH {P α}(a:∀i,P.info? 1000000=aA i->i.methods.find? (·.name== "")=aB)(n)(v){f:Option Bool->Sem α}(h:nK P (f aB)):nK P (nilAhead n 1000000 v "">>=f):=by
 cases n with
 |zero=>exact h
 |succ n=>unfold nilAhead;exact nK.bind (OF λi hi=>by rw[a i hi];exact pA)
inductive KU (Al:zF)(π:Rn):Deferred->Deferred->Prop
 |fn {f:zN} (hf:Al f) {cs cs' MD xE:zA} (hc:aY Al π cs cs') (ha:aY Al π MD xE) (hz:MD.size+cs.size<=20):KU Al π ⟨.fn (.func f) cs,MD⟩ ⟨.fn (.func f) cs',xE⟩
 |nil {MD xE:zA} (ha:aY Al π MD xE):KU Al π ⟨.nil,MD⟩ ⟨.nil,xE⟩
structure KT (Al:zF)(π:Rn)(d d':Deferred):Prop where
 rel:KU Al π d d'
 lets:∃f cs MD,d=⟨.fn (.func f) cs,MD⟩/\Al (900000+f)
inductive KN (Al:zF)(π:Rn):Next->Next->Prop
 |value {v v':zY} (h:bE Al π v v'):KN Al π (.value v) (.value v')
 |skip:KN Al π .skip .skip
 |enter {f:zN} (hf:Al f) {MD xE:zA} (ha:aY Al π MD xE) (hz:MD.size<=20):KN Al π (.enter f MD) (.enter f xE)
 |defer {d d':Deferred} (h:KT Al π d d'):KN Al π (.defer d) (.defer d')
inductive qD (Al:zF)(π:Rn):Next->Next->Prop
 |value {v v':zY} (h:bE Al π v v'):qD Al π (.value v) (.value v')
 |skip:qD Al π .skip .skip
 |enter {f:zN} (hf:Al f) {MD xE:zA} (ha:aY Al π MD xE) (hz:MD.size<=20):qD Al π (.enter f MD) (.enter f xE)
def qD.to {Al π n n'}(h:qD Al π n n'):KN Al π n n':=by
 cases h with
 |value h=>exact .value h
 |skip=>exact .skip
 |enter b c a=>exact .enter b c a
def bR.imp {P Al F α β A c}(f:∀π a b,A π a b->c π a b){π}{s:Sem α}{s':Sem β}(h:bR P Al F A π s s'):bR P Al F c π s s':=by
 induction h with
 |pure h=>exact .pure (f _ _ _ h)
 |load h _ i=>exact .load h i
 |store h d _ i=>exact .store h d i
 |new h _ i=>exact .new h i
 |marked hC h _ i=>exact .marked hC h i
 |view h _ i=>exact .view h i
 |getObj h _ i=>exact .getObj h i
 |shape h _ i=>exact .shape h i
 |freeze hF h _ i=>exact .freeze hF h i
 |frozen hF h _ i=>exact .frozen hF h i
 |share h _ i=>exact .share h i
 |same e h g _ i=>exact .same e h g i
 |choose _ i=>exact .choose i
 |program he _ i=>exact .program he i
 |env _ i=>exact .env i
 |mark hm _ i=>exact .mark hm i
 |panic h=>exact .panic h
 |dead h=>exact .dead h
def KU.mono {Al π ρ}(h:∀b b',π b b'->ρ b b'){d c}(x:KU Al π d c):KU Al ρ d c:=by
 cases x with
 |fn f g a e=>exact .fn f (g.mono h) (a.mono h) e
 |nil a=>exact .nil (a.mono h)
def KT.mono {Al π ρ}(h:∀b b',π b b'->ρ b b'){d a}(x:KT Al π d a):KT Al ρ d a:=⟨x.rel.mono h,x.lets⟩
def CM (P:zZ)(b:Builtin)(ts:Array zD)(t:zD):Prop:=
 match b with
 | .append| .clear=>∀u,ts[0]? =aA u->u<P.types.size
 | .cap| .copy| .len| .min| .unsafeString=>True
 | .unsafeSliceData=>∀e,P.underlying t=aA (.pointer e)->kE P e
 |_=>False
def CL (P:zZ)(Al:zF):Operand->Prop
 | .tmp _=>True
 | .const v=>∀π,Ok P π->bE Al π v v
 | .global g=>g<=P.globals.size
 | .func f=>Al f
def xB (P:zZ)(Al:zF)(name:String):Prop:=
 ∀t i m,P.info? t=aA i->i.methods.find? (·.name==name)=aA m->m.path= #[]/\∃f,m.func=aA (f,aE)/\Al f
def Tm (P:zZ)(Al:zF)(ts:Array zD)(t:zD):Callee->Prop
 | .value _=>True
 | .builtin b=>CM P b ts t
 | .invoke _ m=>xB P Al m
def RV (P:zZ)(Al:zF)(F:Kp)(o:Oper):Prop:=
 (∀x∈o.op.operands,CL P Al x)/\
 match o.op with
 | .move _| .assign _| .pick .. | .box .. | .load .. | .store .. | .nilCheck _| .unOp .. | .makeInterface .. | .slice .. | .fieldAddr .. | .field .. | .indexAddr .. | .index .. | .extract .. | .panic _=>True
 | .alloc t| .build t _| .buildSlice t _ _| .makeSlice t _ _=>t<P.types.size
 | .binOp op t _ _ _=>((op= .eql\/op= .neq)->KL P Op.maxDepth t)/\((F.cmp\/∀b,¬F b)\/(op≠.eql/\op≠.neq)\/Basic P t\/∃e i,P.underlying t=aA (.pointer e)/\P.info? e=aA i/\i.size≠0)
 | .convert s d _=>Du P F s d
 | .makeFunc fn a b=>a.size+b.size<=10/\match fn with| .func f=>Al f|_=>False
 | .call c=>c.args.size<=10/\Tm P Al c.argTypes o.type c.callee
 | .defer c=>c.args.size<=10/\∃f,c.callee= .value (.func f)/\Al (900000+f)
 |_=>False
def RX (P:zZ)(F:Kp)(o:Oper)(e:Operand->zY):Prop:=∀op t x y u,o.op= .binOp op t x y u->(F.cmp\/∀b,¬F b)\/(op≠.eql/\op≠.neq)\/Basic P t\/uP P t (e x) (e y)
def sO (P:zZ)(F:Kp)(fr:zC):Prop:=fr.mode= .run->∀ops j rest k o,fr.todo=aM ops (j::rest)::k->ops[j]? =aA o->RX P F o fr.eval
def AF {P F}(h:∀b,¬F b){fr}:sO P F fr:=λ_ _ _ _ _ _ _ _ _ _ _ _ _ _=>aG (aH h)
def dw (Al:zF)(o:Oper)(e:Operand->zY):Prop:=∀c,o.op= .call c->c.callee= .builtin .unsafeSliceData->∀x,(c.args.map e)[0]? =aA x->∀b n s,Al (1000002+b)->x≠.slice (aA ⟨b,n,s⟩) 0 0
def pE (Al:zF)(fr:zC):Prop:=fr.mode= .run->∀ops j rest k o,fr.todo=aM ops (j::rest)::k->ops[j]? =aA o->Region.wanted o (yielded ops fr.tmps)=aE->dw Al o fr.eval
def kD {Al}(h:∀k,¬Al (1000002+k)){fr}:pE Al fr:=λ_ _ _ _ _ _ _ _ _ _ _ _ _ _ _ _ _ a=>absurd a (h _)
def RV.nd {P Al F o}(h:RV P Al F o)(b:∀f,¬Al (900000+f))(c):o.op≠.defer c:=λe=>by have:=h.2;rw[e]at this;obtain⟨_,f,_,a⟩:=this;exact b f a
structure Met (P:zZ)(Al:zF)(F:Kp):Prop where
 Re:KR P
 Uh:∀i,P.info? 1000000=aA i->i.methods.find? (·.name== "")=aB
 name:∀f fn,Al f->P.funcs[f]? =aA fn->fn.name≠ "runtime.NumGoroutine"
 nA:∀f fn,Al f->P.funcs[f]? =aA fn->fn.body=aB->Extern.findNext fn=aB/\∃e,Extern.find fn=aA e/\∀(π:Rn) MD xE,Ok P π->aY Al π MD xE->bR P Al F (VR Al) π (e MD) (e xE)
section
variable {P:zZ}{Al:zF}{F:Kp}{π:Rn}{α β γ δ:Type}{A:Rn->α->β->Prop} [ok:Ok P π]
def gS {s s'}(h:bR P Al F (VR Al) π s s'):bR P Al F (qD Al) π (do pure (.value (<-s))) (do pure (.value (<-s'))):=by refine aR _ h ?_;intro b v c ok d a;exact aS (.value a)
def im {s s'}(h:bR P Al F ER π s s'):bR P Al F (qD Al) π (do s;pure .skip) (do s';pure .skip):=by refine aR _ h ?_;rintro a _ _ ok b rfl;exact aS .skip
def TU (e:KR P){b ts t}(d:CM P b ts t)(cs){c a}(f:b= .unsafeSliceData->∀x,c[0]? =aA x->∀b n s,Al (1000002+b)->x≠.slice (aA ⟨b,n,s⟩) 0 0)(h:aY Al π c a):
  bR P Al F (qD Al) π (builtin b ts t cs c) (builtin b ts t cs a):=by
 cases b<;>first
  |exact d.elim
  |exact gS (ZT e d t h)
  |exact gS (Ig e d t h)
  |exact gS (Vb ts t h)
  |exact gS (Nu ts t h)
  |exact gS (Va ts t h)
  |exact gS (Uz ts t h)
  |exact gS (BF ts t h)
  |exact gS (vK d ts (f rfl) h)
def xW (M:Met P Al F){f}(j:Al f){d x}(h:aY Al π d x)(m:d.size<=20):bR P Al F (qD Al) π (callFunc f d) (callFunc f x):=by
 refine dU (λB i=> ?_) ?_
 .obtain e|⟨a,b,k,z,y,w,v,_⟩:=i f
  .dsimp only;rw[e]
  .dsimp only;rw[k,z];dsimp only;rw[y,Option.isNone_eq_false_iff.2 w,Option.isNone_eq_false_iff.2 v];rfl
 rintro l p q ok i ⟨o,n⟩;rw[o,n];cases g:P.funcs[f]? with
 |none=>exact aT
 |some fn=>
  dsimp only;have r:=M.name f fn j g;have k:=zEb r;rw[k];simp only[zBa,zDg];cases hb:fn.body with
  |some c=>exact aS (.enter j (h.mono i) m)
  |none=>obtain⟨u,e,t,s⟩:=M.nA f fn j g hb;simp only[Option.isNone_none,zCy,u,t];refine .mark (aH ⟨f,rfl⟩) ?_;exact gS (s l d x ok (h.mono i))
def PQ (x){v v'}(h:bE Al π v v')(wr):bR P Al F (VR Al) π (receiverAt x (.val v) aE wr) (receiverAt x (.val v') aE wr):=by
 refine aR _ (bB x) ?_;rintro d a b ok c ⟨rfl,_⟩;cases a with
 |pointer e=>exact aS (h.mono c)
 |_=>exact aT
def ZM {name}(q:xB P Al name)(fuel)(t){v v'}(h:bE Al π v v'):
  bR P Al F (λπ a b=>b.1=a.1/\Al a.1/\bE Al π a.2 b.2) π (method fuel t v name) (method fuel t v' name):=by
 cases fuel with
 |zero=>exact aU
 |succ fuel=>
  refine aR _ (eW t) ?_;rintro j i _ ok n ⟨rfl,hi⟩;cases r:i.methods.find? (·.name==name)with
  |none=>exact aT
  |some m=>
   obtain⟨p,f,c,d⟩:=q t i m hi r;dsimp only;rw[p,c];have e:∀x,follow (#[]:Array FieldStep).toList t x=pure (t,x):=λx=>by rfl
   rw[e,e];show bR P Al F _ j (do pure (f,<-receiverAt t (.val v) aE (if(#[]:Array FieldStep).isEmpty=aE then aA ((name.splitOn ".").getLastD name)else aB))) (do pure (f,<-receiverAt t (.val v') aE (if(#[]:Array FieldStep).isEmpty=aE then aA ((name.splitOn ".").getLastD name)else aB)));refine aR _ (PQ t (h.mono n) _) ?_;intro g x s o l k;exact aS ⟨rfl,d,k⟩
def GI (M:Met P Al F){name}(v:xB P Al name){x i}(m:bE Al π x i){a b}(h:aY Al π a b)(B:a.size<=10):
  bR P Al F (qD Al) π (invoke (.fn (.method name) #[]) (#[x]++a)) (invoke (.fn (.method name) #[]) (#[i]++b)):=by
 have e:∀(x:zY)(a:zA),invoke (.fn (.method name) #[]) (#[x]++a)=callMethod x name a:=λx a=>by
  have d:(#[x]++a)[0]? =aA x:=by rw[zDd (by simp)];rfl
  have w:(#[x]++a).extract 1 (#[x]++a).size=a:=by rw[Array.extract_append];simp
  unfold invoke;rw[d,w]
 rw[e,e];cases m with
 |iface t n=>refine dU (λ_ _=>rfl) ?_;rintro y p q ok j ⟨u,s⟩;rw[u,s];refine aR _ (ZM v _ t (n.mono j)) ?_;rintro l ⟨f,r⟩ ⟨C,z⟩ o g ⟨d,c,k⟩;dsimp only at d c k;subst d;exact xW M c ((aY.one k).append ((h.mono j).mono g)) (by simp only[zEi,zAq,zAi,zBb];omega)
 |nilIface=>exact jB
 |_=>exact aT
def DD (M:Met P Al F){d a}(h:KU Al π d a):bR P Al F (qD Al) π (invoke d.target d.args) (invoke a.target a.args):=by
 cases h with
 |fn e f b c=>exact xW M e (b.append f) (by simpa only[zEi]using c)
 |nil b=>exact jB
omit ok in
def EZ {e f}(l:Array Operand)(h:∀x∈l,bE Al π (e x) (f x)):aY Al π (l.map e) (l.map f):=by refine⟨by simp,λi v g d a=> ?_⟩;rw[zCj]at d a;obtain⟨x,c,rfl⟩:=zBp.1 d;obtain⟨y,b,rfl⟩:=zBp.1 a;rw[c]at b;cases b;exact h x (zBi c)
def TL {x d}(c:¬∃z,x=(.func (.method "") #[.iface 1000000 .nilIface] #[z]))(e:bE Al π x d){b a}(h:aY Al π b a)(l:b.size<=10):bR P Al F (KU Al) π (aGj x b) (aGj d a):=by
 cases e with
 |func f k j m i g=>exact aS (.fn f ⟨j,g⟩ ((aY.mk k i).append h) (by simp only[zEi];omega))
 |nilFunc=>exact aS (.nil h)
 |junk v _=>exact absurd ⟨_,rfl⟩ c
 |same _ z=>exact absurd ⟨z,rfl⟩ c
 |_=>exact aT
def GL {x f}(i:bE Al π x f):bR P Al F (VR Al) π (Instr.panic x) (Instr.panic f):=by
 cases i with
 |iface t h=>exact nX (.iface t h)
 |nilIface=>
  refine aR ER ?_ ?_
  .unfold Instr.panicnil;refine .env λr=> ?_;refine aR ER (aS rfl) ?_;rintro d r _ ok g rfl;cases r<;>first|exact aT|skip
   refine dU (λ_ _=>rfl) ?_;rintro d p q ok g ⟨c,b⟩;rw[c,b];exact aS rfl
  .rintro d n _ ok g rfl;split
   .exact nX .nilIface
   .unfold aGh;refine dU (λ_ _=>rfl) ?_;rintro u p q ok l ⟨c,b⟩;rw[c,b];refine aR _ (wR _) ?_;rintro s e _ ok k ⟨rfl,_⟩;refine aR _ (wP (.agg rfl (by simp)) e) ?_;intro o a v ok j m;exact nX (.iface _ (.pointer (.some m)))
 |_=>exact aT
def PR {x g}(l:∀i,P.info? 1000000=aA i->i.methods.find? (·.name== "")=aB)(r:bE Al π x g)(e m:Operand->zY)(o j)(y)(v:o.op= .nilCheck y)(f:j.op= .nilCheck y)(q:e y=x)(d:m y=g):bR P Al F (qD Al) π (aGi e o) (aGi m j):=by
 unfold aGi;rw[v,f];dsimp only;rw[q,d];cases r with
 |pointer u=>cases u with
  |none=>exact jB
  |some h=>exact aS (.value (.pointer (.some h)))
 |nilIface=>exact jB
 |nilFunc=>exact jB
 |func w a E p D C=>exact aS (.value (.func w a E p D C))
 |bool b=>exact aS (.value (.bool b))
 |int k n=>exact aS (.value (.int k n))
 |string s=>exact aS (.value (.string s))
 |slice y n c=>exact aS (.value (.slice y n c))
 |void B a0=>exact aS (.value (.void B a0))
 |iface t i=>exact aS (.value (.iface t i))
 |jQ=>exact aS (.value .jQ)
 |gY=>exact aS (.value .gY)
 |agg a i=>exact aS (.value (.agg a i))
 |tuple a i=>exact aS (.value (.tuple a i))
 |junk G _=>exact .dead (CE (wH l _ _ sF))
 |same _ z=>exact .dead (CE (wH l _ _ sF))
omit ok in
def QJ {e a}(x:Option Operand)(h:∀y∈x.toArray,bE Al π (e y) (a y)):lO Al π (x.map e) (x.map a):=by
 cases x with
 |none=>exact .none
 |some y=>exact .some (h y (by simp))
omit ok in
def NA {e a:Operand->zY}:∀(l:List (Nat×Operand)),(∀p∈l,bE Al π (e p.2) (a p.2))->wJ Al π (l.map λ(i,x)=>(i,e x)) (l.map λ(i,x)=>(i,a x))
 |[],_=>trivial
 |p::l,h=>⟨rfl,h p (by simp),NA l λq b=>h q (by simp[b])⟩
omit ok in
def NB {e b:Operand->zY}(a:Array (Nat×Operand))(h:∀x∈(a.toList.map (·.2)).toArray,bE Al π (e x) (b x)):wJ Al π (a.map λ(i,x)=>(i,e x)).toList (a.map λ(i,x)=>(i,b x)).toList:=by rw[zGb,zGb];exact NA a.toList λp c=>h p.2 (by simp only[zAs,zCh];exact⟨p,c,rfl⟩)
def DI (M:Met P Al F){o}(L:RV P Al F o){e C}(K:RX P F o e)(hs:dw Al o e)(H:∀c,o.op≠.defer c)(N:∀x,CL P Al x->bE Al π (e x) (C x)):bR P Al F (qD Al) π (aGi e o) (aGi C o):=by
 obtain⟨B,j⟩:=L;have g:∀x∈o.op.operands,bE Al π (e x) (C x):=λx q=>N x (B x q);cases s:o.op;case nilCheck x=>rw[s]at g;exact PR M.Uh (g x (by simp[Op.operands])) e C o o x s s rfl rfl
 all_goals
  rw[s]at j g
  unfold aGi
  rw[s]
 case move x=>exact aS (.value (g _ (by simp[Op.operands])))
 case assign x=>exact aS (.value (g _ (by simp[Op.operands])))
 case pick c a b=>
  refine aR _ (GP (g c (by simp[Op.operands]))) ?_
  rintro D t _ ok hs rfl
  refine aS (.value ?_)
  cases t
  .exact(g b (by simp[Op.operands])).mono hs
  .exact(g a (by simp[Op.operands])).mono hs
 case alloc t=>exact gS (Ik M.Re j)
 case box t x=>exact gS (Vd t (g x (by simp[Op.operands])))
 case build t E=>exact gS (Ih M.Re j (NB E g))
 case buildSlice t n E=>exact gS (GO M.Re j n (NB E g))
 case load t a=>
  refine gS ?_
  refine aR _ (lA (g a (by simp[Op.operands]))) ?_
  intro D x S ok hs q
  exact DC q t
 case store t a x=>
  refine im ?_
  refine aR _ (lA (g a (by simp[Op.operands]))) ?_
  intro D y R ok hs v
  exact PO v ((g x (by simp[Op.operands])).mono hs) t
 case binOp op t x y u=>
  refine gS ?_
  refine aR _ (TR op t x y (g x (by simp[Op.operands])) (g y (by simp[Op.operands]))) ?_
  rintro D _ _ ok hs rfl
  exact Ii op t j.1 (K op t x y u s) ((g x (by simp[Op.operands])).mono hs) ((g y (by simp[Op.operands])).mono hs)
 case unOp op t x=>exact gS (Hy op (g x (by simp[Op.operands])))
 case convert a b x=>exact gS (TS j (g x (by simp[Op.operands])))
 case makeInterface t x=>exact gS (xT t (g x (by simp[Op.operands])))
 case makeFunc fn first captured=>
  obtain⟨G,j⟩:=j
  cases fn with
  |func f=>
   have J:=EZ first λx q=>g x (by simp[Op.operands,q])
   have I:=EZ captured λx q=>g x (by simp[Op.operands,q]);exact aS (.value (.func j J.size I.size (by simpa only[aGe]using G) J.at' I.at'))
  |_=>exact j.elim
 case makeSlice t l c=>exact gS (LA M.Re j (g l (by simp[Op.operands])) (g c (by simp[Op.operands])))
 case slice t x l h m=>
  exact gS (TH t (g x (by simp[Op.operands])) (QJ l λy v=>g y (by simp only[Op.operands];simp only[zEl];exact aG (aG (aH v))))
   (QJ h λy v=>g y (by simp only[Op.operands];simp only[zEl];exact aG (aH v))) (QJ m λy v=>g y (by simp only[Op.operands];simp only[zEl];exact aH v)))
 case fieldAddr t x i=>exact gS (TP t (g x (by simp[Op.operands])) i)
 case field t x i=>exact gS (Ie t (g x (by simp[Op.operands])) i)
 case indexAddr t x i=>exact gS (TN t (g x (by simp[Op.operands])) (g i (by simp[Op.operands])))
 case index t x i=>exact gS (Ic t (g x (by simp[Op.operands])) (g i (by simp[Op.operands])))
 case extract x i=>exact gS (TQ (g x (by simp[Op.operands])) i)
 case panic x=>exact gS (GL (g x (by simp[Op.operands])))
 case call c=>
  have k:aY Al π (c.args.map e) (c.args.map C):=EZ c.args λx q=>g x (by simp only[Op.operands,Call.operands,zEl];exact aH q)
  obtain⟨G,j⟩:=j
  have w:(c.args.map e).size<=10:=by rw[aGe];exact G
  obtain⟨callee,args,T⟩:=c
  cases callee with
  |value f=>by_cases p:∃z,e f=(.func (.method "") #[.iface 1000000 .nilIface] #[z]);{obtain⟨z,p⟩:=p;refine .dead ?_;show nK P (do let d<-aGj (e f) (args.map e);invoke d.target d.args);rw[p];exact XK M.Uh z _};refine aR _ (TL p (g f (by simp[Op.operands,Call.operands])) k w) ?_;intro D d U ok hs O;exact DD M O
  |builtin b=>exact TU M.Re j _ (λQ=>hs _ s (by rw[Q])) k
  |invoke r m=>exact GI M j (g r (by simp[Op.operands,Call.operands])) k w
 case defer c=>exact absurd s (H c)
 all_goals exact j.elim
def GK (M:Met P Al F){d a}(h:KU Al π d a):bR P Al F (KN Al) π (invoke d.target d.args) (invoke a.target a.args):=(DD M h).imp λ_ _ _ x=>x.to
def GN (M:Met P Al F){o:Oper}(m:RV P Al F o){e b:Operand->zY}(r:RX P F o e)(hs:dw Al o e)(j:∀x,CL P Al x->bE Al π (e x) (b x))(u:∀f,e (.func f)= .func (.func f) #[] #[]:=by exactλ_=>rfl)(k:∀f,b (.func f)= .func (.func f) #[] #[]:=by exactλ_=>rfl):bR P Al F (KN Al) π (aGi e o) (aGi b o):=by
 by_cases g:∃c,o.op= .defer c
 .obtain⟨c,n⟩:=g;obtain⟨h,d⟩:=m;rw[n]at h d;obtain⟨p,f,i,t⟩:=d;obtain⟨callee,args,v⟩:=c;dsimp only at i p;subst i;have a:=EZ args λx q=>j x (h x (by simp[Op.operands,Call.operands,q]));have s:bE Al π (e (.func f)) (b (.func f)):=j _ (h _ (by simp[Op.operands,Call.operands]));unfold aGi;rw[n];show bR P Al F (KN Al) π (do pure (Next.defer (<-aGj (e (.func f)) (args.map e)))) (do pure (Next.defer (<-aGj (b (.func f)) (args.map b))));rw[u f,k f];have l:=h (.func f) (by simp[Op.operands,Call.operands]);exact aS (.defer ⟨.fn l .nil ((aY.nil).append a) (by simp;omega),f,_,_,rfl,t⟩)
 exact(DI M m r hs (λc i=>g ⟨c,i⟩) j).imp λ_ _ _ x=>x.to
end
open Go.Conc (G)
def mB (P:zZ)(Al:zF)(F:Kp):Code->Prop
 | .region _ ops _=>∀o∈ops,RV P Al F o
 | .seq a b=>mB P Al F a/\mB P Al F b
 | .cond c a b=>CL P Al c/\mB P Al F a/\mB P Al F b
 | .block _ b| .loop b| .scope b=>mB P Al F b
 | .rangeFunc .. =>False
 |_=>True
def lK (P:zZ)(Al:zF)(F:Kp):Item->Prop
 | .code c| .inLoop c| .inScope c=>mB P Al F c
 | .inBlock _=>True
 |aM ops _=>∀o∈ops,RV P Al F o
 |_=>False
structure Gj (Al:zF)(π:Rn)(x x':PanicEntry):Prop where
 v:bE Al π x.v x'.v
 recovered:x'.recovered=x.recovered
 goexit:x'.goexit=x.goexit
inductive gR {α:Type}(R:α->α->Prop):List α->List α->Prop
 |nil:gR R [] []
 |cons {a a':α} {l l':List α} (h:R a a') (hl:gR R l l'):gR R (a::l) (a'::l')
inductive RY (Al:zF)(π:Rn):FrameMode->FrameMode->Prop
 |run:RY Al π .run .run
 |returning:RY Al π .returning .returning
 |panicking {l l':List PanicEntry} (h:gR (Gj Al π) l l'):RY Al π (.panicking l) (.panicking l')
def gR.imp {α:Type}{R S:α->α->Prop}(h:∀a b,R a b->S a b):∀{l c:List α},gR R l c->gR S l c
 |_,_,.nil=> .nil
 |_,_,.cons x y=> .cons (h _ _ x) (y.imp h)
def gR.append {α:Type}{R:α->α->Prop}:∀{l b m a:List α},gR R l b->gR R m a->gR R (l++m) (b++a)
 |_,_,_,_,.nil,k=>k
 |_,_,_,_,.cons x y,k=> .cons x (y.append k)
structure cQ (P:zZ)(Al:zF)(F:Kp)(π:Rn)(fr fr':zC):Prop where
 fn:fr'.fn=fr.fn
 al:Al fr.fn
 tmps:aY Al π fr.tmps fr'.tmps
 todo:fr'.todo=fr.todo
 items:∀i∈fr.todo,lK P Al F i
 defers:gR (KT Al π) fr.defers fr'.defers
 mode:RY Al π fr.mode fr'.mode
 kind:fr'.kind=fr.kind
 kinds:fr.kind= .normal\/fr.kind= .deferred
 round:fr.roundOf=aB
 qI:fr'.roundOf=aB
def RY.mono {Al π ρ}(h:∀b b',π b b'->ρ b b'){m c}(x:RY Al π m c):RY Al ρ m c:=by
 cases x with
 |run=>exact .run
 |returning=>exact .returning
 |panicking l=>exact .panicking (l.imp λa b y=>⟨y.v.mono h,y.recovered,y.goexit⟩)
def cQ.mono {P:zZ}{Al:zF}{F:Kp}{π ρ:Rn}(h:∀b b',π b b'->ρ b b'){fr fr':zC}(x:cQ P Al F π fr fr'):cQ P Al F ρ fr fr':=
 ⟨x.fn,x.al,x.tmps.mono h,x.todo,x.items,x.defers.imp λ_ _ y=>y.mono h,x.mode.mono h,x.kind,x.kinds,x.round,x.qI⟩
structure yw (P:zZ)(Al:zF)(F:Kp)(π:Rn)(cs cs':zL)(g g':zH)(fr fr':zC)(own own':zL):Prop where
 left:g=G fr (own++cs)
 right:g'=G fr' (own'++cs')
 frame:cQ P Al F π fr fr'
 own:gR (cQ P Al F π) own own'
def GR (P:zZ)(Al:zF)(F:Kp)(π:Rn)(cs cs':zL)(g a:zH):Prop:=∃fr fr' own own',yw P Al F π cs cs' g a fr fr' own own'
structure cI (P:zZ)(Al:zF)(F:Kp):Prop where
 met:Met P Al F
 body:∀f fn c,Al f->P.funcs[f]? =aA fn->fn.body=aA c->mB P Al F c
def Stepped (P:zZ)(Al:zF)(F:Kp)(π:Rn)(cs cs':zL)(v w:zW)(s s':GStep):Prop:=
 (∃o u c,s= .ended o u c)\/(∃fr own a c,s= .go (G fr (own++cs)) a c/\Xn F a)\/
 ∃d f a c g w1 b,s= .go f a c/\s'= .go g w1 b/\GR P Al F d cs cs' f g/\bV P Al F d a w1/\jM F π d v a w w1/\∀e∈b,nJ F d e
section
variable {P:zZ}{Al:zF}{F:Kp}{π:Rn}{cs cs' own own':zL}{v w:zW}{fr fr':zC}
def cQ.eval (h:cQ P Al F π fr fr')(ok:Ok P π)(x)(b:CL P Al x):bE Al π (fr.eval x) (fr'.eval x):=by
 cases x with
 |tmp t=>simp only[Frame.eval];obtain⟨d,e⟩|⟨a,j,d,e,i⟩:=h.tmps.get t;{simp only[zAu,d,e];exact eJ};{simp only[zAu,d,e];exact i}
 |const c=>exact b π ok
 |global g=>exact .pointer (.some ⟨ok.iH g b,rfl,rfl⟩)
 |func f=>exact .func b rfl rfl (by simp) (by simp) (by simp)
def Stepped.same (h:bV P Al F π v w){f f'}(b:cQ P Al F π f f')(a:gR (cQ P Al F π) own own'):
  Stepped P Al F π cs cs' v w (.go (G f (own++cs)) v) (.go (G f' (own'++cs')) w):=by
 exact aH (aH ⟨π,_,v,_,_,w,#[],rfl,rfl,⟨f,f',own,own',rfl,rfl,b,a⟩,h,jM.refl v w,by simp⟩)
def Stepped.ended {o u es s'}:Stepped P Al F π cs cs' v w (.ended o u es) s':=aG ⟨o,u,es,rfl⟩
def Cj {id}:∀{k k'},exitTo id k=aA k'->∀i∈k',i∈k:=by
 intro k;induction k with
 |nil=>intro k' h;cases h
 |cons x k a=>
  intro k' h i hi;cases x with
  |inBlock b=>simp only[exitTo]at h;split at h;{cases h;exact zBl _ hi};{exact zBl _ (a h i hi)}
  |_=>simp only[exitTo]at h;exact zBl _ (a h i hi)
def QW:∀{c l r},mB P Al F c->findLabel c l=aA r->mB P Al F r:=by
 intro c;induction c with
 |seq a b f i=>intro l r h d;simp only[findLabel]at d;split at d;{rename_i rest e;cases d;exact⟨f h.1 e,h.2⟩};{exact i h.2 d}
 |label g=>intro l r h d;simp only[findLabel]at d;split at d;{cases d;trivial};{cases d}
 |_=>intro l r h d;simp only[findLabel]at d;cases d
def Km {l}:∀{k k'},(∀i∈k,lK P Al F i)->gotoIn l k=aA k'->∀i∈k',lK P Al F i:=by
 intro k;induction k with
 |nil=>intro k' h a;cases a
 |cons x k d=>
  intro k' h a i hi;have c:∀i∈k,lK P Al F i:=λi hi=>h i (zBl _ hi);cases x with
  |inScope body=>
   simp only[gotoIn]at a;split at a
   .rename_i rest b;cases a;have e:=h _ (zBj);obtain rfl|hi:=zAf.1 hi
    .exact QW e b
    .obtain rfl|hi:=zAf.1 hi
     .exact e
     .exact c i hi
   .exact d c a i hi
  |_=>simp only[gotoIn]at a;exact d c a i hi
end
def Ar:Nat->zY->Bool
 |0,_=>aF
 |n+1,v=>match v with
  | .bool _| .int _ _| .string _| .pointer aB| .slice aB _ _| .nilFunc| .nilIface| .map aB| .chan aB=>aE
  | .iface _ v=>Ar n v
  | .agg cs| .tuple cs=>cs.toList.all (Ar n)
  |_=>aF
def yL:∀(n:Nat)(v:zY),Ar n v=aE->Flat v
 |0,_,h=>by simp[Ar]at h
 |n+1,v,h=>by
  intro Al g;have d:∀cs:zA,cs.toList.all (Ar n)=aE->∀(i:Nat)(v j:zY),cs[i]? =aA v->cs[i]? =aA j->bE Al g v j:=λcs q i v j o p=>by rw[o]at p;cases p;exact yL n v (zBt.1 q v (by rw[<-zBr]at o;exact zCr o)) Al g
  cases v with
  |bool b=>exact .bool b
  |int k n=>exact .int k n
  |string s=>exact .string s
  |pointer a=>
   cases a with
   |none=>exact .pointer .none
   |some a=>simp[Ar]at h
  |slice a l c=>
   cases a with
   |none=>exact .slice .none l c
   |some a=>simp[Ar]at h
  |nilFunc=>exact .nilFunc
  |nilIface=>exact .nilIface
  |map r=>
   cases r with
   |none=>exact .jQ
   |some r=>simp[Ar]at h
  |chan r=>
   cases r with
   |none=>exact .gY
   |some r=>simp[Ar]at h
  |iface t v=>exact .iface t (yL n v (by simpa [Ar]using h) Al g)
  |agg cs=>exact .agg rfl (d cs (by simpa only[Ar]using h))
  |tuple cs=>exact .tuple rfl (d cs (by simpa only[Ar]using h))
  |_=>simp[Ar]at h
def WK (P:zZ):Nat->zD->Bool
 |0,_=>aF
 |f+1,t=>match P.underlying t with
  |some (.func _ _ _)|some (.interface _)=>aF
  |some (.struct a)=>a.toList.all λx=>WK P f x.type
  |some (.array _ e)=>WK P f e
  |_=>aE
def Vz {P}:∀f t,WK P f t=aE->∀d,KL P d t:=by
 intro f;induction f with
 |zero=>intro t h;cases h
 |succ f i=>
  intro t g d;cases d with
  |zero=>trivial
  |succ d=>
   unfold KL;unfold WK at g;cases hu:P.underlying t with
   |none=>trivial
   |some u=>
    rw[hu]at g;cases u with
    |func a b c=>cases g
    |interface ms=>cases g
    |struct k=>exactλx j=>i x.type (zBt.1 g x j) d
    |array n e=>exact i e g d
    |_=>trivial
def jc (op:BinOp):Bool:=match op with| .eql| .neq=>aF|_=>aE
structure Ck where
 al:zN->Bool
 uf:zD->Bool
 mt:String->Bool
 mark:Bool
section
variable(P:zZ)(C:Ck)
def As:Operand->Bool
 | .tmp _=>aE
 | .const v=>Ar 8 v
 | .global g=>decide (g<=P.globals.size)
 | .func f=>C.al f
def IP (t:zD):Bool:=match P.underlying t with|some (.pointer e)=>C.uf e|_=>aE
def At (s d:zD):Bool:=
 IP P C s&&IP P C d&&(match P.underlying d with|some (.slice _)=>C.mark||(match P.underlying s with|some (.slice _)=>aF|_=>aE)|some (.float _)|some (.complex _)=>aF|_=>aE)&&
  (match P.underlying s with|some (.slice e)=>(match P.underlying e with|some (.int .i32)=>aF|_=>aE)|_=>aE)&&(match P.underlying d with|some (.slice e)=>(match P.underlying e with|some (.int .i32)=>aF|_=>aE)|_=>aE)&&
  (match P.underlying s with|some (.slice _)=>(match P.underlying d with|some (.slice _)=>aF|_=>aE)|_=>aE)
def jd (op:BinOp)(t:zD):Bool:=
 match op with
 | .eql| .neq=>(match P.underlying t with
  |some .bool|some (.int _)|some .string=>aE
  |some (.pointer e)=>(match P.info? e with|some i=>decide (i.size≠0)|none=>aF)
  |_=>aF)
 |_=>aE
def uU (b:Builtin)(ts:Array zD)(t:zD):Bool:=
 match b with
 | .append| .clear=>(match ts[0]? with|some u=>decide (u<P.types.size)|none=>aE)
 | .cap| .copy| .len| .min| .unsafeString=>aE
 | .unsafeSliceData=>IP P C t
 |_=>aF
def an (o:Oper):Bool:=
 o.op.operands.toList.all (As P C)&&
 match o.op with
 | .move _| .assign _| .pick .. | .box .. | .load .. | .store .. | .nilCheck _| .unOp .. | .makeInterface .. | .slice .. | .fieldAddr .. | .field .. | .indexAddr .. | .index .. | .extract .. | .panic _=>aE
 | .alloc t| .build t _| .buildSlice t _ _| .makeSlice t _ _=>decide (t<P.types.size)
 | .binOp op t _ _ _=>(jc op||WK P 9 t)&&(C.mark||jd P op t)
 | .convert s d _=>At P C s d
 | .makeFunc fn a b=>decide (a.size+b.size<=10)&&match fn with| .func f=>C.al f|_=>aF
 | .call c=>decide (c.args.size<=10)&&match c.callee with| .value _=>aE| .builtin b=>uU P C b c.argTypes o.type| .invoke _ m=>C.mt m
 | .defer c=>decide (c.args.size<=10)&&match c.callee with| .value (.func f)=>C.al (900000+f)|_=>aF
 |_=>aF
def oT:Code->Bool
 | .region _ ops _=>ops.toList.all (an P C)
 | .seq a b=>oT a&&oT b
 | .cond c a b=>As P C c&&oT a&&oT b
 | .block _ b| .loop b| .scope b=>oT b
 | .rangeFunc .. =>aF
 |_=>aE
end
section
variable {P:zZ}{C:Ck}{F:Kp}(Mj:∀e,C.uf e=aE->kE P e)(qb:∀m,C.mt m=aE->xB P (λf=>C.al f=aE) m)(Fb:C.mark=aE->∀b,¬F b)(Ye:C.mark=aF->¬F.cmp)
def NF {x}(h:As P C x=aE):CL P (λf=>C.al f=aE) x:=by
 cases x with
 |tmp t=>trivial
 |const v=>exactλa _=>yL 8 v h _ a
 |global g=>exact(of_decide_eq_true h:g<=P.globals.size)
 |func f=>exact h
include Mj in
def BP {t:zD}(h:IP P C t=aE)(e:zD)(a:P.underlying t=aA (.pointer e)):kE P e:=by unfold IP at h;rw[a]at h;exact Mj e h
include Mj Fb Ye in
def Ji {s d:zD}(h:At P C s d=aE):Du P F s d:=by
 unfold At at h;simp only[zBc]at h;obtain⟨⟨⟨⟨⟨o,n⟩,c⟩,l⟩,j⟩,i⟩:=h;refine⟨λe a=>a.elim (BP Mj o e) (BP Mj n e),λ⟨e,a⟩=> ?_,λk a=> ?_,λk a=> ?_,λe p a g=> ?_,λe a hi=> ?_⟩
 .rw[a]at c;dsimp only at c;cases hm:C.mark with
  |true=>exact aG (Fb hm)
  |false=>rw[hm,zGc]at c;refine aH ⟨Ye hm,λp g=> ?_⟩;rw[g]at c;cases c
 .rw[a]at c;cases c
 .rw[a]at c;cases c
 .rw[a]at i;dsimp only at i;rw[g]at i;cases i
 .obtain a|a:=a
  .rw[a]at l;dsimp only at l;rw[hi]at l;cases l
  .rw[a]at j;dsimp only at j;rw[hi]at j;cases j
include Mj in
def QK {b:Builtin}{ts:Array zD}{t:zD}(h:uU P C b ts t=aE):CM P b ts t:=by
 cases b with
 |append|clear=>intro u a;simp only[uU,a]at h;exact of_decide_eq_true h
 |cap|copy|len|min|unsafeString=>trivial
 |unsafeSliceData=>exact BP Mj h
 |_=>simp[uU]at h
include Mj qb Fb Ye in
def Vv {o:Oper}(h:an P C o=aE):RV P (λf=>C.al f=aE) F o:=by
 unfold an at h;rw[zBc]at h;obtain⟨w,g⟩:=h;refine⟨λx q=>NF (zBt.1 w x (zDw.2 q)),?_⟩;cases p:o.op<;>rw[p]at g<;>dsimp only at g⊢<;>first|trivial|exact of_decide_eq_true g|exact Ji Mj Fb Ye g|(cases g;done)|skip
 case binOp op t x y u=>
  rw[zBc]at g
  obtain⟨s,g⟩:=g
  refine⟨λv=>Vz 9 t ?_ _,?_⟩
  .obtain rfl|rfl:=v<;>simpa [jc]using s
  rw[zDn]at g;obtain g|g:=g;{exact aG (aH (Fb g))}
  .right;by_cases n:op≠.eql/\op≠.neq
   .exact aG n
   .right;have j:(match P.underlying t with|some .bool|some (.int _)|some .string=>aE|some (.pointer e)=>(match P.info? e with|some i=>decide (i.size≠0)|none=>aF)|_=>aF)=aE:=by
     cases op<;>first|exact g|exact absurd ⟨by simp,by simp⟩ n
    cases hu:P.underlying t with
    |none=>rw[hu]at j;cases j
    |some d=>
     rw[hu]at j;cases d with
     |bool=>exact aG (aG hu)
     |int k=>exact aG (aH (aG ⟨k,hu⟩))
     |string=>exact aG (aH (aH hu))
     |pointer e=>
      dsimp only at j;cases hi:P.info? e with
      |none=>rw[hi]at j;cases j
      |some i=>rw[hi]at j;exact aH ⟨e,i,rfl,hi,of_decide_eq_true j⟩
     |_=>cases j
 case makeFunc fn a b=>
  rw[zBc]at g
  refine⟨of_decide_eq_true g.1,?_⟩
  have n:=g.2
  cases fn<;>first|exact n|cases n
 case call c=>
  rw[zBc]at g
  refine⟨of_decide_eq_true g.1,?_⟩
  replace g:=g.2
  cases l:c.callee with
  |value f=>trivial
  |builtin b=>rw[l]at g;exact QK Mj g
  |invoke r m=>rw[l]at g;exact qb m g
 case defer c=>
  rw[zBc]at g
  refine⟨of_decide_eq_true g.1,?_⟩
  replace g:=g.2
  cases l:c.callee with
  |value x=>
   rw[l]at g;cases x with
   |func f=>exact⟨f,rfl,g⟩
   |_=>cases g
  |_=>rw[l]at g;cases g
include Mj qb Fb Ye in
def Jj:∀{c:Code},oT P C c=aE->mB P (λf=>C.al f=aE) F c:=by
 intro c;induction c with
 |region id ops d=>exactλh o i=>Vv Mj qb Fb Ye (zBt.1 h o (zDw.2 i))
 |seq a b g hb=>intro h;rw[oT,zBc]at h;exact⟨g h.1,hb h.2⟩
 |cond c a b g hb=>intro h;rw[oT,zBc,zBc]at h;exact⟨NF h.1.1,g h.1.2,hb h.2⟩
 |block id b hb=>exactλh=>hb h
 |loop b hb=>exactλh=>hb h
 |scope b hb=>exactλh=>hb h
 |rangeFunc=>intro h;simp[oT]at h
 |_=>intro _;trivial
end
end Go.Ren
