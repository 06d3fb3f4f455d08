import Derived.Conc.Own4
set_option linter.all false
set_option maxRecDepth 100000
set_option maxHeartbeats 16000000
open Option renaming some->aA,none->aB
open Bool renaming true->aE,false->aF
open Or renaming inl->aG,inr->aH
open Go.Obj renaming cells->aI
open Go.IntKind renaming u8->aP
open Array renaming size_extract->aCx,replicate->aCy
open Except renaming ok->aCz,error->aCA
namespace Go
abbrev zT:=Nat->Question->Nat
abbrev zS:=Frame->List Frame->World->Prop
abbrev zU:=Goroutine->World->Prop
abbrev zR:=Value->World->Prop
abbrev zX:=Exit->Act->World->Prop
abbrev zF:=FuncId->Prop
abbrev zP:=Nat->Prop
abbrev zLL:=List (List UInt8)
abbrev zII:=List (Int × Int)
abbrev zA:=Array Value
abbrev zB:=List UInt8
abbrev zO:=Option Addr
abbrev zL:=List Frame
abbrev zE:=Array Event
abbrev zG:=Array Goroutine
abbrev zV:=List Value
abbrev zQ:=Array Oper
abbrev zI:=List Item
abbrev zJ:=Array Obj
abbrev zW:=World
abbrev zY:=Value
abbrev zH:=Goroutine
abbrev zZ:=Program
abbrev zD:=TypeId
abbrev zN:=FuncId
abbrev zC:=Frame
abbrev zAa:=@Nat.le_refl
abbrev zAb:=@Array.getElem?_eq_some_iff
abbrev zAc:=@Nat.lt_of_lt_of_le
abbrev zAd:=@Array.getElem?_setIfInBounds_ne
abbrev zAe:=@List.length_cons
abbrev zAf:=@List.getElem?_eq_getElem
abbrev zAg:=@List.mem_cons
abbrev zAh:=@if_neg
abbrev zAi:=@List.getElem?_eq_some_iff
abbrev zAj:=@List.length_append
abbrev zAk:=@if_pos
abbrev zAl:=@List.size_toArray
abbrev zAm:=@Option.some.inj
abbrev zAn:=@List.length_take
abbrev zAo:=@Array.getElem?_setIfInBounds_self_of_lt
abbrev zAp:=@List.mem_toArray
abbrev zAq:=@List.getD_eq_getElem?_getD
abbrev zAr:=@Classical.choose_spec
abbrev zAs:=@Array.getElem?_eq_getElem
abbrev zAt:=@List.not_mem_nil
abbrev zAu:=@List.filter_cons_of_neg
abbrev zAv:=@Nat.zero_add
abbrev zAw:=@List.mem_singleton
abbrev zAx:=@Option.map_some
abbrev zAy:=@List.append_nil
abbrev zAz:=@List.mem_cons_self
abbrev zBa:=@List.length_drop
abbrev zBb:=@Array.size_push
abbrev zBc:=@Array.mem_of_getElem?
abbrev zBd:=@Bool.and_eq_true
abbrev zBe:=@List.mem_cons_of_mem
abbrev zBf:=@Bool.false_eq_true
abbrev zBg:=@List.take_of_length_le
abbrev zBh:=@Array.getElem?_push
abbrev zBi:=@Array.getD_eq_getD_getElem?
abbrev zBj:=@List.filter_cons_of_pos
abbrev zBk:=@Array.getElem?_eq_none
abbrev zBl:=@Nat.le_trans
abbrev zBm:=@List.length_nil
abbrev zBn:=@Array.length_toList
abbrev zBo:=@Array.getElem?_toList
abbrev zBp:=@Nat.zero_le
abbrev zBq:=@List.getElem?_append_right
abbrev zBr:=@List.eq_nil_of_length_eq_zero
abbrev zBs:=@decide_eq_true_eq
abbrev zBt:=@Array.getElem?_setIfInBounds
abbrev zBu:=@List.append_assoc
abbrev zBv:=@List.take_succ_eq_append_getElem
abbrev zBw:=@List.mem_range
abbrev zBx:=@Option.map_eq_some_iff
abbrev zBy:=@List.getElem?_take
abbrev zBz:=@List.mem_filter
abbrev zCa:=@List.all_eq_true
abbrev zCb:=@List.mem_of_mem_drop
abbrev zCc:=@Option.getD_some
abbrev zCd:=@Array.ext_getElem?
abbrev zCe:=@List.getElem?_append_left
abbrev zCf:=@beq_eq_false_iff_ne
abbrev zCg:=@List.mem_of_mem_take
abbrev zCh:=@List.mem_append
abbrev zCi:=@Nat.mul_le_mul_right
abbrev zCj:=@Classical.byContradiction
abbrev zCk:=@beq_iff_eq
abbrev zCl:=@List.nil_append
abbrev zCm:=@Array.empty_append
abbrev zCn:=@List.take_append_of_le_length
abbrev zCo:=@List.setIfInBounds_toArray
abbrev zCp:=@or_false
abbrev zCq:=@List.mem_of_getElem?
abbrev zCr:=@List.getElem_mem
abbrev zCs:=@List.cons_append
abbrev zCt:=@Array.getElem?_map
abbrev zCu:=@Array.getElem?_append_right
abbrev zCv:=@Nat.add_assoc
abbrev zCw:=@Option.bind_some
abbrev zCx:=@Array.toList_inj
abbrev zCy:=@decide_eq_false
abbrev zCz:=@UInt8.toNat_ofNat'
abbrev zDa:=@Option.bind_eq_some_iff
abbrev zDb:=@List.mem_map
abbrev zDc:=@List.getElem?_cons_zero
abbrev zDd:=@List.length_map
abbrev zDe:=@Array.size_setIfInBounds
abbrev zDf:=@if_true
abbrev zDg:=@List.set_cons_succ
abbrev zDh:=@List.pairwise_cons
abbrev zDi:=@List.length_replicate
abbrev zDj:=@List.getElem?_toArray
abbrev zDk:=@Array.getElem?_append_left
abbrev zDl:=@Array.mem_toList_iff
abbrev zDm:=@List.set_cons_zero
abbrev zDn:=@Array.append_empty
abbrev zDo:=@Bool.or_eq_true
abbrev zDp:=@if_false
abbrev zDq:=@List.drop_append_of_le_length
abbrev zDr:=@List.take_append_drop
abbrev zDs:=@List.filterMap_append
abbrev zDt:=@List.append_cancel_right
abbrev zDu:=@Array.getElem?_modify
abbrev zDv:=@List.getElem?_drop
abbrev zDw:=@ByteArray.ext
abbrev zDx:=@Nat.lt_or_ge
abbrev zDy:=@Array.toList_setIfInBounds
abbrev zDz:=@List.filterMap_cons
abbrev zEa:=@Array.toList_append
abbrev zEb:=@Array.size_append
abbrev zEc:=@Std.Legacy.Range.forIn_eq_forIn_range'
abbrev zEd:=@List.filter_append
abbrev zEe:=@Int.natCast_nonneg
abbrev zEf:=@List.take_length
abbrev zEg:=@decide_eq_false_iff_not
abbrev zEh:=@List.map_cons
abbrev zEi:=@decide_eq_true
abbrev zEj:=@Nat.succ_pos
abbrev zEk:=@List.getElem?_map
abbrev zEl:=@beq_false_of_ne
abbrev zEm:=@List.take_succ_cons
abbrev zEn:=@List.length_set
abbrev zEo:=@List.drop_of_length_le
abbrev zEp:=@beq_self_eq_true
abbrev zEq:=@Array.mem_append
abbrev zEr:=@UInt8.not_lt
abbrev zEs:=@Nat.zero_mul
abbrev zEt:=@Nat.lt_irrefl
abbrev zEu:=@Nat.eq_zero_or_pos
abbrev zEv:=@Nat.add_zero
abbrev zEw:=@ByteArray.data_append
abbrev zEx:=@Array.append_assoc
abbrev zEy:=@List.take_zero
abbrev zEz:=@List.pairwise_map
abbrev zFa:=@List.map_append
abbrev zFb:=@Array.setIfInBounds_comm
abbrev zFc:=@List.map_map
abbrev zFd:=@Nat.add_mul
abbrev zFe:=@List.map_toArray
abbrev zFf:=@List.drop_zero
abbrev zFg:=@Ne.symm
abbrev zFh:=@Array.forIn_toList
abbrev zFi:=@List.foldl_cons
abbrev zFj:=@List.push_toArray
abbrev zFk:=@List.cons.inj
abbrev zFl:=@Int.toNat_natCast
abbrev zFm:=@Bool.eq_false_iff
abbrev zFn:=@Classical.not_forall
abbrev zFo:=@List.drop_eq_getElem_cons
abbrev zFp:=@Array.mapM_eq_mapM_toList
abbrev zFq:=@List.any_eq_true
abbrev zFr:=@Nat.mul_one
abbrev zFs:=@List.map_congr_left
abbrev zFt:=@List.drop_succ_cons
abbrev zFu:=@Nat.mod_lt
abbrev zFv:=@List.mem_filterMap
abbrev zFw:=@List.getElem?_replicate
abbrev zFx:=@Array.all_eq_true_iff_forall_mem
abbrev zFy:=@UInt8.le_antisymm
abbrev zFz:=@Nat.not_lt
abbrev zGa:=@Nat.sub_self
abbrev zGb:=@Array.toList_map
abbrev zGc:=@Bool.false_or
abbrev zGd:=@List.filter_eq_self
abbrev zGe:=@getElem!_pos
abbrev zGf:=@Nat.add_comm
abbrev zGg:=@List.map_nil
abbrev zGh:=@List.filter_filter
abbrev zGi:=@List.take_left
abbrev zGj:=@List.drop_drop
abbrev zGk:=@List.length_filterMap_le
abbrev zGl:=@Array.getElem?_replicate
abbrev zGm:=@Go.Conc.stepG_region_end
abbrev zGn:=@Go.Conc.stepG_seq
abbrev zGu:=@Go.Conc.stepG_skip
abbrev zGw:=@Go.IntKind.wrap_i64
abbrev zGx:=@Go.Conc.stepG_region
abbrev zHb:=@Go.bodyPost_ret
abbrev zHe:=@Go.Conc.stepG_ret'
abbrev zHi:=@Go.Result.andThen_ok
end Go
namespace Go.Ren
abbrev Rn:=Nat->zP
def bV (π:Rn)(a a':Addr):Prop:=π a.block a'.block/\a'.off=a.off/\a'.spot=a.spot
def bV.add {π:Rn}{a a':Addr}(h:bV π a a')(n:Nat):bV π (a.add n) (a'.add n):=by
 obtain⟨c,b,d⟩:=h;unfold Addr.add;split
 .exact⟨c,b,d⟩
 .exact⟨c,by simp[b],rfl⟩
inductive AI (π:Rn):zO->zO->Prop
 |none:AI π aB aB
 |some {a a':Addr} (h:bV π a a'):AI π (aA a) (aA a')
def Jk:zY->Prop
 | .float _ _| .complex _ _ _| .pointer (aA _)| .slice (aA _) _ _| .map (aA _)| .chan (aA _)| .func _ _ _=>True
 |_=>False
def Jk.cells {x:zY}(h:Jk x):x.cells= #[x]:=by cases x<;>first|rfl|exact h.elim
def enc (a:Addr):Nat:=(a.block+a.off)*(a.block+a.off)+a.block
def Ri {a b:Addr}(h:enc a=enc b):a.block=b.block/\a.off=b.off:=by
 unfold enc at h;have k:∀s t x y:Nat,x<=s->s*s+x=t*t+y->¬s<t:=λs t x y g e bU=>by
  have f:(s+1)*(s+1)<=t*t:=Nat.mul_le_mul bU bU;have d:(s+1)*(s+1)=s*s+s+s+1:=by rw[zFd,Nat.mul_add];omega
  omega
 have f:=k _ _ _ _ (Nat.le_add_right a.block a.off) h
 have d:=k _ _ _ _ (Nat.le_add_right b.block b.off) h.symm
 have c:a.block+a.off=b.block+b.off:=by omega
 rw[c]at h
 omega
inductive bG (Al:zF)(π:Rn):zY->zY->Prop
 |bool (b:Bool):bG Al π (.bool b) (.bool b)
 |int (k:IntKind) (n:Int):bG Al π (.int k n) (.int k n)
 |string (s:ByteArray):bG Al π (.string s) (.string s)
 |pointer {a a':zO} (h:AI π a a'):bG Al π (.pointer a) (.pointer a')
 |slice {a a':zO} (h:AI π a a') (n c:Nat):bG Al π (.slice a n c) (.slice a' n c)
 |func {f:zN} (hf:Al f) {fs ko cs cs':zA} (h1:ko.size=fs.size) (h2:cs'.size=cs.size) (hz:fs.size+cs.size<=10)
   (h3:∀(i:Nat)(v v':zY),fs[i]? =aA v->ko[i]? =aA v'->bG Al π v v') (h4:∀(i:Nat)(v v':zY),cs[i]? =aA v->cs'[i]? =aA v'->bG Al π v v'):
   bG Al π (.func (.func f) fs cs) (.func (.func f) ko cs')
 |nilFunc:bG Al π .nilFunc .nilFunc
 |iface (t:zD) {v v':zY} (h:bG Al π v v'):bG Al π (.iface t v) (.iface t v')
 |nilIface:bG Al π .nilIface .nilIface
 |jM:bG Al π (.map aB) (.map aB)
 |gX:bG Al π (.chan aB) (.chan aB)
 |agg {cs cs':zA} (h1:cs'.size=cs.size) (h2:∀(i:Nat)(v v':zY),cs[i]? =aA v->cs'[i]? =aA v'->bG Al π v v'):bG Al π (.agg cs) (.agg cs')
 |tuple {cs cs':zA} (h1:cs'.size=cs.size) (h2:∀(i:Nat)(v v':zY),cs[i]? =aA v->cs'[i]? =aA v'->bG Al π v v'):bG Al π (.tuple cs) (.tuple cs')
 |junk (hJ:Al 1000000) {x:zY} (h:Jk x):bG Al π (.func (.method "") #[.iface 1000000 .nilIface] #[x]) x
 |void {vb:Nat} (hV:Al (1000002+vb)) (a:Addr):bG Al π (.slice (aA ⟨vb,enc a,a.spot⟩) 0 0) (.slice (aA a) 0 0)
 |same (hS:Al 1000001) (x:zY):bG Al π (.func (.method "") #[.iface 1000000 .nilIface] #[x]) (.func (.method "") #[.iface 1000000 .nilIface] #[x])
structure aW (Al:zF)(π:Rn)(cs cs':zA):Prop where
 size:cs'.size=cs.size
 at':∀(i:Nat)(v v':zY),cs[i]? =aA v->cs'[i]? =aA v'->bG Al π v v'
variable {Al:zF}{π ρ:Rn}
def bV.mono (h:∀b c,π b c->ρ b c){a a':Addr}(x:bV π a a'):bV ρ a a':=⟨h _ _ x.1,x.2⟩
def AI.mono (h:∀b c,π b c->ρ b c){a a':zO}(x:AI π a a'):AI ρ a a':=by
 cases x with
 |none=>exact .none
 |some y=>exact .some (y.mono h)
def bG.mono (h:∀b e,π b e->ρ b e){v v':zY}(x:bG Al π v v'):bG Al ρ v v':=by
 induction x with
 |bool b=>exact .bool b
 |int k n=>exact .int k n
 |string s=>exact .string s
 |pointer y=>exact .pointer (y.mono h)
 |slice y n c=>exact .slice (y.mono h) n c
 |func j d m g _ _ i3 i4=>exact .func j d m g i3 i4
 |nilFunc=>exact .nilFunc
 |iface t _ i=>exact .iface t i
 |nilIface=>exact .nilIface
 |jM=>exact .jM
 |gX=>exact .gX
 |agg d _ i=>exact .agg d i
 |tuple d _ i=>exact .tuple d i
 |junk f h=>exact .junk f h
 |same hb x=>exact .same hb x
 |void l a=>exact .void l a
def aW.mono (h:∀b c,π b c->ρ b c){v v':zA}(x:aW Al π v v'):aW Al ρ v v':=⟨x.size,λi a b e d=>(x.at' i a b e d).mono h⟩
def aW.get {cs cs':zA}(h:aW Al π cs cs')(i:Nat):(cs[i]? =aB/\cs'[i]? =aB)\/∃v c,cs[i]? =aA v/\cs'[i]? =aA c/\bG Al π v c:=by
 by_cases b:i<cs.size
 .have a:i<cs'.size:=by rw[h.size];exact b
  exact aH ⟨cs[i],cs'[i],by simp[b],by simp[a],h.at' i _ _ (by simp[b]) (by simp[a])⟩
 .exact aG ⟨by simp;omega,by simp[h.size];omega⟩
def aW.nil:aW Al π #[] #[]:=⟨rfl,λi v a h=>by simp at h⟩
def aW.of {cs cs':zA}(hs:cs'.size=cs.size)(h:∀(i:Nat)(g:i<cs.size)(c:i<cs'.size),bG Al π cs[i] cs'[i]):aW Al π cs cs':=
 ⟨hs,λi v f b a=>by obtain⟨e,rfl⟩:=zAb.1 b;obtain⟨d,rfl⟩:=zAb.1 a;exact h i e d⟩
def aW.push {cs cs':zA}(h:aW Al π cs cs'){v v':zY}(f:bG Al π v v'):aW Al π (cs.push v) (cs'.push v'):=
 ⟨by simp[h.size],λi a b d c=>by
  rw[zBh]at d c;rw[h.size]at c;split at d
  .rename_i e;simp only[e,zDf]at c;cases d;cases c;exact f
  .rename_i e;simp only[e,zDp]at c;exact h.at' i a b d c⟩
def aW.append {cs cs' ds d:zA}(h:aW Al π cs cs')(k:aW Al π ds d):aW Al π (cs++ds) (cs'++d):=
 ⟨by simp[h.size,k.size],λi a b f c=>by
  rw[Array.getElem?_append]at f c;rw[h.size]at c;split at f
  .rename_i e;simp only[e,zDf]at c;exact h.at' i a b f c
  .rename_i e;simp only[e,zDp]at c;exact k.at' _ a b f c⟩
def aW.one {v v':zY}(h:bG Al π v v'):aW Al π #[v] #[v']:=by simpa using(aW.nil (Al:=Al) (π:=π)).push h
def aW.set {cs cs':zA}(h:aW Al π cs cs'){v v':zY}(g:bG Al π v v')(k:Nat):aW Al π (cs.setIfInBounds k v) (cs'.setIfInBounds k v'):=
 ⟨by simp[h.size],λi a b d c=>by
  rw[zBt]at d c;rw[h.size]at c;by_cases e:k=i
  .rw[zAk e]at d c;by_cases f:i<cs.size
   .simp only[e,f,zDf]at d c;cases d;cases c;exact g
   .simp[e,f]at d
  .rw[zAh e]at d c;exact h.at' i a b d c⟩
def aW.extract {cs cs':zA}(h:aW Al π cs cs')(i j:Nat):aW Al π (cs.extract i j) (cs'.extract i j):=
 ⟨by rw[aCx,aCx,h.size],λk a b d c=>by
  rw[Array.getElem?_extract]at d c;rw[h.size]at c;split at d
  .rename_i e;simp only[e,zDf]at c;exact h.at' _ a b d c
  .cases d⟩
def aW.replicate {v v':zY}(d:bG Al π v v')(n:Nat):aW Al π (aCy n v) (aCy n v'):=
 ⟨by simp,λi a b h c=>by
  rw[zGl]at h c;split at h
  .rename_i e;simp only[e,zDf]at c;cases h;cases c;exact d
  .cases h⟩
def bG.cells {v v':zY}(h:bG Al π v v'):aW Al π v.cells v'.cells:=by
 cases h with
 |agg d e=>exact⟨d,e⟩
 |bool b=>exact .one (.bool b)
 |int k n=>exact .one (.int k n)
 |string s=>exact .one (.string s)
 |pointer y=>exact .one (.pointer y)
 |slice y n c=>exact .one (.slice y n c)
 |func j d e g o m=>exact .one (.func j d e g o m)
 |nilFunc=>exact .one .nilFunc
 |iface t i=>exact .one (.iface t i)
 |nilIface=>exact .one .nilIface
 |jM=>exact .one .jM
 |gX=>exact .one .gX
 |tuple d i=>exact .one (.tuple d i)
 |junk f h=>rw[h.cells];exact .one (.junk f h)
 |same hb x=>exact .one (.same hb x)
 |void l a=>exact .one (.void l a)
end Go.Ren
namespace Go.Ren
structure Kp where
 keep:zP
 rG:Option Nat
 cmp:Prop
instance:CoeFun Kp λ_=>zP:=⟨Kp.keep⟩
def Kp.upto (K:Kp)(i:Nat):Prop:=∀u,K.rG=aA u->i<u
@[simp]def Fatal (h:Halt):Prop:=(∃s,h= .stuck s)\/∃u,h= .unsupported u/\∀g,u≠.initOrder g
class Ok (P:zZ) (π:Rn):Prop where
 inj:∀{a a' b b':Nat},π a a'->π b b'->(a=b↔a'=b')
 base:∀{b b':Nat},π b b'->(b<=P.globals.size\/b'<=P.globals.size)->b=b'
 nB:∀b,b<=P.globals.size->π b b
def Nn (Al:zF)(F:Kp)(π:Rn)(b:Nat)(o d:Option Obj):Prop:=
 ∃c c' ty a f,o=aA (aI c ty a)/\d=aA (aI c' ty f)/\aW Al π c c'/\(F b->a.1=0/\c.size<=a.2/\(∀(i:Nat) m,c[i]?≠aA (.int aP m))/\f.2<=c.size)/\(¬F b->f=a)/\((F.cmp/\∃x,F x)->a.2<=c.size/\f.2<=c.size)
def kC (P:zZ)(u:zD):Prop:=∀d off x,plainCell P d u off=aA x->∀(Al:zF)(π:Rn),bG Al π x x
inductive Ow (P:zZ)(π:Rn):Obj->Obj->Prop
 |view {x x':Addr} (h:bV π x x') (u:zD) (hu:kC P u):Ow P π (.view x u) (.view x' u)
 |number {x x':Addr} (h:bV π x x') (l:Bool):Ow P π (.number x l) (.number x' l)
def Vn (P:zZ)(π:Rn)(o b:Option Obj):Prop:=∃y a,o=aA y/\b=aA a/\Ow P π y a
def Ow.mono {P:zZ}{π ρ:Rn}(h:∀b d,π b d->ρ b d){y c:Obj}(x:Ow P π y c):Ow P ρ y c:=by
 cases x with
 |view a u hu=>exact .view (a.mono h) u hu
 |number a l=>exact .number (a.mono h) l
def EG (o:Obj):Prop:=(∀c t f,o≠aI c t f)/\(∀x u,o≠.view x u)/\(∀x l,o≠.number x l)/\∀c t,o≠.pending c t
structure cB (P:zZ)(Al:zF)(F:Kp)(π:Rn)(v w:zW):Prop where
 ok:Ok P π
 blk:∀b b',π b b'->Nn Al F π b v.heap[b]? w.heap[b']?\/(b<=P.globals.size/\∃o,v.heap[b]? =aA o/\w.heap[b']? =aA o/\EG o)\/Vn P π v.heap[b]? w.heap[b']?
 tape:∀k,F.upto (v.drawn+k)->w.tape (w.drawn+k)=v.tape (v.drawn+k)
 fresh:∀b,F b->b<v.heap.size
 low:P.globals.size<v.heap.size/\P.globals.size<w.heap.size
 os:w.os=v.os
 rows:∀b,F b->∃o,v.heap[b]? =aA o/\((∃c t fr,o=aI c t fr)\/EG o)
def Shape (P:zZ)(fs:Array Func):Prop:=∀f:Nat,fs[f]? =P.funcs[f]?\/∃a b,P.funcs[f]? =aA a/\fs[f]? =aA b/\b.name=a.name/\a.body.isSome=aE/\b.body.isSome=aE/\b.norace=a.norace
inductive bR (P:zZ)(Al:zF)(F:Kp){α β:Type}(A:Rn->α->β->Prop):Rn->Sem α->Sem β->Prop
 |pure {π:Rn} {a:α} {b:β} (h:A π a b):bR P Al F A π (.pure a) (.pure b)
 |load {π:Rn} {m:Mode} {a a':Addr} {k:zY->Sem α} {k':zY->Sem β} (h:bV π a a') (hk:∀v v',bG Al π v v'->bR P Al F A π (k v) (k' v')):bR P Al F A π (.load m a k) (.load m a' k')
 |store {π:Rn} {m:Mode} {a a':Addr} {x x':zY} {k:Sem α} {k':Sem β} (h:bV π a a') (hx:bG Al π x x') (hk:bR P Al F A π k k'):bR P Al F A π (.store m a x k) (.store m a' x' k')
 |new {π:Rn} {c c':zA} {ty:zD} {k:Nat->Sem α} {k':Nat->Sem β} (h:aW Al π c c') (hk:∀(ρ:Rn) r r',Ok P ρ->(∀b b',π b b'->ρ b b')->ρ r r'->bR P Al F A ρ (k r) (k' r')):bR P Al F A π (.new (aI c ty) k) (.new (aI c' ty) k')
 |view {π:Rn} {x x':Obj} {k:Nat->Sem α} {k':Nat->Sem β} (h:Ow P π x x') (hk:∀(ρ:Rn) r r',Ok P ρ->(∀b b',π b b'->ρ b b')->ρ r r'->bR P Al F A ρ (k r) (k' r')):bR P Al F A π (.new x k) (.new x' k')
 |marked {π:Rn} {c c':zA} {ty:zD} {k:Nat->Sem α} {k':Nat->Sem β} (hC:¬F.cmp) (h:aW Al π c c') (hk:∀(ρ:Rn) r r',Ok P ρ->(∀b b',π b b'->ρ b b')->ρ r r'->bR P Al F A ρ (k r) (k' r')):bR P Al F A π (.new (aI c ty) λr=>markStringish ⟨r,0,aB⟩>>=λ_=>k r) (.new (aI c' ty) λr=>markStringish ⟨r,0,aB⟩>>=λ_=>k' r)
 |getObj {π:Rn} {r r':Nat} {k:Obj->Sem α} {k':Obj->Sem β} (h:π r r') (hk:∀o o',(EG o/\o'=o)\/Vn P π (aA o) (aA o')->bR P Al F A π (k o) (k' o')):bR P Al F A π (.getObj r k) (.getObj r' k')
 |shape {π:Rn} {r r':Nat} {k:Option (zD×Nat)->Sem α} {k':Option (zD×Nat)->Sem β} (h:π r r') (hk:∀s,bR P Al F A π (k s) (k' s)):bR P Al F A π (.shape r k) (.shape r' k')
 |freeze {π:Rn} {a a':Addr} {n:Nat} {k:Sem α} {k':Sem β} (hF:∀b,¬F b) (h:bV π a a') (hk:bR P Al F A π k k'):bR P Al F A π (.freeze a n k) (.freeze a' n k')
 |frozen {π:Rn} {a a':Addr} {k:Bool->Sem α} {k':Bool->Sem β} (hF:∀b,¬F b) (h:bV π a a') (hk:∀t,bR P Al F A π (k t) (k' t)):bR P Al F A π (.frozen a k) (.frozen a' k')
 |share {π:Rn} {a a':Addr} {n:Nat} {k:ByteArray->Sem α} {k':ByteArray->Sem β} (h:bV π a a') (hk:∀s,bR P Al F A π (k s) (k' s)):bR P Al F A π (loadBytes a .empty n>>=λs=>freeze a n>>=λ_=>k s) (loadBytes a' .empty n>>=λs=>freeze a' n>>=λ_=>k' s)
 |same {π:Rn} {a a' b b':Addr} {k:Bool->Sem α} {k':Bool->Sem β} (hN:F.cmp/\∃x,F x) (h:bV π a a') (h':bV π b b') (hk:∀t,bR P Al F A π (k t) (k' t)):bR P Al F A π (sameAddr a b>>=k) (sameAddr a' b'>>=k')
 |choose {π:Rn} {q:Question} {k:Nat->Sem α} {k':Nat->Sem β} (hk:∀n,bR P Al F A π (k n) (k' n)):bR P Al F A π (.choose q k) (.choose q k')
 |program {π:Rn} {k:zZ->Sem α} {k':zZ->Sem β} (he:∀fs,Shape P fs->k' ⟨P.toTables,fs⟩=k' P) (hk:bR P Al F A π (k P) (k' P)):bR P Al F A π (.program k) (.program k')
 |env {π:Rn} {k:SysRet->Sem α} {k':SysRet->Sem β} (hk:∀r,bR P Al F A π (k r) (k' r)):bR P Al F A π (.sys .env k) (.sys .env k')
 |mark {π:Rn} {m:Mark} {k:Sem α} {k':Sem β} (hm:m= .noRoom\/∃f,m= .extern f) (hk:bR P Al F A π k k'):bR P Al F A π (.mark m k) (.mark m k')
 |panic {π:Rn} {x x':zY} (h:bG Al π x x'):bR P Al F A π (.halt (.panic x)) (.halt (.panic x'))
 |dead {π:Rn} {s:Sem α} {s':Sem β} (h:∀v es,∃hl w cq,s.runT P v es=(.halt hl w,cq)/\Fatal hl):bR P Al F A π s s'
structure jL (F:Kp)(π ρ:Rn)(v v' w w':zW):Prop where
 sub:∀b b',π b b'->ρ b b'
 QK:v.heap.size<=v'.heap.size
 size:w.heap.size<=w'.heap.size
 still:∀b',b'<w.heap.size->(∀b,π b b'->F b)->w'.heap[b']? =w.heap[b']?
 sF:∀b b',ρ b b'->π b b'\/(v.heap.size<=b/\w.heap.size<=b'/\b'<w'.heap.size)
 tape:w'.tape=w.tape
 os:w'.os=w.os
 out:w'.output=w.output
 Ad:v'.tape=v.tape
 aw:v'.os=v.os
 Oj:v'.output=v.output
 drawn:∃k,v'.drawn=v.drawn+k/\w'.drawn=w.drawn+k
 same:v.heap.size=w.heap.size->(∀b b',π b b'->b=b')->v'.heap.size=w'.heap.size/\∀b b',ρ b b'->b=b'
 FB:∀b,b<v.heap.size->(∀b',¬π b b')->v'.heap[b]? =v.heap[b]?
 full:∀b,v.heap.size<=b->b<v'.heap.size->∃b',ρ b b'
def nC (F:Kp)(ρ:Rn)(e:Event):Prop:=
 (∃a c wr s,e=⟨.cell c,wr,s⟩/\bV ρ a c/\(wr=aE->¬F a.block))\/(e.loc= .mark .noRoom\/e.loc= .output)\/(∃f,e.loc= .mark (.extern f))\/∃r b s,e=⟨.obj b,aF,s⟩/\ρ r b
def nC.mono {F:Kp}{π ρ:Rn}(h:∀b f,π b f->ρ b f){e:Event}(x:nC F π e):nC F ρ e:=by
 obtain⟨a,j,wr,s,d,c,i⟩|x|x|⟨r,g,s,d,c⟩:=x
 .exact aG ⟨a,j,wr,s,d,c.mono h,i⟩
 .exact aH (aG x)
 .exact aH (aH (aG x))
 .exact aH (aH (aH ⟨r,g,s,d,h _ _ c⟩))
def jL.refl {F:Kp}{π:Rn}(v w:zW):jL F π π v v w w:=
 ⟨λ_ _ h=>h,zAa _,zAa _,λ_ _ _=>rfl,λ_ _ h=>aG h,rfl,rfl,rfl,rfl,rfl,rfl,⟨0,rfl,rfl⟩,λh k=>⟨h,k⟩,λ_ _ _=>rfl,λb c a=>by omega⟩
def jL.trans {F:Kp}{π ρ m:Rn}{v d f w w₁ e:zW}(h:jL F π ρ v d w w₁)(k:jL F ρ m d f w₁ e):jL F π m v f w e where
 sub b c x:=k.sub _ _ (h.sub _ _ x)
 QK:=zBl h.QK k.QK
 size:=zBl h.size k.size
 still c i o:=by
  rw[k.still c (zAc i h.size) (λb g=> ?_),h.still c i o];obtain x|⟨_,x,_⟩:=h.sF b c g
  .exact o b x
  .omega
 sF b c x:=by
  obtain y|⟨j,r,q⟩:=k.sF b c x
  .obtain z|⟨p,z2,z3⟩:=h.sF b c y
   .exact aG z
   .exact aH ⟨p,z2,zAc z3 k.size⟩
  .exact aH ⟨zBl h.QK j,zBl h.size r,q⟩
 tape:=k.tape.trans h.tape
 os:=k.os.trans h.os
 out:=k.out.trans h.out
 Ad:=k.Ad.trans h.Ad
 aw:=k.aw.trans h.aw
 Oj:=k.Oj.trans h.Oj
 drawn:=by obtain⟨a,B,a2⟩:=h.drawn;obtain⟨b,b1,A⟩:=k.drawn;exact⟨a+b,by omega,by omega⟩
 same x y:=let⟨s,j⟩:=h.same x y;k.same s j
 FB b i n:=by
  rw[k.FB b (zAc i h.QK) (λc g=> ?_),h.FB b i n];obtain x|⟨x,_⟩:=h.sF b c g
  .exact n c x
  .omega
 full b u t:=by
  obtain l|l:=zDx b d.heap.size
  .obtain⟨c,i⟩:=h.full b u l;exact⟨c,k.sub _ _ i⟩
  .exact k.full b l t
section
variable {P:zZ}{Al:zF}{F:Kp}{π:Rn}{v w:zW}
def MW {x a:zY}(h:bG Al π x a):x.bytes? =aB\/a.bytes? =x.bytes? :=by cases h<;>first|exact aG rfl|exact aH rfl
def tE {x c:zY}(h:bG Al π x c)(b:zB):(x.ofBytes b=aB\/c.ofBytes b=x.ofBytes b)/\∀y,x.ofBytes b=aA y->bG Al π y y:=by
 cases h<;>refine⟨by first|exact aG rfl|exact aH rfl,λy a=> ?_⟩<;>simp only[Value.ofBytes]at a<;>first|(cases a;done)|skip
 .split at a<;>first|(cases a;exact .bool _)|cases a
 .split at a<;>first|(cases a;exact .int _ _)|cases a
def KF {p:zZ}{c c':zA}(h:aW Al π c c')(e:zD):∀(f x stop:Nat),(∃a,seenCells p c e f x stop= .error a)\/seenCells p c' e f x stop=seenCells p c e f x stop:=by
 intro f;induction f with
 |zero=>intro x stop;exact aH rfl
 |succ f l=>
  intro x stop;simp only[seenCells];split
  .exact aH rfl
  .split
   .exact aH rfl
   .split
    .exact aH rfl
    .rename_i i s _;obtain⟨j,g⟩|⟨y,o,j,g,m⟩:=h.get i
     .rw[j,g];exact aH rfl
     .rw[j,g];dsimp only;obtain d|d:=MW m
      .rw[d];exact aG ⟨_,rfl⟩
      .rw[d];cases y.bytes? with
       |none=>exact aH rfl
       |some n=>
        cases n with
        |nil=>exact aH rfl
        |cons q k=>
         dsimp only;obtain⟨a,b⟩|b:=l (s+(q::k).length) stop
         .rw[b];exact aG ⟨a,rfl⟩
         .rw[b];exact aH rfl
def Ec {x d k k':Addr}(j:bV π x d)(o:bV π k k')(u:zD)(m:Bool){c c':zA}{e:zD}{fr fr':Nat×Nat}
  (A:v.heap[x.block]? =aA (aI c e fr)) (z:w.heap[d.block]? =aA (aI c' e fr')) (y:aW Al π c c'):
  (∃a,v.seen P x u k m= .error a)\/∃first l cells,v.seen P x u k m= .ok (c,e,fr,first,l,cells)/\w.seen P d u k' m= .ok (c',e,fr',first,l,cells)/\plainCell P P.depth u k.off=aA l:=by
 unfold World.seen
 simp only[j.2.1,j.2.2,o.2.1,o.2.2,A,z]
 by_cases n:(k.spot.isSome||x.spot.isSome)=aE
 .left;rw[zAk n];exact⟨_,rfl⟩
 simp only[zAh n]
 cases B:plainCell P P.depth u k.off with
 |none=>left;exact⟨_,rfl⟩
 |some l=>
  have h:aA l=aA l:=rfl;dsimp only;cases hb:l.bytes?.map (·.length)with
  |none=>left;exact⟨_,rfl⟩
  |some size=>
   dsimp only;cases r:byteOfCell P P.depth u k.off with
   |none=>left;exact⟨_,rfl⟩
   |some β=>
    dsimp only;by_cases q:P.cellsOf e=0
    .left;rw[zAk q];exact⟨_,rfl⟩
    simp only[zAh q];cases s:byteOfCell P P.depth e (x.off%P.cellsOf e)with
    |none=>left;exact⟨_,rfl⟩
    |some b0=>
     dsimp only;obtain⟨a,f⟩|f:=KF (p:=P) y e (size+1) (x.off/P.cellsOf e*P.bytesOf e+b0+β) (x.off/P.cellsOf e*P.bytesOf e+b0+β+size)
     .left;rw[f];exact⟨_,rfl⟩
     rw[f];cases C:seenCells P c e (size+1) (x.off/P.cellsOf e*P.bytesOf e+b0+β) (x.off/P.cellsOf e*P.bytesOf e+b0+β+size)with
     |error a=>left;exact⟨_,rfl⟩
     |ok cells=>
      cases m with
      |false=>right;exact⟨_,l,cells,rfl,rfl,h⟩
      |true=>
       match cells with
       |[]=>left;exact⟨_,rfl⟩
       |[(i,t,b)]=>
        by_cases g:(decide (t≠x.off/P.cellsOf e*P.bytesOf e+b0+β)||decide (b.length≠size))=aE
        .left;refine⟨ "memory seen as another type: an atomic access to a part of a cell",?_⟩;show(if(decide (t≠x.off/P.cellsOf e*P.bytesOf e+b0+β)||decide (b.length≠size))=aE then _ else _)=_
         rw[zAk g];rfl
        .right;refine⟨x.off/P.cellsOf e*P.bytesOf e+b0+β,l,[(i,t,b)],?_,?_,h⟩
         .show(if(decide (t≠x.off/P.cellsOf e*P.bytesOf e+b0+β)||decide (b.length≠size))=aE then _ else _)=_
          rw[zAh g];rfl
         .show(if(decide (t≠x.off/P.cellsOf e*P.bytesOf e+b0+β)||decide (b.length≠size))=aE then _ else _)=_
          rw[zAh g];rfl
       |_::_::_=>left;exact⟨_,rfl⟩
def LM {x k:Addr}(u:zD)(m:Bool)(h:∀c t f,v.heap[x.block]?≠aA (aI c t f)):∃a,v.seen P x u k m= .error a:=by
 unfold World.seen;by_cases b:(k.spot.isSome||x.spot.isSome)=aE
 .rw[zAk b];exact⟨_,rfl⟩
 rw[zAh b];cases g:plainCell P P.depth u k.off with
 |none=>exact⟨_,rfl⟩
 |some l=>
  dsimp only;cases hb:l.bytes?.map (·.length)with
  |none=>exact⟨_,rfl⟩
  |some size=>
   dsimp only;cases d:byteOfCell P P.depth u k.off with
   |none=>exact⟨_,rfl⟩
   |some β=>
    dsimp only;cases e:v.heap[x.block]? with
    |none=>exact⟨_,rfl⟩
    |some o=>cases o with
     |cells c t f=>exact absurd e (h c t f)
     |_=>exact⟨_,rfl⟩
def SC (h:cB P Al F π v w){x j k k':Addr}(p:bV π x j)(A:bV π k k')(u:zD)(m:Bool):
  (∃n,v.seen P x u k m= .error n)\/∃c c' e b a first l cells,v.seen P x u k m= .ok (c,e,b,first,l,cells)/\w.seen P j u k' m= .ok (c',e,a,first,l,cells)/\
   v.heap[x.block]? =aA (aI c e b)/\w.heap[j.block]? =aA (aI c' e a)/\aW Al π c c'/\plainCell P P.depth u k.off=aA l/\(F x.block->b.1=0/\c.size<=b.2/\(∀(i:Nat) m,c[i]?≠aA (.int aP m))/\a.2<=c.size)/\(¬F x.block->a=b)/\((F.cmp/\∃x,F x)->b.2<=c.size/\a.2<=c.size):=by
 obtain⟨c,c',e,b,a,g,q,d,C,B⟩|⟨_,o,s,_,r⟩|⟨z,H,g,_,d⟩:=h.blk _ _ p.1
 .obtain y|⟨first,l,cells,G,E,D⟩:=Ec (P:=P) p A u m g q d
  .exact aG y
  .exact aH ⟨c,c',e,b,a,first,l,cells,G,E,g,q,d,D,C,B⟩
 .left;refine LM u m λc t f e=> ?_;rw[s]at e;cases e;exact r.1 _ _ _ rfl
 .left;refine LM u m λc t f e=> ?_;rw[g]at e;cases e;cases d
def cB.cell (h:cB P Al F π v w){a a':Addr}(i:bV π a a'):
  (∃x l,v.cell? a=aA x/\w.cell? a'=aA l/\bG Al π x l)\/(v.cell? a=aB/\w.cell? a'=aB):=by
 obtain⟨c,c',ty,B,r,k,e,j,_⟩|⟨_,e,j,q,p⟩|⟨z,A,k,e,j⟩:=h.blk _ _ i.1
 .cases g:a.spot with
  |some s=>
   have d:a'.spot=aA s:=by rw[i.2.2,g]
   exact aH ⟨by simp[World.cell?,k,g],by simp[World.cell?,e,d]⟩
  |none=>
   have d:a'.spot=aB:=by rw[i.2.2,g]
   obtain⟨n,m⟩|⟨x,l,n,m,y⟩:=j.get a.off
   .exact aH ⟨by simp[World.cell?,k,g,n],by simp[World.cell?,e,d,i.2.1,m]⟩
   .refine aG ⟨x,l,by simp[World.cell?,k,g,n],?_,y⟩;simp only[World.cell?,e,d,i.2.1,m];rfl
 .have no:∀(u:zW)(b:Addr),u.heap[b.block]? =aA e->u.cell? b=aB:=λu b o=>by
   unfold World.cell?;rw[o];cases e with
   |cells c t f=>exact absurd rfl (p.1 c t f)
   |_=>rfl
  exact aH ⟨no v a j,no w a' q⟩
 .cases j<;>exact aH ⟨by simp[World.cell?,k],by simp[World.cell?,e]⟩
def uG (first:Nat)(l:zY)(cells:List (Nat×Nat×zB)):zB:=
 cells.flatMap λ(_,s,b)=>(b.drop (first-s)).take (first+(l.bytes?.map (·.length)).getD 0-max first s)
def CM {z k:Addr}{t:zD}{m:Bool}{c:zA}{e:zD}{fr:Nat×Nat}{first:Nat}{l:zY}{cells:List (Nat×Nat×zB)}
  (h:w.seen P z t k m= .ok (c,e,fr,first,l,cells)):
  w.viewLoad P z t k m=match l.ofBytes (uG first l cells)with|some x=>aCz (x,cells.map λi=>(⟨z.block,i.1,aB⟩:Addr))|none=>aCA "memory seen as another type: a bool from a byte other than 0 or 1":=by
 unfold World.viewLoad
 rw[h]
 show(match l.ofBytes (uG first l cells)with|some v=>_|_=>_)=_
 cases l.ofBytes (uG first l cells)<;>rfl
def cB.kp (h:cB P Al F π v w){a a':Addr}(s:bV π a a')(m:Bool):
  (∃g,v.farLoad P a m= .error g/\Fatal g)\/
  ∃(x:zY)(b C:Nat)(l:List Nat),v.farLoad P a m= .ok (x,l.map λi=>⟨b,i,aB⟩)/\w.farLoad P a' m= .ok (x,l.map λi=>⟨C,i,aB⟩)/\π b C/\bG Al π x x:=by
 have no:∀o,v.heap[a.block]? =o->(∀x u,o≠aA (.view x u))->(∀c t,o≠aA (.pending c t))->∃g,v.farLoad P a m= .error g/\Fatal g:=by
  intro o p G E;unfold World.farLoad;rw[p];cases o with
  |none=>exact⟨_,rfl,by simp[World.noCell,p]⟩
  |some o=>
   cases o with
   |view x u=>exact absurd rfl (G x u)
   |pending c t=>exact absurd rfl (E c t)
   |_=>exact⟨_,rfl,by simp[World.noCell,p]⟩
 obtain⟨c,c',ty,H,q,j,B,f,_⟩|⟨_,o,f,_,A⟩|⟨r,k,j,B,f⟩:=h.blk _ _ s.1
 .exact aG (no _ j (by simp) (by simp))
 .exact aG (no _ f (λx u e=>A.2.1 x u (zAm e)) (λc t e=>A.2.2.2 c t (zAm e)))
 .cases f with
  |number _ _=>exact aG (no _ j (by simp) (by simp))
  | @view z D f t hu=>
  unfold World.farLoad;simp only[j,B];obtain⟨n,e⟩|⟨c,c',e,H,q,first,d,cells,K,J,N,M,L,I,_⟩:=SC h f s t m
  .left;have:v.viewLoad P z t a m= .error n:=by unfold World.viewLoad;rw[e];rfl
   rw[this];exact⟨_,rfl,by simp⟩
  .rw[CM K,CM J];cases hb:d.ofBytes (uG first d cells)with
   |none=>left;exact⟨_,rfl,by simp⟩
   |some y=>right;exact⟨y,z.block,D.block,cells.map (·.1),by simp only[zFc];rfl,by simp only[zFc];rfl,f.1,(tE (hu _ _ _ I Al π) _).2 y hb⟩
def bX {h:zJ}{b i:Nat}(f:Obj->Obj)(a:b≠i):(h.modify b f)[i]? =h[i]? :=by rw[zDu];simp[a]
def cM {h:zJ}{b:Nat}(f:Obj->Obj):(h.modify b f)[b]? =(h[b]?).map f:=by rw[zDu];simp
def cB.NM (h:cB P Al F π v w){b m:Nat}(A:π b m){f f':Obj->Obj}
  (s:∀o,(∃c t fr c' fr',o=aI c t fr/\f o=aI c' t fr'/\c'.size=c.size)\/f o=o)
  (j:∀o,(∃c t fr c' fr',o=aI c t fr/\f' o=aI c' t fr'/\c'.size=c.size)\/f' o=o)
  (H:∀o E,Nn Al F π b (aA o) (aA E)->Nn Al F π b (aA (f o)) (aA (f' E))):
  cB P Al F π {v with heap:=v.heap.modify b f} {w with heap:=w.heap.modify m f'}:=by
 have i:∀(g:Obj->Obj) y,(∀c t f,y≠aI c t f)->(∀o,(∃c t fr c' fr',o=aI c t fr/\g o=aI c' t fr'/\c'.size=c.size)\/g o=o)->g y=y:=λg y G r=>by
  obtain⟨c,t,fr,c',fr',e,_⟩|e:=r y
  .exact absurd e (G c t fr)
  .exact e
 refine⟨h.ok,λx D a=> ?_,h.tape,λx a=>by simpa using h.fresh x a,by simpa using h.low,h.os,λx a=> ?_⟩
 rotate_left
 .obtain⟨o,u,k⟩:=h.rows x a;by_cases e:b=x
  .subst e;obtain⟨c1,t1,M,c2,L,Q,N,O⟩|e:=s o
   .exact⟨_,by rw[cM,u,zAx,N],aG ⟨_,_,_,rfl⟩⟩
   .exact⟨o,by rw[cM,u,zAx,e],k⟩
  .exact⟨o,by rw[bX f e];exact u,k⟩
 by_cases e:b=x
 .have l:m=D:=(h.ok.inj A a).1 e;subst e;subst l;obtain y|⟨p,o,n,d,C⟩|⟨z,B,p,n,d⟩:=h.blk _ _ A
  .left;obtain⟨c,c',ty,fr,fr',K,J,I⟩:=y;have:=H (aI c ty fr) (aI c' ty fr') ⟨c,c',ty,fr,fr',rfl,rfl,I⟩;simp only[cM,K,J,zAx];exact this
  .right;left;have k:∀(g:Obj->Obj),(∀o,(∃c t fr c' fr',o=aI c t fr/\g o=aI c' t fr'/\c'.size=c.size)\/g o=o)->g o=o:=λg r=>by
    obtain⟨c,t,fr,c',fr',e,_⟩|e:=r o
    .exact absurd e (C.1 c t fr)
    .exact e
   exact⟨p,o,by rw[cM,n,zAx,k f s],by rw[cM,d,zAx,k f' j],C⟩
  .right;right;refine⟨z,B,?_,?_,d⟩
   .rw[cM,p,zAx,i f z (by cases d<;>simp) s]
   .rw[cM,n,zAx,i f' B (by cases d<;>simp) j]
 .have l:m≠D:=λq=>e ((h.ok.inj A a).2 q);obtain y|y|y:=h.blk _ _ a
  .left;simp only[bX f e,bX f' l];exact y
  .right;left;simp only[bX f e,bX f' l];exact y
  .right;right;simp only[bX f e,bX f' l];exact y
def cB.setCell (h:cB P Al F π v w){a a':Addr}(b:bV π a a')(hF:¬F a.block){x g:zY}(k:bG Al π x g):cB P Al F π (v.setCell a x) (w.setCell a' g):=by
 refine h.NM b.1 (λo=> ?_) (λo=> ?_) (λo q m=> ?_)
 .cases o<;>first|exact aH rfl|skip
  rename_i c t f;exact aG ⟨c,t,f,_,f,rfl,rfl,by split<;>simp⟩
 .cases o<;>first|exact aH rfl|skip
  rename_i c t f;exact aG ⟨c,t,f,_,f,rfl,rfl,by split<;>simp⟩
 .obtain⟨c,c',ty,f,e,p,n,j,r,i⟩:=m;cases p;cases n;refine⟨_,_,ty,f,e,rfl,rfl,?_,λd=>absurd d hF,i.1,λl=> ?_⟩
  .rw[b.2.2,b.2.1];split
   .exact j
   .exact j.set k _
  .have:=i.2 l;split
   .exact this
   .simpa using this
def cB.frozen (h:cB P Al F π v w){a a':Addr}(i:bV π a a')(hF:¬F a.block):w.frozen? a'=v.frozen? a:=by
 obtain⟨c,c',ty,n,m,g,d,e,j,l⟩|⟨_,o,d,e,j⟩|⟨_,_,g,d,e⟩:=h.blk _ _ i.1
 .have:=l.1 hF;subst this;simp only[World.frozen?,g,d,i.2.1]
 .have no:∀(u:zW)(b:Addr),u.heap[b.block]? =aA o->u.frozen? b=aF:=λu b k=>by
   unfold World.frozen?;rw[k];cases o with
   |cells c t f=>exact absurd rfl (j.1 c t f)
   |_=>rfl
  rw[no v _ d,no w _ e]
 .cases e<;>simp only[World.frozen?,g,d]
def cB.Bi (h:cB P Al F π v w){a a':Addr}(j:bV π a a')(hF:F a.block){x:zY}(b:v.cell? a=aA x):v.frozen? a=aE:=by
 obtain⟨c,c',ty,l,k,d,i,g,e,q⟩|⟨_,o,i,g,e⟩|⟨_,_,d,i,g⟩:=h.blk _ _ j.1
 .obtain⟨lo,p⟩:=l;obtain⟨n,m,_⟩:=e hF;simp only[World.cell?,d]at b;split at b
  .cases b
  .obtain⟨bU,_⟩:=zAb.1 b;simp only[World.frozen?,d,zBd,zBs];simp only at n m;omega
 .unfold World.cell? at b;rw[i]at b;cases o with
  |cells c t f=>exact absurd rfl (e.1 c t f)
  |_=>cases b
 .cases g<;>(simp only[World.cell?,d]at b;cases b)
def cB.freeze (h:cB P Al F π v w)(hF:∀b,¬F b){a a':Addr}(d:bV π a a')(n:Nat):cB P Al F π (v.freeze a n) (w.freeze a' n):=by
 unfold World.freeze;split
 .exact h
 .refine h.NM d.1 (λo=> ?_) (λo=> ?_) (λo p g=> ?_)
  .cases o<;>first|exact aH rfl|skip
   rename_i c t f;exact aG ⟨c,t,f,_,_,rfl,rfl,rfl⟩
  .cases o<;>first|exact aH rfl|skip
   rename_i c t f;exact aG ⟨c,t,f,_,_,rfl,rfl,rfl⟩
  .obtain⟨c,c',ty,f,m,l,k,j,q,i⟩:=g;cases l;cases k;have:=i.1 (hF _);subst this;refine⟨_,_,ty,_,_,rfl,rfl,j,λx=>absurd x (hF _),λ_=> ?_,λ⟨_,x,e⟩=>absurd e (hF x)⟩;rw[d.2.1]
def cB.UB (h:cB P Al F π v w){a a':Addr}(A:bV π a a'){n:Nat}(O:∀c t fr,v.heap[a.block]? =aA (aI c t fr)->a.off+n<=c.size)(hF:n≠0->¬F a.block):cB P Al F π (v.freeze a n) (w.freeze a' n):=by
 unfold World.freeze;split
 .exact h
 .rename_i L;replace hF:=hF L;have hcut:∀(g:Nat×Nat)(m:Nat),g.2<=m->a.off+n<=m->(if g.1==g.2 then(a.off,a.off+n)else(min g.1 a.off,max g.2 (a.off+n))).2<=m:=by
   intro g m T R;split
   .exact R
   .show max g.2 (a.off+n)<=m
    omega
  obtain⟨k,p,d,l,B,I,g2,S,U,H⟩|z|z:=h.blk _ _ A.1
  .have s:=O k d l I;refine⟨h.ok,λx D j=> ?_,h.tape,λx j=>by simpa using h.fresh x j,by simpa using h.low,h.os,λx j=> ?_⟩;rotate_left
   .obtain⟨o,N,z⟩:=h.rows x j;have:a.block≠x:=λq=>hF (q▸j);exact⟨o,by rw[bX _ this];exact N,z⟩
   by_cases e:a.block=x
   .have C:a'.block=D:=(h.ok.inj A.1 j).1 e;subst e;subst C;left;have:=H.1 hF;subst this;refine⟨k,p,d,_,_,by rw[cM,I];rfl,by rw[cM,g2];rfl,S,λq=>absurd q hF,λ_=>by rw[A.2.1],λQ=> ?_⟩;have:=H.2 Q;rw[A.2.1];exact⟨hcut _ _ this.1 s,hcut _ _ this.2 s⟩
   .have C:a'.block≠D:=λq=>e ((h.ok.inj A.1 j).2 q);have:=h.blk _ _ j;simpa only[bX _ e,bX _ C]using this
  all_goals
   have same:∀(u:zW)(b:Addr)(o:Obj)(f:Obj->Obj),u.heap[b.block]? =aA o->f o=o->u.heap.modify b.block f=u.heap:=λu b o f K G=>by
    apply zCd;intro i;rw[zDu];by_cases E:b.block=i
    .subst E;simp[K,G]
    .simp[E]
  .obtain⟨_,o,k1,k2,r⟩:=z;have G:∀(g:Obj->Obj),(∀o,EG o->g o=o)->g o=o:=λg M=>M o r;rw[same v a o _ k1 (by cases o<;>first|rfl|exact absurd rfl (r.1 _ _ _)),same w a' o _ k2 (by cases o<;>first|rfl|exact absurd rfl (r.1 _ _ _))];exact h
  .obtain⟨y,J,k1,k2,r⟩:=z;rw[same v a y _ k1 (by cases r<;>rfl),same w a' J _ k2 (by cases r<;>rfl)];exact h
def more (π:Rn)(r r':Nat):Rn:=λb a=>π b a\/(b=r/\a=r')
def cB.lt (h:cB P Al F π v w){b f:Nat}(e:π b f):b<v.heap.size/\f<w.heap.size:=by
 obtain⟨c,c',ty,i,g,a,d,_⟩|⟨a,_⟩|⟨_,_,a,d,_⟩:=h.blk _ _ e
 .exact⟨(zAb.1 a).1,(zAb.1 d).1⟩
 .have:=h.ok.base e (aG a);have:=h.low;omega
 .exact⟨(zAb.1 a).1,(zAb.1 d).1⟩
def cB.XH (h:cB P Al F π v w)(o g:Obj)
  (s:Nn Al F (more π v.heap.size w.heap.size) v.heap.size (aA o) (aA g)\/Vn P (more π v.heap.size w.heap.size) (aA o) (aA g)):
  cB P Al F (more π v.heap.size w.heap.size) {v with heap:=v.heap.push o} {w with heap:=w.heap.push g}:=by
 have c:∀b f,π b f->more π v.heap.size w.heap.size b f:=λ_ _ x=>aG x
 refine⟨⟨?_,?_,λb e=>aG (h.ok.nB b e)⟩,?_,h.tape,λb e=>by have:=h.fresh b e;simp;omega,by have:=h.low;simp;omega,h.os,λb e=>let⟨i,A,u⟩:=h.rows b e;⟨i,by rw[zBh,zAh (by have:=h.fresh b e;omega)];exact A,u⟩⟩
 .rintro a J b f (x|⟨rfl,rfl⟩) (y|⟨rfl,rfl⟩)
  .exact h.ok.inj x y
  .have:=h.lt x;omega
  .have:=h.lt y;omega
  .simp
 .rintro b f (x|⟨rfl,rfl⟩) e
  .exact h.ok.base x e
  .have:=h.low;omega
 .rintro b f (x|⟨rfl,rfl⟩)
  .have I:=h.lt x;have k:(v.heap.push o)[b]? =v.heap[b]? :=by rw[zBh,zAh (by omega)]
   have j:(w.heap.push g)[f]? =w.heap[f]? :=by rw[zBh,zAh (by omega)]
   obtain⟨d,H,t,G,p,E,D,C,B⟩|⟨n,o,m,l,r⟩|⟨z,q,n,m,l⟩:=h.blk _ _ x
   .left;exact⟨d,H,t,G,p,by rw[k];exact E,by rw[j];exact D,C.mono c,B⟩
   .right;left;exact⟨n,o,by rw[k];exact m,by rw[j];exact l,r⟩
   .right;right;exact⟨z,q,by rw[k];exact n,by rw[j];exact m,l.mono c⟩
  .have k:(v.heap.push o)[v.heap.size]? =aA o:=by simp
   have j:(w.heap.push g)[w.heap.size]? =aA g:=by simp
   simp only[k,j]
   obtain y|y:=s
   .exact aG y
   .exact aH (aH y)
def cB.push (h:cB P Al F π v w){c c':zA}(a:aW Al π c c')(ty:zD):
  cB P Al F (more π v.heap.size w.heap.size) {v with heap:=v.heap.push (aI c ty)} {w with heap:=w.heap.push (aI c' ty)}:=
 h.XH _ _ (aG ⟨c,c',ty,(0,0),(0,0),rfl,rfl,a.mono (λ_ _ x=>aG x),λhF=>absurd (h.fresh _ hF) (by omega),λ_=>rfl,λ_=>⟨zBp _,zBp _⟩⟩)
def cB.rA (h:cB P Al F π v w)(b:¬F.cmp){c c':zA}(a:aW Al π c c')(ty:zD):
  cB P Al F (more π v.heap.size w.heap.size) {v with heap:=v.heap.push (aI c ty (c.size,c.size+1))} {w with heap:=w.heap.push (aI c' ty (c'.size,c'.size+1))}:=
 h.XH _ _ (aG ⟨c,c',ty,(c.size,c.size+1),(c'.size,c'.size+1),rfl,rfl,a.mono (λ_ _ x=>aG x),λhF=>absurd (h.fresh _ hF) (by omega),λ_=>by rw[a.size],λx=>absurd x.1 b⟩)
def oK {α:Type}(Q:zZ)(c:zA)(ty:zD)(k:Nat->Sem α)(u:zW)(es:zE):
  (Sem.new (aI c ty) λr=>markStringish ⟨r,0,aB⟩>>=λ_=>k r).runT Q u es=(k u.heap.size).runT Q {u with heap:=u.heap.push (aI c ty (c.size,c.size+1))} es:=by
 have b:(u.heap.push (aI c ty))[u.heap.size]? =aA (aI c ty):=by simp
 have a:({u with heap:=u.heap.push (aI c ty)}:zW).shape? u.heap.size=aA (ty,c.size):=by simp only[World.shape?,b]
 have e:(({u with heap:=u.heap.push (aI c ty)}:zW).freeze ⟨u.heap.size,c.size,aB⟩ 1)={u with heap:=u.heap.push (aI c ty (c.size,c.size+1))}:=by
  unfold World.freeze;simp only[Nat.one_ne_zero,zDp];congr 1;apply zCd;intro i;by_cases h:u.heap.size=i
  .subst h;rw[cM];simp
  .rw[bX _ h,zBh,zBh,zAh (zFg h),zAh (zFg h)]
 simp only[Sem.runT]
 unfold markStringish
 show(Sem.shape u.heap.size _).runT Q _ es=_
 simp only[Sem.runT,a]
 show(Sem.freeze ⟨u.heap.size,c.size,aB⟩ 1 _).runT Q _ es=_
 simp only[Sem.runT,e]
 rfl
def cB.yA (h:cB P Al F π v w){x a:Obj}(b:Ow P π x a):
  cB P Al F (more π v.heap.size w.heap.size) {v with heap:=v.heap.push x} {w with heap:=w.heap.push a}:=
 h.XH _ _ (aH ⟨x,a,rfl,rfl,b.mono (λ_ _ x=>aG x)⟩)
def cB.shape (h:cB P Al F π v w){b f:Nat}(g:π b f):w.shape? f=v.shape? b:=by
 obtain⟨c,c',ty,j,i,e,d,a,_⟩|⟨_,o,d,a,_⟩|⟨_,_,e,d,a⟩:=h.blk _ _ g
 .simp only[World.shape?,e,d,a.size]
 .simp only[World.shape?,d,a]
 .cases a<;>simp only[World.shape?,e,d]
def kW (first n:Nat)(bytes:zB)(fr:Nat×Nat)(c:zA)(x:Nat×Nat×zB):Except String (zA):=
 if(decide (x.2.1<first)||decide (x.2.1+x.2.2.length>first+n))=aE then .error "memory seen as another type: a part of a cell written"
 else if(decide (fr.1<=x.1)&&decide (x.1<fr.2))=aE then .error "a write to bytes that a string shares"
 else match c[x.1]? with
  |none=> .error "memory seen as another type: no such cell"
  |some old=>match old.ofBytes ((bytes.drop (x.2.1-first)).take x.2.2.length)with
   |none=> .error "memory seen as another type: a bool from a byte other than 0 or 1"
   |some new=> .ok (c.setIfInBounds x.1 new)
def qT {z k:Addr}{t:zD}{m:Bool}{c:zA}{e:zD}{fr:Nat×Nat}{first:Nat}{l y:zY}{cells:List (Nat×Nat×zB)}
  (h:w.seen P z t k m= .ok (c,e,fr,first,l,cells)):
  w.viewStore P z t k y m=if(!tight P P.depth t)=aE then aCA "memory seen as another type: a store through a type with padding" else match y.bytes? with
   |none=>aCA "memory seen as another type: a value that is no plain data"
   |some bytes=>if aA bytes.length≠l.bytes?.map (·.length)then aCA "memory seen as another type: a value of another size" else
    match cells.foldlM (kW first bytes.length bytes fr) c with
    | .error a=> .error a
    | .ok c1=>aCz ({w with heap:=w.heap.setIfInBounds z.block (aI c1 e fr)},cells.map λi=>(⟨z.block,i.1,aB⟩:Addr)):=by
 unfold World.viewStore
 by_cases b:(!tight P P.depth t)=aE
 .rw[zAk b,zAk b];rfl
 .rw[zAh b,zAh b,h];show(match y.bytes? with|some bytes=>_|_=>_)=_
  cases n:y.bytes? with
  |none=>rfl
  |some bytes=>
   dsimp only;by_cases d:aA bytes.length≠l.bytes?.map (·.length)
   .rw[zAk d,zAk d];rfl
   .rw[zAh d,zAh d];have f:∀(g:zA->Nat×Nat×zB->Except String (zA)),g=kW first bytes.length bytes fr->
      (Bind.bind (List.foldlM g c cells) λc1=>(Pure.pure ({w with heap:=w.heap.setIfInBounds z.block (aI c1 e fr)},cells.map λi=>(⟨z.block,i.1,aB⟩:Addr)):Except String (zW×List Addr)))=
       match cells.foldlM (kW first bytes.length bytes fr) c with
       | .error a=> .error a
       | .ok c1=>aCz ({w with heap:=w.heap.setIfInBounds z.block (aI c1 e fr)},cells.map λi=>(⟨z.block,i.1,aB⟩:Addr)):=by
     rintro g rfl
     cases cells.foldlM (kW first bytes.length bytes fr) c<;>rfl
    refine f _ ?_;funext c x;obtain⟨i,s,j⟩:=x;unfold kW;dsimp only;split
    .rfl
    .split
     .rfl
     .cases c[i]? with
      |none=>rfl
      |some old=>dsimp only;cases old.ofBytes ((bytes.drop (s-first)).take j.length)<;>rfl
def Ld {first n:Nat}{bytes:zB}{fr:Nat×Nat}:∀(cells:List (Nat×Nat×zB)){c c':zA},aW Al π c c'->
  (∃b,cells.foldlM (kW first n bytes fr) c= .error b)\/∃c1 a,cells.foldlM (kW first n bytes fr) c= .ok c1/\cells.foldlM (kW first n bytes fr) c'= .ok a/\aW Al π c1 a/\c1.size=c.size:=by
 intro cells
 induction cells with
 |nil=>intro c c' h;exact aH ⟨c,c',rfl,rfl,h,rfl⟩
 |cons x cells j=>
  intro c c' h;simp only[List.foldlM_cons];unfold kW;split
  .left;exact⟨_,rfl⟩
  .split
   .left;exact⟨_,rfl⟩
   .obtain⟨f,i⟩|⟨y,k,f,i,g⟩:=h.get x.1
    .rw[f];left;exact⟨_,rfl⟩
    .rw[f,i];dsimp only;obtain d|d:=(tE g ((bytes.drop (x.2.1-first)).take x.2.2.length)).1
     .rw[d];left;exact⟨_,rfl⟩
     rw[d];cases hb:y.ofBytes ((bytes.drop (x.2.1-first)).take x.2.2.length)with
     |none=>left;exact⟨_,rfl⟩
     |some new=>
      obtain⟨b,e⟩|⟨c1,a,f1,f2,f3,f4⟩:=j (h.set ((tE g _).2 new hb) x.1)
      .left;exact⟨b,e⟩
      .right;exact⟨c1,a,f1,f2,f3,by rw[f4];simp⟩
def UC {first n:Nat}{bytes:zB}{fr:Nat×Nat}(cells:List (Nat×Nat×zB)){c:zA}(b:fr.1=0)(d:c.size<=fr.2):
  (∃a,cells.foldlM (kW first n bytes fr) c= .error a)\/cells=[]:=by
 cases cells with
 |nil=>exact aH rfl
 |cons x cells=>
  left;simp only[List.foldlM_cons];unfold kW;split
  .exact⟨_,rfl⟩
  .split
   .exact⟨_,rfl⟩
   .rename_i h;have:c[x.1]? =aB:=by
     rw[Array.getElem?_eq_none_iff];simp only[b,zBd,zBs]at h;omega
    rw[this];exact⟨_,rfl⟩
def cG {h:zJ}{b:Nat}{o:Obj}(e:h[b]? =aA o):h.setIfInBounds b o=h:=by
 apply zCd;intro i;rw[zBt];by_cases a:b=i
 .subst a;have:=(zAb.1 e).1;rw[zAk rfl,zAk this,e]
 .simp[a]
def BD (c1:zA)(e:zD)(fr:Nat×Nat):Obj->Obj
 |aI d t g=>if d.size=c1.size/\t=e then aI c1 e fr else aI d t g
 |o=>o
def LN (c1:zA)(e:zD)(fr:Nat×Nat)(o:Obj):(∃c t f c' a,o=aI c t f/\BD c1 e fr o=aI c' t a/\c'.size=c.size)\/BD c1 e fr o=o:=by
 cases o with
 |cells d t g=>
  unfold BD;dsimp only;by_cases h:d.size=c1.size/\t=e
  .left;exact⟨d,t,g,c1,fr,rfl,by rw[zAk h,h.2],h.1.symm⟩
  .right;rw[zAh h]
 |_=>exact aH rfl
def GF {h:zJ}{b:Nat}{c:zA}{t:zD}{fr:Nat×Nat}(c1:zA)(hs:c1.size=c.size)(e:h[b]? =aA (aI c t fr)):
  h.setIfInBounds b (aI c1 t fr)=h.modify b (BD c1 t fr):=by
 apply zCd
 intro i
 rw[zBt,zDu]
 have:=(zAb.1 e).1
 by_cases a:b=i
 .subst a;rw[zAk rfl,zAk this,zAk rfl,e];simp[BD,hs]
 .simp[a]
def cB.farStore (h:cB P Al F π v w){a a':Addr}(V:bV π a a'){y T:zY}(hy:bG Al π y T)(m:Bool):
  (∃G,v.farStore P a y m= .error G/\Fatal G)\/
  ∃(M w1:zW)(b K:Nat)(l:List Nat),v.farStore P a y m= .ok (M,l.map λi=>⟨b,i,aB⟩)/\w.farStore P a' T m= .ok (w1,l.map λi=>⟨K,i,aB⟩)/\π b K/\
   cB P Al F π M w1/\jL F π π v M w w1/\(F b->l=[]):=by
 have no:∀o,v.heap[a.block]? =o->(∀x u,o≠aA (.view x u))->(∀c t,o≠aA (.pending c t))->∃G,v.farStore P a y m= .error G/\Fatal G:=by
  intro o Q hn hp;unfold World.farStore;rw[Q];cases o with
  |none=>exact⟨_,rfl,by simp[World.noCell,Q]⟩
  |some o=>
   cases o with
   |view x u=>exact absurd rfl (hn x u)
   |pending c t=>exact absurd rfl (hp c t)
   |_=>exact⟨_,rfl,by simp[World.noCell,Q]⟩
 obtain⟨c,c',ty,R,j,I,J,p,_⟩|⟨_,o,p,_,W⟩|⟨S,L,I,J,p⟩:=h.blk _ _ V.1
 .exact aG (no _ I (by simp) (by simp))
 .exact aG (no _ p (λx u e=>W.2.1 x u (zAm e)) (λc t e=>W.2.2.2 c t (zAm e)))
 .cases p with
  |number _ _=>exact aG (no _ I (by simp) (by simp))
  | @view z C p t hu=>
  unfold World.farStore;simp only[I,J];obtain⟨k,e⟩|⟨c,c',e,R,j,first,D,cells,e1,e2,e3,e4,Z,e6,Y,X⟩:=SC h p V t m
  .left;have:∃k,v.viewStore P z t a y m= .error k:=by
    unfold World.viewStore;by_cases s:(!tight P P.depth t)=aE
    .rw[zAk s];exact⟨_,rfl⟩
    .rw[zAh s,e];exact⟨_,rfl⟩
   obtain⟨k,hw⟩:=this;rw[hw];exact⟨_,rfl,by simp⟩
  .rw[qT e1,qT e2];obtain A|A:=MW hy
   .rw[A];by_cases s:(!tight P P.depth t)=aE
    .rw[zAk s];left;exact⟨_,rfl,by simp⟩
    .rw[zAh s];left;exact⟨_,rfl,by simp⟩
   rw[A];by_cases s:(!tight P P.depth t)=aE
   .rw[zAk s];left;exact⟨_,rfl,by simp⟩
   simp only[zAh s];cases hb:y.bytes? with
   |none=>left;exact⟨_,rfl,by simp⟩
   |some bytes=>
    dsimp only;by_cases U:aA bytes.length≠D.bytes?.map (·.length)
    .rw[zAk U];left;exact⟨_,rfl,by simp⟩
    simp only[zAh U];by_cases hF:F z.block
    .obtain⟨k,f⟩|f:=UC (first:=first) (n:=bytes.length) (bytes:=bytes) cells (Y hF).1 (Y hF).2.1
     .rw[f];left;exact⟨_,rfl,by simp⟩
     .subst f;right;refine⟨v,w,z.block,C.block,[],?_,?_,p.1,h,jL.refl v w,λ_=>rfl⟩
      .simp only[List.foldlM_nil];show aCz (({v with heap:=v.heap.setIfInBounds z.block (aI c e R)}:zW),_)=_
       rw[cG e3];rfl
      .simp only[List.foldlM_nil];show aCz (({w with heap:=w.heap.setIfInBounds C.block (aI c' e j)}:zW),_)=_
       rw[cG e4];rfl
    .have:=X.1 hF;subst this;obtain⟨k,f⟩|⟨c1,r,f1,f2,f3,f4⟩:=Ld (first:=first) (n:=bytes.length) (bytes:=bytes) (fr:=j) cells Z
     .rw[f];left;exact⟨_,rfl,by simp⟩
     .rw[f1,f2];right;have E:c1.size=c.size:=f4;have O:r.size=c'.size:=by rw[f3.size,f4,Z.size]
      refine⟨_,_,z.block,C.block,cells.map (·.1),by simp only[zFc];rfl,by simp only[zFc];rfl,p.1,?_,?_,λx=>absurd x hF⟩
      .have:=h.NM p.1 (LN c1 e j) (LN r e j) ?_
       .rw[<-GF c1 E e3,<-GF r O e4]at this;exact this
       .rintro o o' ⟨d,d',ty,g,g',q1,q2,N,q4,q5⟩;cases q1;cases q2;unfold BD;dsimp only;by_cases H:d.size=c1.size/\ty=e
        .rw[zAk H,zAk ⟨by rw[N.size,H.1,f3.size],H.2⟩];exact⟨c1,r,e,j,j,rfl,rfl,f3,λx=>absurd x hF,λ_=>rfl,λhN=>by have:=X.2 hN;rw[E];exact this⟩
        .rw[zAh H,zAh (λx=>H ⟨by rw[<-N.size,x.1,f3.size],x.2⟩)];exact⟨d,d',ty,g,g',rfl,rfl,N,q4,q5⟩
      .refine⟨λ_ _ x=>x,by simp,by simp,λK _ B=> ?_,λ_ _ x=>aG x,rfl,rfl,rfl,rfl,rfl,rfl,⟨0,rfl,rfl⟩,λx y=>⟨by simpa using x,y⟩,λb _ B=> ?_,λb I J=>by simp at J;omega⟩
       .have:C.block≠K:=λq=>hF (B z.block (q▸p.1));simp only[zAd this]
       .have:z.block≠b:=λq=>B C.block (q▸p.1);simp only[zAd this]
end
end Go.Ren
