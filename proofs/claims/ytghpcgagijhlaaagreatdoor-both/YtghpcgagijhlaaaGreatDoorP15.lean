import Derived.Test.YtghpcgagijhlaaaGreatDoorChecked
import Derived.Conc.CompanyDraw
import Derived.Test.YtghpcgagijhlaaaGreatDoorP14
set_option linter.all false
set_option maxRecDepth 100000
set_option maxHeartbeats 16000000
open Option renaming some->aA,none->aB
open Bool renaming true->aE,false->aF
open Or renaming inl->aG,inr->aH
open Go.Item renaming inRegion->aM
open Go.Obj renaming cells->aI
open Go.IntKind renaming i64->aD,u64->aQ
open Go renaming execOp->aCF
open Go.Conc.QuitsD renaming leaveD->aCS
open Go.IntKind renaming wrap_u64->aCQ,wrap_i32->aCR
namespace Go.Wg
open Go.Conc Go.RowKit Go.Conc.Lib Go.ConcR.Gen Go.ConcN Go.ConcN.Gen
open Go.ConcR (KK wgBlock WgAt stA smA rd wr mk Payload DC0)
variable {L:WgLink}
def XE {P:zZ}:∀(n d:Nat)(g:zH),QuitsD P n d g->QuitsD P (n+1) d g:=by
 intro n;induction n with
 |zero=>intro d g h;exact aG h
 |succ n i=>
  intro d g h;obtain h|⟨a,f,es,b,c,e⟩:=h
  .exact aG h
  .exact aH ⟨a,f,es,b,c,i _ _ e⟩
def xY {P:zZ}{n m d:Nat}{g:zH}(h:n<=m)(a:QuitsD P n d g):QuitsD P m d g:=by
 induction h with
 |refl=>exact a
 |step _ i=>exact XE _ _ _ i
section
variable {P:zZ}{R:zW->zW->Prop}{F:zW->Prop}{Wg:Nat}{c:zC}{cs:zL}{qt:Nat}
def Zr [Payload] (H:WgLib P L)(o:Cn L.tWg Wg R F)(e:c.mode= .returning)(m:QuitsD P qt 0 (G c cs))(w:zW)(hF:F w/\WgLive L.tWg Wg w):
  On P aF R (iE P aF (.releaseMerge (stA Wg)) (On P aF R (iE P aF .disable (On P aF R (au P L.tWg Wg R)))))
   (G ((baseD L.done).at ⟨#[.pointer (aA ⟨Wg,0,aB⟩),undef,undef,undef],[]⟩ [.code (body_done L)]) (c::cs)) w:=by
 have r:= @o.rely
 lib_facts
 simp only[body_done,doneFn,zCc]
 refine⟨300,?_⟩
 u_reg r hF
 u_op r hF
 u_in r hF
 refine goes_call rfl rfl (by k_ne) rfl H.f_add (nm_add L) rfl ⟨by u_nil,?_⟩
 walk_nrmf addFn
 u_c zGn r hF
 u_cnd aE r hF
 u_c zGn r hF
 u_c zGn r hF
 u_reg r hF
 u_op r hF
 u_op r hF
 u_c zGm r hF
 u_cnd aE r hF
 u_reg r hF
 u_op r hF
 u_conv H.underlying_tWgP H.room_tWg (WgLive.cell0 hF.2).choose_spec r hF
 trace "@@u_conv H.underlying_tWgP H.room_tWg (WgLive.cell0 hF.2).choose_spec rl hF"
 refine Goes.stop (λa b=> ?_)
 replace hF:=r hF b
 clear b
 refine⟨rfl,_,stepG_markAt .releaseMerge (by simp) rfl rfl (by k_ne) rfl H.f_relMerge (x_relMerge_n L) (x_relMerge_b L) (x_relMerge_x L) (x_relMerge_f L) (by simp[Act.eval,stA]),200,?_⟩
 walk_nrm
 u_c zGm r hF
 u_c zGn r hF
 u_reg r hF
 refine Goes.stop (λa b=> ?_)
 replace hF:=r hF b
 clear b
 refine⟨rfl,_,stepG_mark0 .disable (by simp) rfl rfl (by k_ne) rfl H.f_disable (x_disable_n L) (x_disable_b L) (x_disable_x L) (x_disable_f L),200,?_⟩
 walk_nrm
 u_c zGm r hF
 u_reg r hF
 u_defer r hF
 u_c zGm r hF
 u_c zGn r hF
 u_reg r hF
 u_op r hF
 u_c zGm r hF
 u_c zGn r hF
 u_c zGn r hF
 u_reg r hF
 u_bub r hF
 u_c zGm r hF
 u_cnd aF r hF
 u_c zGu r hF
 u_c zGn r hF
 u_reg r hF
 iterate 6 (u_op r hF)
 u_call H.f_uAdd (nm_uAdd L) uAddFn r hF
 u_c zGn r hF
 u_reg r hF
 u_op r hF
 u_c zGm r hF
 u_c zGn r hF
 u_reg r hF
 iterate 4 (u_op r hF)
 refine Goes.stop (λa b=> ?_)
 replace hF:=r hF b
 clear b
 refine⟨rfl,λv wt y I h=> ?_⟩
 have C:IntKind.u64.wrap (KK+18446744069414584320)=0:=by decide
 have B:IntKind.u64.wrap (KK+1+18446744069414584320)=1:=by decide
 obtain rfl|A:=zEu v<;>(obtain rfl|rfl:wt=0\/wt=1:=by omega)
 .replace h:WgAt L.tWg Wg a KK 0:=by simpa using h
  have z:((0:Nat):Int)*KK+((0:Nat):Int)=0:=by simp
  rw[z]
  refine⟨_,(stepG_add_atomic rfl rfl (by k_ne) rfl H.f_addU64 (x_addU64_n L) (x_addU64_b L) (x_addU64_x L) aQ (x_addU64_f L) rfl rfl h.cellSt (h.thaw 0)).trans (by rw[C];rfl),λk=>absurd k.2 (by decide),λ_=>⟨qt+189,?_⟩⟩
  clear h hF
  walk_nrm
  (refine zGo _ rfl rfl (by k_ne) (λ_=>by go_simp<;>(try w_num)<;>rfl) (λ_=>by simp[go_sem, *]) ?_;walk_nrm)
  q_c zGm
  q_c zHe
  q_leave1 H.f_uAdd
  (refine zGo _ rfl rfl (by k_ne) (λ_=>by go_simp<;>(try w_num)<;>rfl) (λ_=>by simp[go_sem, *]) ?_;walk_nrm)
  q_c zGm
  q_c zGn
  q_c zGn
  q_reg
  iterate 4 ((refine zGo _ rfl rfl (by k_ne) (λ_=>by go_simp<;>(try w_num)<;>rfl) (λ_=>by simp[go_sem, *]) ?_;walk_nrm))
  q_skip
  q_skip
  (refine zGo _ rfl rfl (by k_ne) (λ_=>by go_simp<;>(try w_num)<;>rfl) (λ_=>by simp[go_sem, *]) ?_;walk_nrm)
  q_c zGm
  q_cond aF
  q_c zGu
  q_c zGn
  q_reg
  iterate 4 ((refine zGo _ rfl rfl (by k_ne) (λ_=>by go_simp<;>(try w_num)<;>rfl) (λ_=>by simp[go_sem, *]) ?_;walk_nrm))
  q_c zGm
  q_c zGn
  q_reg
  iterate 4 ((refine zGo _ rfl rfl (by k_ne) (λ_=>by go_simp<;>(try w_num)<;>rfl) (λ_=>by simp[go_sem, *]) ?_;walk_nrm))
  q_c zGm
  q_c zGn
  q_c zGn
  q_reg
  iterate 5 ((refine zGo _ rfl rfl (by k_ne) (λ_=>by go_simp<;>(try w_num)<;>rfl) (λ_=>by simp[go_sem, *]) ?_;walk_nrm))
  iterate 4 (q_skip)
  (refine zGo _ rfl rfl (by k_ne) (λ_=>by go_simp<;>(try w_num)<;>rfl) (λ_=>by simp[go_sem, *]) ?_;walk_nrm)
  q_c zGm
  q_cond aF
  q_c zGu
  q_c zGn
  q_c zGn
  q_reg
  iterate 2 ((refine zGo _ rfl rfl (by k_ne) (λ_=>by go_simp<;>(try w_num)<;>rfl) (λ_=>by simp[go_sem, *]) ?_;walk_nrm))
  q_c zGm
  q_cond aF
  q_c zGu
  q_c zGn
  q_c zGn
  q_reg
  iterate 3 ((refine zGo _ rfl rfl (by k_ne) (λ_=>by go_simp<;>(try w_num)<;>rfl) (λ_=>by simp[go_sem, *]) ?_;walk_nrm))
  q_skip
  q_skip
  iterate 2 ((refine zGo _ rfl rfl (by k_ne) (λ_=>by go_simp<;>(try w_num)<;>rfl) (λ_=>by simp[go_sem, *]) ?_;walk_nrm))
  iterate 4 (q_skip)
  (refine zGo _ rfl rfl (by k_ne) (λ_=>by go_simp<;>(try w_num)<;>rfl) (λ_=>by simp[go_sem, *]) ?_;walk_nrm)
  q_c zGm
  q_cond aF
  q_c zGu
  q_c zGn
  q_c zGn
  q_reg
  iterate 6 ((refine zGo _ rfl rfl (by k_ne) (λ_=>by go_simp<;>(try w_num)<;>rfl) (λ_=>by simp[go_sem, *]) ?_;walk_nrm))
  q_c zGm
  q_cond aE
  q_c zHe
  q_enable
  q_leave0 H.f_add
  q_c zGm
  q_c stepG_end
  exact xY (by omega) (aCS rfl rfl H.f_done rfl e m)
 .replace h:WgAt L.tWg Wg a (KK+1) 0:=by simpa using h
  have z:((0:Nat):Int)*KK+((1:Nat):Int)=1:=by simp
  rw[z]
  refine⟨_,(stepG_add_atomic rfl rfl (by k_ne) rfl H.f_addU64 (x_addU64_n L) (x_addU64_b L) (x_addU64_x L) aQ (x_addU64_f L) rfl rfl h.cellSt (h.thaw 0)).trans (by rw[B];rfl),λ_=>⟨200,?_⟩,λk=>absurd ⟨rfl,rfl⟩ k⟩
  replace hF:F (a.setCell (stA Wg) (.int aQ 1))/\WgLive L.tWg Wg (a.setCell (stA Wg) (.int aQ 1)):=⟨o.NM hF.1,⟨_,_,h.setSt 1⟩⟩
  clear h
  walk_nrm
  u_op r hF
  u_c zGm r hF
  u_c zHe r hF
  u_leave1 H.f_uAdd r hF
  u_op r hF
  u_c zGm r hF
  u_c zGn r hF
  u_c zGn r hF
  u_reg r hF
  iterate 4 (u_op r hF)
  u_skip r hF
  u_skip r hF
  u_op r hF
  u_c zGm r hF
  u_cnd aF r hF
  u_c zGu r hF
  u_c zGn r hF
  u_reg r hF
  iterate 4 (u_op r hF)
  u_c zGm r hF
  u_c zGn r hF
  u_reg r hF
  iterate 4 (u_op r hF)
  u_c zGm r hF
  u_c zGn r hF
  u_c zGn r hF
  u_reg r hF
  iterate 5 (u_op r hF)
  iterate 4 (u_skip r hF)
  u_op r hF
  u_c zGm r hF
  u_cnd aF r hF
  u_c zGu r hF
  u_c zGn r hF
  u_c zGn r hF
  u_reg r hF
  u_op r hF
  u_op r hF
  u_c zGm r hF
  u_cnd aF r hF
  u_c zGu r hF
  u_c zGn r hF
  u_c zGn r hF
  u_reg r hF
  iterate 7 (u_op r hF)
  iterate 4 (u_skip r hF)
  u_op r hF
  u_c zGm r hF
  u_cnd aF r hF
  u_c zGu r hF
  u_c zGn r hF
  u_c zGn r hF
  u_reg r hF
  iterate 6 (u_op r hF)
  u_c zGm r hF
  u_cnd aF r hF
  u_c zGu r hF
  u_c zGn r hF
  u_c zGn r hF
  u_reg r hF
  iterate 3 (u_op r hF)
  u_call H.f_uLoad (nm_uLoad L) uLoadFn r hF
  u_c zGn r hF
  u_reg r hF
  u_op r hF
  u_c zGm r hF
  u_c zGn r hF
  u_reg r hF
  iterate 3 (u_op r hF)
  refine Goes.stop (λq j=> ?_)
  replace hF:=r hF j
  clear j
  refine⟨rfl,λh=>⟨_,stepG_load_atomic (v:=1) rfl rfl (by k_ne) rfl H.f_loadU64 (x_loadU64_n L) (x_loadU64_b L) (x_loadU64_x L) aQ (x_loadU64_f L) rfl h.cellSt,200,?_⟩⟩
  clear h
  walk_nrm
  u_op r hF
  u_c zGm r hF
  u_c zHe r hF
  u_leave1 H.f_uLoad r hF
  u_op r hF
  u_op r hF
  u_c zGm r hF
  u_cnd aF r hF
  u_c zGu r hF
  u_c zGn r hF
  u_reg r hF
  iterate 3 (u_op r hF)
  u_call H.f_uStore (nm_uStore L) uStoreFn r hF
  u_reg r hF
  iterate 4 (u_op r hF)
  refine Goes.stop (λf i=> ?_)
  replace hF:=r hF i
  clear i
  refine⟨rfl,λh=>⟨_,stepG_store_atomic rfl rfl (by k_ne) rfl H.f_storeU64 (x_storeU64_n L) (x_storeU64_b L) (x_storeU64_x L) (x_storeU64_f L) rfl rfl h.cellSt (h.thaw 0),200,?_⟩⟩
  replace hF:F (f.setCell (stA Wg) (.int aQ 0))/\WgLive L.tWg Wg (f.setCell (stA Wg) (.int aQ 0)):=⟨o.NM hF.1,⟨_,_,h.setSt 0⟩⟩
  clear h
  walk_nrm
  u_c zGm r hF
  u_c stepG_end r hF
  u_leave0 H.f_uStore r hF
  u_c zGm r hF
  u_c zGn r hF
  u_c zGn r hF
  u_reg r hF
  u_op r hF
  u_c zGm r hF
  u_cnd aF r hF
  u_c zGu r hF
  u_c stepG_block r hF
  u_c stepG_loop r hF
  u_c zGn r hF
  u_c zGn r hF
  u_reg r hF
  u_op r hF
  u_op r hF
  u_c zGm r hF
  u_cnd aE r hF
  u_c zGu r hF
  u_c zGn r hF
  u_c stepG_block r hF
  u_reg r hF
  iterate 3 (u_op r hF)
  refine Goes.stop (λp g=> ?_)
  replace hF:=r hF g
  clear g
  refine⟨rfl,mayWake_entry rfl rfl H.f_semrelease (x_semrelease_b L),λh=>⟨_,(stepG_semrelease rfl rfl (by k_ne) rfl H.f_semrelease (x_semrelease_n L) (x_semrelease_b L) (x_semrelease_x L) (x_semrelease_f L) (by simp[Act.eval,smA]) h.cellSm (h.thaw 1)).trans (by rfl),qt+189,?_⟩⟩
  clear h hF
  walk_nrm
  q_c zGm
  q_c stepG_inBlock
  q_reg
  iterate 3 ((refine zGo _ rfl rfl (by k_ne) (λ_=>by go_simp<;>(try w_num)<;>rfl) (λ_=>by simp[go_sem, *]) ?_;walk_nrm))
  q_c zGm
  q_c stepG_inLoop
  q_c zGn
  q_c zGn
  q_reg
  iterate 2 ((refine zGo _ rfl rfl (by k_ne) (λ_=>by go_simp<;>(try w_num)<;>rfl) (λ_=>by simp[go_sem, *]) ?_;walk_nrm))
  q_c zGm
  q_cond aF
  q_exit
  q_c stepG_end
  q_enable
  q_leave0 H.f_add
  q_c zGm
  q_c stepG_end
  exact xY (by omega) (aCS rfl rfl H.f_done rfl e m)
 .replace h:WgAt L.tWg Wg a (((v:Nat)+1)*KK+0) 0:=by simpa using h
  have z:((v:Nat):Int)*KK+((0:Nat):Int)=(v:Int)*KK+0:=by simp
  rw[z]
  have n:0<v:=by omega
  have l:IntKind.u64.wrap (((v:Nat)+1)*KK+0+18446744069414584320)=(v:Int)*KK+0:=by rw[aCQ];simp only[KK];omega
  obtain⟨S,d⟩:∃S:Int,S=(v:Int)*KK+0:=⟨_,rfl⟩
  rw[<-d]at l⊢
  have E:S/4294967296=(v:Int):=by rw[d];simp only[KK];omega
  have a2:0<=S/\S<9223372036854775808:=by rw[d];simp only[KK];omega
  have b1:bits .and aQ S 2147483648=0:=by rw[d];have:=st_flag v 0 (by omega) (by omega);simpa [KK]using this
  have D:bits .and aQ S 2147483647=0:=by rw[d];have:=st_waiters v 0 (by omega) (by omega);simpa [KK]using this
  have c1:IntKind.i32.wrap (v:Int)=(v:Int):=by rw[aCR];omega
  have x:decide ((v:Int)<0)=aF:=zCy (by omega)
  have u:decide (0<(v:Int))=aE:=zEi (by omega)
  have t:((v:Int)==0)=aF:=by simp;omega
  have s:decide ((v:Int)=0)=aF:=zCy (by omega)
  clear d z
  refine⟨_,(stepG_add_atomic rfl rfl (by k_ne) rfl H.f_addU64 (x_addU64_n L) (x_addU64_b L) (x_addU64_x L) aQ (x_addU64_f L) rfl rfl h.cellSt (h.thaw 0)).trans (by rw[l];rfl),λk=>absurd k.1 (by omega),λ_=>⟨qt+189,?_⟩⟩
  clear h hF
  walk_nrm
  (refine zGo _ rfl rfl (by k_ne) (λ_=>by go_simp<;>(try w_num)<;>rfl) (λ_=>by simp[go_sem, *]) ?_;walk_nrm)
  q_c zGm
  q_c zHe
  q_leave1 H.f_uAdd
  (refine zGo _ rfl rfl (by k_ne) (λ_=>by go_simp<;>(try w_num)<;>rfl) (λ_=>by simp[go_sem, *]) ?_;walk_nrm)
  q_c zGm
  q_c zGn
  q_c zGn
  q_reg
  iterate 4 ((refine zGo _ rfl rfl (by k_ne) (λ_=>by go_simp<;>(try w_num)<;>rfl) (λ_=>by simp[go_sem, *]) ?_;walk_nrm))
  q_skip
  q_skip
  (refine zGo _ rfl rfl (by k_ne) (λ_=>by go_simp<;>(try w_num)<;>rfl) (λ_=>by simp[go_sem, *]) ?_;walk_nrm)
  q_c zGm
  q_cond aF
  q_c zGu
  q_c zGn
  q_reg
  iterate 4 ((refine zGo _ rfl rfl (by k_ne) (λ_=>by go_simp<;>(try w_num)<;>rfl) (λ_=>by simp[go_sem, *]) ?_;walk_nrm))
  q_c zGm
  q_c zGn
  q_reg
  iterate 4 ((refine zGo _ rfl rfl (by k_ne) (λ_=>by go_simp<;>(try w_num)<;>rfl) (λ_=>by simp[go_sem, *]) ?_;walk_nrm))
  q_c zGm
  q_c zGn
  q_c zGn
  q_reg
  iterate 5 ((refine zGo _ rfl rfl (by k_ne) (λ_=>by go_simp<;>(try w_num)<;>rfl) (λ_=>by simp[go_sem, *]) ?_;walk_nrm))
  iterate 4 (q_skip)
  (refine zGo _ rfl rfl (by k_ne) (λ_=>by go_simp<;>(try w_num)<;>rfl) (λ_=>by simp[go_sem, *]) ?_;walk_nrm)
  q_c zGm
  q_cond aF
  q_c zGu
  q_c zGn
  q_c zGn
  q_reg
  iterate 2 ((refine zGo _ rfl rfl (by k_ne) (λ_=>by go_simp<;>(try w_num)<;>rfl) (λ_=>by simp[go_sem, *]) ?_;walk_nrm))
  q_c zGm
  q_cond aF
  q_c zGu
  q_c zGn
  q_c zGn
  q_reg
  iterate 3 ((refine zGo _ rfl rfl (by k_ne) (λ_=>by go_simp<;>(try w_num)<;>rfl) (λ_=>by simp[go_sem, *]) ?_;walk_nrm))
  q_skip
  q_skip
  iterate 2 ((refine zGo _ rfl rfl (by k_ne) (λ_=>by go_simp<;>(try w_num)<;>rfl) (λ_=>by simp[go_sem, *]) ?_;walk_nrm))
  iterate 4 (q_skip)
  (refine zGo _ rfl rfl (by k_ne) (λ_=>by go_simp<;>(try w_num)<;>rfl) (λ_=>by simp[go_sem, *]) ?_;walk_nrm)
  q_c zGm
  q_cond aF
  q_c zGu
  q_c zGn
  q_c zGn
  q_reg
  iterate 3 ((refine zGo _ rfl rfl (by k_ne) (λ_=>by go_simp<;>(try w_num)<;>rfl) (λ_=>by simp[go_sem, *]) ?_;walk_nrm))
  q_skip
  q_skip
  (refine zGo _ rfl rfl (by k_ne) (λ_=>by go_simp<;>(try w_num)<;>rfl) (λ_=>by simp[go_sem, *]) ?_;walk_nrm)
  q_c zGm
  q_cond aE
  q_c zHe
  q_enable
  q_leave0 H.f_add
  q_c zGm
  q_c stepG_end
  exact xY (by omega) (aCS rfl rfl H.f_done rfl e m)
 .replace h:WgAt L.tWg Wg a (((v:Nat)+1)*KK+1) 0:=by simpa using h
  have z:((v:Nat):Int)*KK+((1:Nat):Int)=(v:Int)*KK+1:=by simp
  rw[z]
  have n:0<v:=by omega
  have l:IntKind.u64.wrap (((v:Nat)+1)*KK+1+18446744069414584320)=(v:Int)*KK+1:=by rw[aCQ];simp only[KK];omega
  obtain⟨S,d⟩:∃S:Int,S=(v:Int)*KK+1:=⟨_,rfl⟩
  rw[<-d]at l⊢
  have E:S/4294967296=(v:Int):=by rw[d];simp only[KK];omega
  have a2:0<=S/\S<9223372036854775808:=by rw[d];simp only[KK];omega
  have b1:bits .and aQ S 2147483648=0:=by rw[d];have:=st_flag v 1 (by omega) (by omega);simpa [KK]using this
  have D:bits .and aQ S 2147483647=1:=by rw[d];have:=st_waiters v 1 (by omega) (by omega);simpa [KK]using this
  have c1:IntKind.i32.wrap (v:Int)=(v:Int):=by rw[aCR];omega
  have x:decide ((v:Int)<0)=aF:=zCy (by omega)
  have u:decide (0<(v:Int))=aE:=zEi (by omega)
  have t:((v:Int)==0)=aF:=by simp;omega
  have s:decide ((v:Int)=0)=aF:=zCy (by omega)
  clear d z
  refine⟨_,(stepG_add_atomic rfl rfl (by k_ne) rfl H.f_addU64 (x_addU64_n L) (x_addU64_b L) (x_addU64_x L) aQ (x_addU64_f L) rfl rfl h.cellSt (h.thaw 0)).trans (by rw[l];rfl),λk=>absurd k.1 (by omega),λ_=>⟨qt+189,?_⟩⟩
  clear h hF
  walk_nrm
  (refine zGo _ rfl rfl (by k_ne) (λ_=>by go_simp<;>(try w_num)<;>rfl) (λ_=>by simp[go_sem, *]) ?_;walk_nrm)
  q_c zGm
  q_c zHe
  q_leave1 H.f_uAdd
  (refine zGo _ rfl rfl (by k_ne) (λ_=>by go_simp<;>(try w_num)<;>rfl) (λ_=>by simp[go_sem, *]) ?_;walk_nrm)
  q_c zGm
  q_c zGn
  q_c zGn
  q_reg
  iterate 4 ((refine zGo _ rfl rfl (by k_ne) (λ_=>by go_simp<;>(try w_num)<;>rfl) (λ_=>by simp[go_sem, *]) ?_;walk_nrm))
  q_skip
  q_skip
  (refine zGo _ rfl rfl (by k_ne) (λ_=>by go_simp<;>(try w_num)<;>rfl) (λ_=>by simp[go_sem, *]) ?_;walk_nrm)
  q_c zGm
  q_cond aF
  q_c zGu
  q_c zGn
  q_reg
  iterate 4 ((refine zGo _ rfl rfl (by k_ne) (λ_=>by go_simp<;>(try w_num)<;>rfl) (λ_=>by simp[go_sem, *]) ?_;walk_nrm))
  q_c zGm
  q_c zGn
  q_reg
  iterate 4 ((refine zGo _ rfl rfl (by k_ne) (λ_=>by go_simp<;>(try w_num)<;>rfl) (λ_=>by simp[go_sem, *]) ?_;walk_nrm))
  q_c zGm
  q_c zGn
  q_c zGn
  q_reg
  iterate 5 ((refine zGo _ rfl rfl (by k_ne) (λ_=>by go_simp<;>(try w_num)<;>rfl) (λ_=>by simp[go_sem, *]) ?_;walk_nrm))
  iterate 4 (q_skip)
  (refine zGo _ rfl rfl (by k_ne) (λ_=>by go_simp<;>(try w_num)<;>rfl) (λ_=>by simp[go_sem, *]) ?_;walk_nrm)
  q_c zGm
  q_cond aF
  q_c zGu
  q_c zGn
  q_c zGn
  q_reg
  iterate 2 ((refine zGo _ rfl rfl (by k_ne) (λ_=>by go_simp<;>(try w_num)<;>rfl) (λ_=>by simp[go_sem, *]) ?_;walk_nrm))
  q_c zGm
  q_cond aF
  q_c zGu
  q_c zGn
  q_c zGn
  q_reg
  iterate 7 ((refine zGo _ rfl rfl (by k_ne) (λ_=>by go_simp<;>(try w_num)<;>rfl) (λ_=>by simp[go_sem, *]) ?_;walk_nrm))
  iterate 4 (q_skip)
  (refine zGo _ rfl rfl (by k_ne) (λ_=>by go_simp<;>(try w_num)<;>rfl) (λ_=>by simp[go_sem, *]) ?_;walk_nrm)
  q_c zGm
  q_cond aF
  q_c zGu
  q_c zGn
  q_c zGn
  q_reg
  iterate 3 ((refine zGo _ rfl rfl (by k_ne) (λ_=>by go_simp<;>(try w_num)<;>rfl) (λ_=>by simp[go_sem, *]) ?_;walk_nrm))
  q_skip
  q_skip
  (refine zGo _ rfl rfl (by k_ne) (λ_=>by go_simp<;>(try w_num)<;>rfl) (λ_=>by simp[go_sem, *]) ?_;walk_nrm)
  q_c zGm
  q_cond aE
  q_c zHe
  q_enable
  q_leave0 H.f_add
  q_c zGm
  q_c stepG_end
  exact xY (by omega) (aCS rfl rfl H.f_done rfl e m)
end
end Go.Wg
namespace Go.Proofs
abbrev Tryz.link:Go.Conc.Lib.WgLink:={add:=181,done:=183,wait:=185,relMerge:=188,disable:=189,enable:=190,inBubble:=191,associate:=192,fatal:=193,uOr:=194,uAdd:=195,raceRead:=196,uLoad:=197,uStore:=198,disassociate:=199,semrelease:=200,acquire:=201,isAssociated:=202,uCas:=203,raceWrite:=204,semacquire:=205,orU64:=207,addU64:=208,loadU64:=209,storeU64:=210,casU64:=211,tWgP:=243,tUP:=191,tAssoc:=245,tWg:=240,tAU:=238,tU64:=122,tUint:=139,tU32:=135,tPU32:=249,tPAU:=258,tPU64:=260,tNoCopy:=234,tANoCopy:=235,tAlign64:=236}
def Tryz.Ac:Go.Conc.Lib.WgLib Tryz.prog Tryz.link:={
 f_add:=Tryz.func181,
 f_done:=Tryz.func183,
 f_wait:=Tryz.func185,
 f_relMerge:=Tryz.func188,
 f_disable:=Tryz.func189,
 f_enable:=Tryz.func190,
 f_inBubble:=Tryz.func191,
 f_associate:=Tryz.func192,
 f_fatal:=Tryz.func193,
 f_uOr:=Tryz.func194,
 f_uAdd:=Tryz.func195,
 f_raceRead:=Tryz.func196,
 f_uLoad:=Tryz.func197,
 f_uStore:=Tryz.func198,
 f_disassociate:=Tryz.func199,
 f_semrelease:=Tryz.func200,
 f_acquire:=Tryz.func201,
 f_isAssociated:=Tryz.func202,
 f_uCas:=Tryz.func203,
 f_raceWrite:=Tryz.func204,
 f_semacquire:=Tryz.func205,
 f_orU64:=Tryz.func207,
 f_addU64:=Tryz.func208,
 f_loadU64:=Tryz.func209,
 f_storeU64:=Tryz.func210,
 f_casU64:=Tryz.func211,
 underlying_tWgP:=Tryz.underlying243,
 runUnderlying_tWgP:=Tryz.runUnderlying243,
 sizeOf_tWgP:=Tryz.sizeOf243,
 isAgg_tWgP:=Tryz.isAgg243,
 zeroValue_tWgP:=Tryz.zeroValue243,
 underlying_tUP:=Tryz.underlying191,
 runUnderlying_tUP:=Tryz.runUnderlying191,
 sizeOf_tUP:=Tryz.sizeOf191,
 isAgg_tUP:=Tryz.isAgg191,
 zeroValue_tUP:=Tryz.zeroValue191,
 underlying_tI32:=Tryz.underlying245,
 runUnderlying_tI32:=Tryz.runUnderlying245,
 sizeOf_tI32:=Tryz.sizeOf245,
 isAgg_tI32:=Tryz.isAgg245,
 zeroValue_tI32:=Tryz.zeroValue245,
 underlying_tWg:=Tryz.underlying240,
 runUnderlying_tWg:=Tryz.runUnderlying240,
 sizeOf_tWg:=Tryz.sizeOf240,
 isAgg_tWg:=Tryz.isAgg240,
 zeroValue_tWg:=Tryz.zeroValue240,
 underlying_tAU:=Tryz.underlying238,
 runUnderlying_tAU:=Tryz.runUnderlying238,
 sizeOf_tAU:=Tryz.sizeOf238,
 isAgg_tAU:=Tryz.isAgg238,
 zeroValue_tAU:=Tryz.zeroValue238,
 underlying_tU64:=Tryz.underlying122,
 runUnderlying_tU64:=Tryz.runUnderlying122,
 sizeOf_tU64:=Tryz.sizeOf122,
 isAgg_tU64:=Tryz.isAgg122,
 zeroValue_tU64:=Tryz.zeroValue122,
 underlying_tSh:=Tryz.underlying139,
 runUnderlying_tSh:=Tryz.runUnderlying139,
 sizeOf_tSh:=Tryz.sizeOf139,
 isAgg_tSh:=Tryz.isAgg139,
 zeroValue_tSh:=Tryz.zeroValue139,
 underlying_tU32:=Tryz.underlying135,
 runUnderlying_tU32:=Tryz.runUnderlying135,
 sizeOf_tU32:=Tryz.sizeOf135,
 isAgg_tU32:=Tryz.isAgg135,
 zeroValue_tU32:=Tryz.zeroValue135,
 underlying_tPU32:=Tryz.underlying249,
 runUnderlying_tPU32:=Tryz.runUnderlying249,
 sizeOf_tPU32:=Tryz.sizeOf249,
 isAgg_tPU32:=Tryz.isAgg249,
 zeroValue_tPU32:=Tryz.zeroValue249,
 underlying_tPAU:=Tryz.underlying258,
 runUnderlying_tPAU:=Tryz.runUnderlying258,
 sizeOf_tPAU:=Tryz.sizeOf258,
 isAgg_tPAU:=Tryz.isAgg258,
 zeroValue_tPAU:=Tryz.zeroValue258,
 underlying_tPU64:=Tryz.underlying260,
 runUnderlying_tPU64:=Tryz.runUnderlying260,
 sizeOf_tPU64:=Tryz.sizeOf260,
 isAgg_tPU64:=Tryz.isAgg260,
 zeroValue_tPU64:=Tryz.zeroValue260,
 underlying_t0:=Tryz.underlying0,
 runUnderlying_t0:=Tryz.runUnderlying0,
 sizeOf_t0:=Tryz.sizeOf0,
 isAgg_t0:=Tryz.isAgg0,
 zeroValue_t0:=Tryz.zeroValue0,
 underlying_t3:=Tryz.underlying3,
 runUnderlying_t3:=Tryz.runUnderlying3,
 sizeOf_t3:=Tryz.sizeOf3,
 isAgg_t3:=Tryz.isAgg3,
 zeroValue_t3:=Tryz.zeroValue3,
 underlying_t4:=Tryz.underlying4,
 runUnderlying_t4:=Tryz.runUnderlying4,
 sizeOf_t4:=Tryz.sizeOf4,
 isAgg_t4:=Tryz.isAgg4,
 zeroValue_t4:=Tryz.zeroValue4,
 underlying_t9:=Tryz.underlying9,
 runUnderlying_t9:=Tryz.runUnderlying9,
 sizeOf_t9:=Tryz.sizeOf9,
 isAgg_t9:=Tryz.isAgg9,
 zeroValue_t9:=Tryz.zeroValue9,
 underlying_t20:=Tryz.underlying20,
 runUnderlying_t20:=Tryz.runUnderlying20,
 sizeOf_t20:=Tryz.sizeOf20,
 isAgg_t20:=Tryz.isAgg20,
 zeroValue_t20:=Tryz.zeroValue20,
 underlying_t21:=Tryz.underlying21,
 runUnderlying_t21:=Tryz.runUnderlying21,
 sizeOf_t21:=Tryz.sizeOf21,
 isAgg_t21:=Tryz.isAgg21,
 zeroValue_t21:=Tryz.zeroValue21,
 room_tWg:=(by kernel_rfl),
 room_tU32:=(by kernel_rfl)}
end Go.Proofs
namespace Go.Ren
open Go.Conc
section
variable {P:zZ}{mn:Bool}{J:zW->Prop}{S:(zP)->(zP)->zU}{rs ws:zP}{g g':zH}{w:zW}
def Rj {es:zE}(b:g.status= .running)(h:∀w₁,cQ rs ws w w₁->J w₁->stepG P mn g w₁= .go g' w₁ es)(d:∀e∈es,VU rs ws e)(c:∃t,cX P mn J S t rs ws g' w):∃t,cX P mn J S t rs ws g w:=
 cX.step b λw₁ r j=>⟨g',w₁,es,h w₁ r j,Does.refl ws w₁,λe a=>by rw[dZ];exact d e a,by rw[dZ];exact let⟨t,x⟩:=c;⟨t,x.rely r⟩⟩
def bO (a:g.status= .running)(h:∀w₁,stepG P mn g w₁= .go g' w₁ #[])(b:∃t,cX P mn J S t rs ws g' w):∃t,cX P mn J S t rs ws g w:=
 Rj a (λw₁ _ _=>h w₁) (by simp) b
def BZ (h:∀w₁,cQ rs ws w w₁->J w₁->S rs ws g w₁):∃t,cX P mn J S t rs ws g w:=⟨.leaf,h⟩
def Gp {b:zC}{a:Act}{k:zI}{cs:zL}{id:Nat}{ops:zQ}(f:P.follows .mixedOrders=aE)
  (h:∀t,∃d,cX P mn J S d rs ws (G (b.at a (aM ops (Region.linearise.go .any ops ops.size t (Array.replicate ops.size aF) [])::k)) cs) w):∃d,cX P mn J S d rs ws (G (b.at a (.code (.region id ops aE)::k)) cs) w:=by
 refine cX.step rfl λc r j=>⟨_,_,_,stepG_region_draw,⟨λ_ _ _=>rfl,zAa _,rfl,rfl,rfl⟩,by simp,?_⟩
 have e:grown ws c {c with drawn:=c.drawn+1}=ws:=by funext b;exact propext ⟨λx=>x.elim (λz=>z) λy=>by have:=y.1;have:=y.2;simp only at*;omega,aG⟩
 rw[e]
 simp only[Region.schedule,f,Bool.true_or,zDf]
 obtain⟨d,x⟩:=h (c.tape c.drawn (.order b.fn id))
 exact⟨d,x.rely ⟨λb i=>r.dF b i,r.size,r.tape,r.os,r.output⟩⟩
def Gn {b:zC}{a:Act}{k:zI}{cs:zL}{ops:zQ}{fuel:Nat}{listed:Array Bool}
  (e:fuel=0\/Region.ready .any ops listed=[]->∃c,cX P mn J S c rs ws (G (b.at a (aM ops []::k)) cs) w)
  (l:∀i f t,fuel=f+1->i∈Region.ready .any ops listed->∃c,cX P mn J S c rs ws (G (b.at a (aM ops (i::Region.linearise.go .any ops f t (listed.setIfInBounds i aE) [])::k)) cs) w) (t:Nat):
  ∃c,cX P mn J S c rs ws (G (b.at a (aM ops (Region.linearise.go .any ops fuel t listed [])::k)) cs) w:=by
 cases fuel with
 |zero=>exact e (aG rfl)
 |succ fuel=>
  simp only[Region.linearise.go];show∃c,cX P mn J S c rs ws (G (b.at a (aM ops (match(Region.ready .any ops listed)[t%(Region.ready .any ops listed).length]? with
   |some i=>Region.linearise.go .any ops fuel (t/(Region.ready .any ops listed).length) (listed.setIfInBounds i aE) [i]
   |none=>[].reverse)::k)) cs) w
  cases d:(Region.ready .any ops listed)[t%(Region.ready .any ops listed).length]? with
  |none=>
   have h:Region.ready .any ops listed=[]:=by
    cases j:Region.ready .any ops listed with
    |nil=>rfl
    |cons x xs=>rw[j]at d;have bU:t%(x::xs).length<(x::xs).length:=zFu _ (by simp);simp at d;simp at bU;omega
   exact e (aH h)
  |some i=>dsimp only;rw[linearise_go_acc,List.reverse_singleton,List.singleton_append];exact l i fuel _ rfl (zCq d)
def dI {b:zC}{a:Act}{k:zI}{cs:zL}{ops:zQ}{i:Nat}{rest:List Nat}{o:Oper}(v:zY)(f:ops[i]? =aA o)(c:Region.wanted o (yielded ops a.tmps)=aE)(m:b.kind≠.early)
  (d:∀w₁,cQ rs ws w w₁->J w₁->(aCF a.eval o).run P w₁= .ok (.value v) w₁) (n:∀w₁,cQ rs ws w w₁->J w₁->∀e∈(aCF a.eval o).events P w₁ #[],VU rs ws e)
  (l:∃t,cX P mn J S t rs ws (G (b.at (a.put o.dst v) (aM ops rest::k)) cs) w):∃t,cX P mn J S t rs ws (G (b.at a (aM ops (i::rest)::k)) cs) w:=
 cX.step rfl λw₁ r j=>⟨_,w₁,_,stepG_value f c m (d w₁ r j),Does.refl ws w₁,λe h=>by rw[dZ];exact n w₁ r j e (mem_listed h),by rw[dZ];exact let⟨t,x⟩:=l;⟨t,x.rely r⟩⟩
def JG {b:zC}{a:Act}{k:zI}{cs:zL}{ops:zQ}{i:Nat}{rest:List Nat}{o:Oper}{f:zN}{args:zA}(j:ops[i]? =aA o)(c:Region.wanted o (yielded ops a.tmps)=aE)(m:b.kind≠.early)
  (d:∀w₁,(aCF a.eval o).run P w₁= .ok (.enter f args) w₁) (n:∀w₁,(aCF a.eval o).events P w₁ #[]= #[])
  (l:∃t,cX P mn J S t rs ws (G (Frame.enter P f args .normal) (b.at a (aM ops (i::rest)::k)::cs)) w):∃t,cX P mn J S t rs ws (G (b.at a (aM ops (i::rest)::k)) cs) w:=
 cX.step rfl λw₁ r _=>⟨_,w₁,_,stepG_enter j c m (d w₁),Does.refl ws w₁,λe h=>by have:=mem_listed h;rw[n]at this;simp at this,by rw[dZ];exact let⟨t,x⟩:=l;⟨t,x.rely r⟩⟩
def bW {b:Nat}(h:rs b\/ws b){w₁:zW}(r:cQ rs ws w w₁)(i:Nat):w₁.cell? ⟨b,i,aB⟩=w.cell? ⟨b,i,aB⟩:=by simp only[World.cell?];rw[r.dF b h]
def MX {b:zC}{a:Act}{k:zI}{cs:zL}{ops:zQ}{i:Nat}{rest:List Nat}{o:Oper}(v:zW->zY)(W:zW->zW)(f:ops[i]? =aA o)(d:Region.wanted o (yielded ops a.tmps)=aE)(l:b.kind≠.early)
  (h:∀w₁,cQ rs ws w w₁->J w₁->(aCF a.eval o).run P w₁= .ok (.value (v w₁)) (W w₁)/\Does ws w₁ (W w₁)/\(∀e∈(aCF a.eval o).events P w₁ #[],VU rs (grown ws w₁ (W w₁)) e)/\
   ∃t,cX P mn J S t rs (grown ws w₁ (W w₁)) (G (b.at (a.put o.dst (v w₁)) (aM ops rest::k)) cs) (W w₁)):∃t,cX P mn J S t rs ws (G (b.at a (aM ops (i::rest)::k)) cs) w:=
 cX.step rfl λw₁ r j=>let⟨q,p,n,m⟩:=h w₁ r j;⟨_,W w₁,_,stepG_value f d l q,p,λe c=>n e (mem_listed c),m⟩
def JF {b:zC}{a:Act}{k:zI}{cs:zL}{ops:zQ}{i:Nat}{rest:List Nat}{o:Oper}(W:zW->zW)(f:ops[i]? =aA o)(d:Region.wanted o (yielded ops a.tmps)=aE)(l:b.kind≠.early)
  (h:∀w₁,cQ rs ws w w₁->J w₁->(aCF a.eval o).run P w₁= .ok .skip (W w₁)/\Does ws w₁ (W w₁)/\(∀e∈(aCF a.eval o).events P w₁ #[],VU rs (grown ws w₁ (W w₁)) e)/\
   ∃t,cX P mn J S t rs (grown ws w₁ (W w₁)) (G (b.at (a.put o.dst undef) (aM ops rest::k)) cs) (W w₁)):∃t,cX P mn J S t rs ws (G (b.at a (aM ops (i::rest)::k)) cs) w:=
 cX.step rfl λw₁ r j=>let⟨q,p,n,m⟩:=h w₁ r j;⟨_,W w₁,_,stepG_none f d l q,p,λe c=>n e (mem_listed c),m⟩
def UK (ws:zP)(w:zW){a:Addr}(v:zY)(h:ws a.block):Does ws w (w.setCell a v):=
 ⟨λb _ c=>Go.RowKit.Below.heap_setCell w a v b λe=>c (e▸h),by simp[World.setCell],by simp[World.setCell],by simp[World.setCell],by simp[World.setCell]⟩
def rN (ws:zP)(w:zW)(o:Obj):Does ws w (w.alloc o):=
 ⟨λb h _=>by
  show(w.heap.push o)[b]? =_
  rw[zBh,zAh (by omega)],by
  show w.heap.size<=(w.heap.push o).size
  rw[zBb]
  omega,rfl,rfl,rfl⟩
def jP {w:zW}{b:Nat}{c:zA}{t:zD}{fr:Nat×Nat}(h:w.heap[b]? =aA (aI c t fr))(i:Nat)(v:zY):(w.setCell ⟨b,i,aB⟩ v).heap[b]? =aA (aI (c.setIfInBounds i v) t fr):=by have bU:=(zAb.1 h).1;simp only[World.setCell];rw[zDu,zAk rfl,h];rfl
def dC {w:zW}{b:Nat}{c:zA}{t:zD}{fr:Nat×Nat}(h:w.heap[b]? =aA (aI c t fr))(i:Nat):w.cell? ⟨b,i,aB⟩=c[i]? :=by simp[World.cell?,h]
def fZ {w:zW}{b:Nat}{c:zA}{t:zD}(h:w.heap[b]? =aA (aI c t (0,0)))(i:Nat):w.frozen? ⟨b,i,aB⟩=aF:=by simp[World.frozen?,h]
def gG (w:zW)(o:Obj):(w.alloc o).heap.size=w.heap.size+1:=by
 show(w.heap.push o).size=_
 rw[zBb]
def alloc_old (w:zW)(o:Obj){b:Nat}(h:b<w.heap.size):(w.alloc o).heap[b]? =w.heap[b]? :=by
 show(w.heap.push o)[b]? =_
 rw[zBh,zAh (by omega)]
def uY (w:zW)(o:Obj):(w.alloc o).heap[w.heap.size]? =aA o:=by
 show(w.heap.push o)[w.heap.size]? =_
 rw[zBh,zAk rfl]
def bP (w:zW){a:Addr}(v:zY){b:Nat}(h:b≠a.block):(w.setCell a v).heap[b]? =w.heap[b]? :=Go.RowKit.Below.heap_setCell w a v b h
def fA (w:zW)(a:Addr)(v:zY):(w.setCell a v).heap.size=w.heap.size:=by simp[World.setCell]
def qH (ws:zP)(w:zW)(a:Addr)(v:zY):grown ws w (w.setCell a v)=ws:=by funext b;apply propext;unfold grown;rw[fA];exact⟨λx=>x.elim (λz=>z) λy=>by omega,aG⟩
def rJ (ws:zP)(w:zW)(a a':Addr)(v v':zY):grown ws w ((w.setCell a v).setCell a' v')=ws:=by funext b;apply propext;unfold grown;rw[fA,fA];exact⟨λx=>x.elim (λz=>z) λy=>by omega,aG⟩
end
end Go.Ren
namespace Go.Ga
open Go.Conc Go.Ren Go.Proofs Go.RowKit Go.Conc.Lib
noncomputable def pS:zQ:=match Tryz.f182.body with|some (.seq _ (.region _ ops _))=>ops|_=> #[]
structure PZ (rs:zP)(w:zW)(b1 b2 b3 b4:Nat)(Cr:Nat)(at':Int)(fv Xu Xt:zY):Prop where
 r1:rs b1
 r2:rs b2
 r3:rs b3
 r4:rs b4
 c1:w.cell? ⟨b1,0,aB⟩=aA (.chan (aA Cr))
 c2:w.cell? ⟨b2,0,aB⟩=aA (.int aD at')
 c3:w.cell? ⟨b3,0,aB⟩=aA fv
 c4:w.cell? ⟨b4,0,aB⟩=aA Xu
 c5:w.cell? ⟨b4,1,aB⟩=aA Xt
noncomputable abbrev QC (c0:zY) (b1 b2 b3 b4:Nat) (ds:List Deferred) (k:zI) (cs:zL) (a5 d c b a9 a:zY) (rest:List Nat):zH:=
 G (Frame.at (baseD 182) (Act.mk #[c0,Value.pointer (aA ⟨b1,0,aB⟩),Value.pointer (aA ⟨b2,0,aB⟩),Value.pointer (aA ⟨b3,0,aB⟩),Value.pointer (aA ⟨b4,0,aB⟩),a5,d,c,b,a9,a] ds) (Item.inRegion pS rest::k)) cs
section
variable {J:zW->Prop}{St:(zP)->(zP)->zU}{rs ws:zP}{w:zW}{ds:List Deferred}{k:zI}{cs:zL}{rest:List Nat}{c0 x5 x6 x7 x8 x9 Hr:zY}{b1 b2 b3 b4 Cr:Nat}{at':Int}{fv p0 p1:zY}
def w0 (h:PZ rs w b1 b2 b3 b4 Cr at' fv p0 p1)(f:∃t,cX Tryz.prog aF J St t rs ws (QC c0 b1 b2 b3 b4 ds k cs (.chan (aA Cr)) x6 x7 x8 x9 Hr rest) w):∃t,cX Tryz.prog aF J St t rs ws (QC c0 b1 b2 b3 b4 ds k cs x5 x6 x7 x8 x9 Hr (0::rest)) w:=by
 have d:pS[0]? =aA {dst:=aA 5,op:= .load 231 (.tmp 1),type:=231,pos:= "gather.go:27",after:= #[],guard:=aB}:=rfl;refine dI _ d rfl (by simp[baseD]) (λa r _=> ?_) (λa r _ e c=> ?_) f
 .have b:=(bW (aG h.r1) r 0).trans h.c1;go_simp
 .have b:=(bW (aG h.r1) r 0).trans h.c1;simp[go_sem,b]at c;subst c;exact aG ⟨_,_,_,rfl,aH ⟨rfl,h.r1⟩⟩
def w1 (h:PZ rs w b1 b2 b3 b4 Cr at' fv p0 p1)(f:∃t,cX Tryz.prog aF J St t rs ws (QC c0 b1 b2 b3 b4 ds k cs x5 (.int aD at') x7 x8 x9 Hr rest) w):∃t,cX Tryz.prog aF J St t rs ws (QC c0 b1 b2 b3 b4 ds k cs x5 x6 x7 x8 x9 Hr (1::rest)) w:=by
 have d:pS[1]? =aA {dst:=aA 6,op:= .load 3 (.tmp 2),type:=3,pos:= "gather.go:27",after:= #[],guard:=aB}:=rfl;refine dI _ d rfl (by simp[baseD]) (λa r _=> ?_) (λa r _ e c=> ?_) f
 .have b:=(bW (aG h.r2) r 0).trans h.c2;go_simp
 .have b:=(bW (aG h.r2) r 0).trans h.c2;simp[go_sem,b]at c;subst c;exact aG ⟨_,_,_,rfl,aH ⟨rfl,h.r2⟩⟩
def w2 (h:PZ rs w b1 b2 b3 b4 Cr at' fv p0 p1)(f:∃t,cX Tryz.prog aF J St t rs ws (QC c0 b1 b2 b3 b4 ds k cs x5 x6 fv x8 x9 Hr rest) w):∃t,cX Tryz.prog aF J St t rs ws (QC c0 b1 b2 b3 b4 ds k cs x5 x6 x7 x8 x9 Hr (2::rest)) w:=by
 have d:pS[2]? =aA {dst:=aA 7,op:= .load 224 (.tmp 3),type:=224,pos:= "gather.go:27",after:= #[],guard:=aB}:=rfl;refine dI _ d rfl (by simp[baseD]) (λa r _=> ?_) (λa r _ e c=> ?_) f
 .have b:=(bW (aG h.r3) r 0).trans h.c3;go_simp
 .have b:=(bW (aG h.r3) r 0).trans h.c3;simp[go_sem,b]at c;subst c;exact aG ⟨_,_,_,rfl,aH ⟨rfl,h.r3⟩⟩
def w3 (h:PZ rs w b1 b2 b3 b4 Cr at' fv p0 p1)(g:∃t,cX Tryz.prog aF J St t rs ws (QC c0 b1 b2 b3 b4 ds k cs x5 x6 x7 (.agg #[p0,p1]) x9 Hr rest) w):∃t,cX Tryz.prog aF J St t rs ws (QC c0 b1 b2 b3 b4 ds k cs x5 x6 x7 x8 x9 Hr (3::rest)) w:=by
 have f:pS[3]? =aA {dst:=aA 8,op:= .load 209 (.tmp 4),type:=209,pos:= "gather.go:27",after:= #[],guard:=aB}:=rfl;refine dI _ f rfl (by simp[baseD]) (λa r _=> ?_) (λa r _ e d=> ?_) g
 .have c:=(bW (aG h.r4) r 0).trans h.c4;have b:=(bW (aG h.r4) r 1).trans h.c5;go_simp
 .have c:=(bW (aG h.r4) r 0).trans h.c4;have b:=(bW (aG h.r4) r 1).trans h.c5;simp[go_sem,c,b]at d;obtain rfl|rfl:=d
  .exact aG ⟨_,_,_,rfl,aH ⟨rfl,h.r4⟩⟩
  .exact aG ⟨_,_,_,rfl,aH ⟨rfl,h.r4⟩⟩
def w4 {f:zN}{fn:Func}{first cap:zA}(b:Tryz.prog.funcs[f]? =aA fn)(h:¬fn.name= "runtime.NumGoroutine")(c:¬fn.body=aB)
  (e:∃t,cX Tryz.prog aF J St t rs ws (G (Frame.enter Tryz.prog f (first.push x8++cap) .normal) ((QC c0 b1 b2 b3 b4 ds k cs x5 x6 (.func (.func f) first cap) x8 x9 Hr (4::rest)).frame::cs)) w):
  ∃t,cX Tryz.prog aF J St t rs ws (QC c0 b1 b2 b3 b4 ds k cs x5 x6 (.func (.func f) first cap) x8 x9 Hr (4::rest)) w:=by
 have d:pS[4]? =aA {dst:=aA 9,op:= .call {callee:= .value (.tmp 7),args:= #[.tmp 8],argTypes:= #[209]},type:=9,pos:= "gather.go:27",after:= #[{on:=2,ground:= .data},{on:=3,ground:= .data}],guard:=aB}:=rfl
 refine JG (f:=f) (args:=first.push x8++cap) d rfl (by simp[baseD]) (λa=> ?_) (λa=> ?_) e
 .simp[aCF,resolve,Deferred.ofValue,invoke,callFunc,b,h,c,go_sem]
 .simp[aCF,resolve,Deferred.ofValue,invoke,callFunc,b,h,c,go_sem]
def w5 {s:ByteArray}(b:∃t,cX Tryz.prog aF J St t rs ws (QC c0 b1 b2 b3 b4 ds k cs x5 (.int aD at') x7 x8 (.string s) (.agg #[.int aD at',.string s]) rest) w):∃t,cX Tryz.prog aF J St t rs ws (QC c0 b1 b2 b3 b4 ds k cs x5 (.int aD at') x7 x8 (.string s) Hr (5::rest)) w:=by
 have h:pS[5]? =aA {dst:=aA 10,op:= .build 242 #[(0,.tmp 6),(1,.tmp 9)],type:=242,pos:= "gather.go:27",after:= #[{on:=1,ground:= .data},{on:=4,ground:= .data}],guard:=aB}:=rfl;refine dI _ h rfl (by simp[baseD]) (λa r _=> ?_) (λa r _ e c=> ?_) b
 .have e:(Instr.build 242 #[(0,.int aD at'),(1,.string s)]).run Tryz.prog a= .ok (.agg #[.int aD at',.string s]) a:=run_build a 242 _ _ (by kernel_rfl);simp[go_sem,e]
 .have d:(Instr.build 242 #[(0,.int aD at'),(1,.string s)]).events Tryz.prog a #[]= #[]:=by kernel_rfl
  simp[go_sem,d]at c
def w6 {x:zY}:stepG Tryz.prog aF (QC c0 b1 b2 b3 b4 ds k cs (.chan (aA Cr)) x6 x7 x8 x9 x (6::rest)) w= .comm (QC c0 b1 b2 b3 b4 ds k cs (.chan (aA Cr)) x6 x7 x8 x9 x (6::rest)) #[scase Cr x (.tuple #[])] aE .send w #[]:=by
 have h:pS[6]? =aA {dst:=aB,op:= .send (.tmp 5) (.tmp 10),type:=0,pos:= "gather.go:27",after:= #[{on:=0,ground:= .data},{on:=5,ground:= .data},{on:=4,ground:= .chain}],guard:=aB}:=rfl;have e:=stepG_comm (P:=Tryz.prog) (main:=aF) (b:=baseD 182) (a:=⟨#[c0,Value.pointer (aA ⟨b1,0,aB⟩),Value.pointer (aA ⟨b2,0,aB⟩),Value.pointer (aA ⟨b3,0,aB⟩),Value.pointer (aA ⟨b4,0,aB⟩),.chan (aA Cr),x6,x7,x8,x9,x],ds⟩) (k:=k) (cs:=cs) (rest:=rest) (w:=w) (cases:= #[scase Cr x (.tuple #[])]) (blocking:=aE) (shape:= .send) (w':=w) h rfl (by simp[baseD]) (by simp[aCF,scase,go_sem]);rw[e];have d:listed Tryz.prog (baseD 182).fn ⟨#[c0,Value.pointer (aA ⟨b1,0,aB⟩),Value.pointer (aA ⟨b2,0,aB⟩),Value.pointer (aA ⟨b3,0,aB⟩),Value.pointer (aA ⟨b4,0,aB⟩),.chan (aA Cr),x6,x7,x8,x9,x],ds⟩ {dst:=aB,op:= .send (.tmp 5) (.tmp 10),type:=0,pos:= "gather.go:27",after:= #[{on:=0,ground:= .data},{on:=5,ground:= .data},{on:=4,ground:= .chain}],guard:=aB} w= #[]:=by
  unfold listed;have:(aCF (Act.eval ⟨#[c0,Value.pointer (aA ⟨b1,0,aB⟩),Value.pointer (aA ⟨b2,0,aB⟩),Value.pointer (aA ⟨b3,0,aB⟩),Value.pointer (aA ⟨b4,0,aB⟩),.chan (aA Cr),x6,x7,x8,x9,x],ds⟩) {dst:=aB,op:= .send (.tmp 5) (.tmp 10),type:=0,pos:= "gather.go:27",after:= #[{on:=0,ground:= .data},{on:=5,ground:= .data},{on:=4,ground:= .chain}],guard:=aB}).events Tryz.prog w #[]= #[]:=by simp[aCF,go_sem]
  rw[this,seen_none]
 rw[d]
end
end Go.Ga
