import Derived.Maps.AppendAt
import Derived.Laws.CopyRow
import Derived.Test.YtghpcgagijhlaaaGreatDoorG08
set_option linter.all false
set_option maxRecDepth 100000
set_option maxHeartbeats 16000000
open Option renaming some->aA,none->aB
open Bool renaming true->aF,false->aG
open Or renaming inl->aH,inr->aI
open Go.Ending renaming returned->aM
open Go.Obj renaming cells->aJ
open Go.IntKind renaming i64->aD,u32->aP,u8->aQ
open Go.Value renaming slice->aK,string->aL,pointer->aO,int->aC
open Array renaming replicate_succ->aNm,replicate_zero->aNn,mem_toList_iff->Nz
open Go renaming undef->ij
open Go.RowKit.Below renaming block->Mr,heap_setCell->Eg
open Nat renaming lt_of_lt_of_le->Mq,le_add_right->aNp,add_mul->Ny,min->aNr
open Go.Proofs.Tryz
open List renaming length->zAH,toArray->zAL
open Array renaming setIfInBounds->zAI,toList->zAM
open Go.World renaming setCell->zAJ,alloc->zAK
section
variable {P:Prop}
def A3(h:P:=by go_enter (Qz.fn func231),ntmps231;go_wp2_with fail;refine H.out.mono ?_;rintro e w2 ⟨rfl,a⟩;have B:=hid a;go_wp2;go_ret;exact⟨rfl,B.out⟩):=h
def A6(h:P:=by simp[Act.eval,Act.put]):=h
def A8(h:P:=by first|trivial|rfl):=h
def J4(h:P:=by have:=K.out;exact bm):=h
def L9(h:P:=by simp only[At,Bf,CH];exact bm):=h
def T7(h:P:=by go_wp2_with fail;refine(K.out A8 _ (a.out _ _ H.out)).mono ?_;rintro e l ⟨b,rfl,C⟩;go_wp2;exact C):=h
def T8(h:P:=by go_wp2;{rename_i h;subst h;go_ret;exact⟨rfl,k.out,q.out⟩};{go_ret;exact⟨rfl,k.out,q.out⟩}):=h
def Y6(h:P:=by unfold dT;exact ji):=h
def z7(h:P:=by unfold Oper.wp execOp;simp only[e,resolve,invoke,builtin,Sem.run_bind,Sem.run_pure,Result.andThen_ok,Lu,List.map_cons,List.map_nil,hs,c,d];exact h):=h
end
namespace Go.Proofs.Zq
open Go Go.RowKit Sha Go.Ga Go.Ren
abbrev mE:=Nat×Option Nat×Option Nat
def dT (x:Nat)(c:Option Nat):Nat:=if c=aA x then 1 else 0
def refs:List mE->Nat->Nat
 |[],_=>0|k::L,x=>dT x k.2.1+dT x k.2.2+refs L x
structure Inv (t:Nat)(w:zW)(L:List mE)(e:Nat->Nat):Prop where
 nd:(L.map (·.1)).Nodup
 cell:∀k∈L,∃i v g,aW w k.1 k.2.1 k.2.2 i v g ((refs L k.1+e k.1:Nat):Int)/\eW w k.1
 ZI:∀k∈L,∀c,k.2.1=aA c\/k.2.2=aA c->c<k.1/\c∈L.map (·.1)
 out:∀x,x∉L.map (·.1)->e x=0
 pQ:∀k∈L,refs L k.1+e k.1<=4611686018427387904
def xS {L:List mE}{k:mE}(h:k∈L)(x:Nat):refs L x=dT x k.2.1+dT x k.2.2+refs (L.erase k) x:=by induction L with|nil=>cases h|cons a L i=>by_cases e:a=k;{subst e;rw[List.erase_cons_head];rfl};.rw[List.erase_cons_tail ji];have b:k∈L:=by{exact ji};have:=i b;simp only[refs];exact bm
theorem PL {L:List mE}{x:Nat}(h:refs L x=0):∀k∈L,k.2.1≠aA x/\k.2.2≠aA x:=by intro k a;have:=xS a x;have c:dT x k.2.1=0:=by{omega};have b:dT x k.2.2=0:=by{omega};unfold dT at c b;exact ji
def PM {L:List mE}{x:Nat}(h:∀k∈L,k.2.1≠aA x/\k.2.2≠aA x):refs L x=0:=by induction L with|nil=>rfl|cons a L i=>have b:=h a EJ;simp only[refs,dT,AF b.1,AF b.2,i λk c=>h k (Ig _ c)]
def As {k:mE}:∀{L:List mE},(L.map (·.1)).Nodup->k∈L->∀x∈L.erase k,x.1≠k.1
 |[],_,hk,_,_=>by cases hk|a::L,b,hk,x,h=>by let⟨f,d⟩:=Lr.1 b;by_cases e:a=k;{grind};.rw[List.erase_cons_tail ji]at h;have c:k∈L:=by{exact ji};obtain rfl|h:=Bb.1 h;{grind};{exact As d c x h}
def more (e:Nat->Nat)(p:Option Nat)(x:Nat):Nat:=e x+dT x p
def lB (e:Nat->Nat):more e aB=e:=by funext x;simp[more,dT]
section
variable {t:Nat}{w w':zW}{L:List mE}{e:Nat->Nat}
theorem Inv.same (h:Inv t w L e){a:Nat->Nat}(j:∀k∈L,∀i v g,aW w k.1 k.2.1 k.2.2 i v g ((refs L k.1+e k.1:Nat):Int)->∃c,aW w' k.1 k.2.1 k.2.2 i v c ((refs L k.1+a k.1:Nat):Int))(d:∀k∈L,eW w k.1->eW w' k.1)(b:∀x,x∉L.map (·.1)->a x=0)(hl:∀k∈L,refs L k.1+a k.1<=4611686018427387904):Inv t w' L a:= ⟨h.nd,λk f=>by grind[cell],h.ZI,b,hl⟩
def Inv.drop (h:Inv t w L e){k:mE}(hk:k∈L)(r:refs L k.1=0)(q:e k.1=0):Inv t w (L.erase k) (more (more e k.2.2) k.2.1):=by have a:∀x∈L.erase k,x∈L:=by{grind};have j:∀x,x∈L.map (·.1)->x≠k.1->x∈(L.erase k).map (·.1):=by{grind};have f:∀x:Nat,refs L x+e x=refs (L.erase k) x+more (more e k.2.2) k.2.1 x:=λx=>by{have m:=xS hk x;unfold more;omega};refine⟨h.nd.sublist (List.Sublist.map _ List.erase_sublist),λx d=> ?_,λx d c n=> ?_,λx d=> ?_,λx d=>by rw[<-f];exact h.pQ x (a x d)⟩;{obtain⟨i,v,g,l,o⟩:=h.cell x (a x d);refine⟨i,v,g,?_,o⟩;exact ji};{have l:=h.ZI x (a x d) c n;refine⟨l.1,j c l.2 λe=> ?_⟩;grind[PL]};.by_cases b:x∈L.map (·.1);{exact ji};.unfold more;rw[h.out x b];have m:dT x k.2.2=0:=AF λe=>b (h.ZI k hk x (aI e)).2;have p:dT x k.2.1=0:=AF λe=>b (h.ZI k hk x (aH e)).2;rw[m,p]
def Inv.push (h:Inv t w L e){b:Nat}{z o:Option Nat}{i v g:zB}(D:∀k∈L,k.1<b)(hk:∀k∈L,∀i v g hs,aW w k.1 k.2.1 k.2.2 i v g hs->aW w' k.1 k.2.1 k.2.2 i v g hs)(s:∀k∈L,eW w k.1->eW w' k.1)(C:aW w' b z o i v g 0)(m:eW w' b)(r:∀c,z=aA c\/o=aA c->c∈L.map (·.1)){l:Nat->Nat}(p:∀x,e x=l x+dT x z+dT x o):Inv t w' ((b,z,o)::L) l:=by have f:b∉L.map (·.1):=by{grind};have hlt:∀x,x∈L.map (·.1)->x<b:=by{grind};have u:refs ((b,z,o)::L) b+l b=0:=by{have A:=PM λk hk=>⟨λe=>f (h.ZI k hk b (aH e)).2,λe=>f (h.ZI k hk b (aI e)).2⟩;have q:dT b z=0:=AF ji;have E:=h.out b f;have y:=p b;simp only[refs];omega};have j:∀x:Nat,refs ((b,z,o)::L) x+l x=refs L x+e x:=λx=>by{have y:=p x;simp only[refs];omega};refine⟨Lr.2 ⟨f,h.nd⟩,λk d=> ?_,λk d c n=> ?_,λx B=> ?_,λk d=> ?_⟩;{obtain rfl|a:=Bb.1 d;{refine⟨i,v,g,?_,m⟩;exact ji};.obtain⟨i,v,g,A,q⟩:=h.cell k a;refine⟨i,v,g,?_,s k a q⟩;exact ji};{obtain rfl|a:=Bb.1 d;{exact ji};.have:=h.ZI k a c n;exact ji};{grind[out]};.obtain rfl|a:=Bb.1 d;{exact ji};.rw[j];exact h.pQ k a
end
section
variable {w w' W W1:zW}{t:Nat}{x0 x1 x2 x3 x4:zY}{L:List mE}{e:Nat->Nat}{n:Int}
def Pos (L:List mE)(f:Nat->Nat):Prop:=∀k∈L,0<refs L k.1+f k.1
def EP (t:Nat)(n:Int)(p:Option Nat)(W w':zW)(L:List mE)(e:Nat->Nat)(x0 x1 x2 x3 x4:zY):Prop:=Hl t W w'/\vH t (λx=>x∈L.map (·.1)) W w'/\∃a c,Inv t w' a c/\cS w' t x0 x1 x2 x3 x4 (zAH a:Nat)/\(∀x,e x<=c x)/\(0<n->c=e)/\a.Sublist L/\(0<n->Pos L (more e p)->Pos a c)/\(0<n->(∀b,p=aA b->0<e b)->a=L)
def RQ (t:Nat)(n:Int)(p:Option Nat):Prop:= ∀W L e x0 x1 x2 x3 x4,Inv t W L (more e p)->cS W t x0 x1 x2 x3 x4 (zAH L:Nat)->Fg t n W->zAH L<=4611686018427387904->(Calls zq 219 #[aO t,ptr p] W λr w'=>r=aM (.tuple #[])/\EP t n p W w' L e x0 x1 x2 x3 x4)/\ ∀u,CallsD zq 219 #[aO t,ptr p] u W λr a w'=>a=u/\(r=aM (.tuple #[])/\EP t n p W w' L e x0 x1 x2 x3 x4)
def EP.back {p q:Option Nat}{w1:zW}{c:List mE}{a:Nat->Nat}(d:Hl t W w1)(hF:vH t (λx=>x∈L.map (·.1)) W w1)(hl:c.Sublist L)(s:∀x,e x<=a x)(r:0<n->a=e)(o:0<n->Pos L (more e p)->Pos c (more a q))(u:¬∀b,p=aA b->0<e b)(h:EP t n q w1 w' c a x0 x1 x2 x3 x4):EP t n p W w' L e x0 x1 x2 x3 x4:=by let⟨k,f,m,l,j,i,z,y,g,v,_⟩:=h;exact⟨d.trans k,hF.trans f d.size ji,m,l,j,i,ji,ji,g.trans hl,ji,ji⟩
theorem Inv.below {B:Nat}(h:Inv t w L e)(d:Below B w w')(f:w.heap.size<=B):Inv t w' L e:=h.same (λk _ i v g b=>⟨g,⟨by rw[d.block _ (Ao b.lt f)];exact b.at'⟩⟩) (λk _ a=>by have hl:=a.lt;let⟨c,h⟩:=a;exact⟨c,by grind[Mq,Mr]⟩) h.out h.pQ
def Inv.less {b:Nat}{z o:Option Nat}(h:Inv t w L (more e (aA b)))(hk:(b,z,o)∈L):Inv t (zAJ w (b,5) (aC aD (refs L b+e b:Nat))) L e:=by have l:∀x,more e (aA b) x=e x+dT x (aA b):=λx=>rfl;refine h.same (λk a i v g j=> ?_) (λk a d=> ?_) (by grind[out]) λk a=>by{have:=h.pQ k a;grind};{by_cases f:k.1=b;{obtain⟨fr,c⟩:=j.at';rw[f]at c⊢;exact⟨g,fr,by rw[dM c 5];rfl⟩};.have m:dT k.1 (aA b)=0:=AF ji;rw[l,m,Eo]at j;exact⟨g,⟨by grind[Eg,aW.at']⟩⟩};.obtain⟨cs,d⟩:=d;by_cases f:k.1=b;{rw[f]at d⊢;exact⟨_,dM d 5 _⟩};.exact⟨cs,N5⟩
def Inv.count {c:Int}(h:Inv t w L e)(f:cS w t x0 x1 x2 x3 x4 c)(m:Int):Inv t (zAJ w (t,5) (aC aD m)) L e:=h.same (λk _ i v g d=>⟨g,⟨by grind[cS.ne,aW.at',Eg]⟩⟩) (λk b a=>by let⟨i,v,g,d,_⟩:=h.cell k b;let⟨cs,a⟩:=a;exact⟨cs,by grind[cS.ne,Eg]⟩) h.out h.pQ
def cz (L:List mE)(x:Nat):refs L x<=2*zAH L:=by induction L with|nil=>exact je _|cons a L i=>have b:dT x a.2.1<=1:=Y6;have h:dT x a.2.2<=1:=Y6;simp only[refs,Bf];exact bm
def ga {b:Nat}{z o:Option Nat}{i v g:zB}{hs:Int}(h:aW w b z o i v g hs)(a:eW w b):Calls zq 222 #[ptr (aA b)] w λr w'=>r=aM (ptr (aA b))/\w'=zAJ w (b,5) (aC aD (wrap64 (hs+1))):=by have k:=h.c5;have f5:=a.f 5;go_enter (Qz.fn func222),ntmps222;go_wp2;go_ret;simp_all
def Inv.hold {b:Nat}{z o:Option Nat}{i v g:zB}{hs:Int}(h:Inv t w L e)(D:b∈L.map (·.1))(C:aW w b z o i v g hs)(hl:zAH L<=1000000000)(u:∀x,e x<=1000000000):Inv t (zAJ w (b,5) (aC aD (wrap64 (hs+1)))) L (more e (aA b)):=by obtain⟨⟨a,E,F⟩,A,rfl⟩:=Dd.1 D;dsimp only at*;let⟨i0,v0,g0,p,_⟩:=h.cell _ A;have s:=λx=>cz L x;have B:hs=((refs L a+e a:Nat):Int):=by{have f:=C.c5;rw[show w.cell? (a,5)=_ from p.c5]at f;grind};have y:wrap64 (hs+1)=((refs L a+e a+1:Nat):Int):=by{have:=s a;have:=u a;unfold wrap64;omega};rw[y];have l:∀x,dT x (aA a)<=1:=λx=>by{unfold dT;grind};refine h.same (λk c i v g m=> ?_) (λk c j=> ?_) (λx r=> ?_) λk c=> ?_;{by_cases q:k.1=a;{obtain⟨fr,d⟩:=m.at';have f:dT a (aA a)=1:=AE rfl;rw[q]at d⊢;refine⟨g,fr,?_⟩;rw[dM d 5];unfold more;rw[f];rfl};.have f:dT k.1 (aA a)=0:=AF ji;unfold more;rw[f,Eo];exact⟨g,⟨by grind[Eg,aW.at']⟩⟩};{obtain⟨cs,j⟩:=j;by_cases q:k.1=a;{rw[q]at j⊢;exact⟨_,dM j 5 _⟩};.exact⟨cs,N5⟩};{unfold more;rw[h.out x r,show dT x (aA a)=0 from AF λe=>r ji]};.have:=s k.1;have:=u k.1;have:=l k.1;unfold more;exact bm
def EA:RQ t n aB:=by
 intro W L e x0 x1 x2 x3 x4 b d hF _;rw[lB]at b;have a:=RH W aF;have c:Hl t W (zAK W (aJ #[aF] 4)).drew:=Hl.below a (je _);have H:Hid (EP t n aB W (zAK W (aJ #[aF] 4)).drew L e x0 x1 x2 x3 x4):=⟨c,.below a (je _),L,e,b.below a (je _),d.below a (je _),λ_=>je _,λ_=>rfl,.refl _,λ_ h=>by rw[lB]at h;exact h,λ_ _=>rfl⟩;have k:=(hF.hl c).2;clear b d hF a c;refine Kv ?_;simp only[Qz.ntmps219,Dq,Bf,CH,Nat.reduceAdd,Nat.reduceSub,aNm,aNn,List.push_toArray,List.append_toArray,Gs,Fo];unfold Qz.UJ lc1 lc2 pq lc3 Ru lc5 lc6 lr0 Zx lr2 lr3 lgD xu xv xr xq xw th;simp only[f219,Gu];go_upto_region 91 with(fail)
 go_region;all_goals generalize(zAK W (Obj.cells #[Value.bool aF] 4)).drew=W1 at*
 all_goals go_wp2
 all_goals((try simp only[Exit.inBlock,Exit.then]);refine Fx (Go.results_none rfl _ _ _) rfl ?_)
 all_goals exact⟨rfl,H⟩
def Oq {b:Nat}{z o:Option Nat}(hk:(b,z,o)∈L)(IH:∀q:Option Nat,(∀c,q=aA c->c<b)->RQ t n q)(S:Inv t W1 L (more e (aA b)))(hT:cS W1 t x0 x1 x2 x3 x4 (zAH L:Nat))(hF:Fg t n W1)(hl:zAH L<=4611686018427387904)(j:Hl t W W1)(Q:vH t (λx=>x∈L.map (·.1)) W W1): Ru.wp zq (bodyPost zq Qz.f219 λr w'=>r=aM (.tuple #[])/\EP t n (aA b) W w' L e x0 x1 x2 x3 x4) {tmps:= #[aO t,ptr (aA b),ij,ij,ij,ij,ij,ij,ij,ij,ij,ij,ij,ij,ij,ij,ij,ij,ij,ij,ij,ij,ij,ij,ij,ij,ij,ij,ij,ij,ij,ij,ij,ij,ij,ij,ij],defers:=[]} W1:=by let⟨i,v,g,A,hD⟩:=S.cell (b,z,o) hk;have p:=S.pQ (b,z,o) hk;have hm:more e (aA b) b=e b+1:=by{simp[more,dT]};dsimp only at A hD p;rw[hm]at A p;have y:=S.less hk;have hlen:=List.length_pos_of_mem hk;obtain⟨m,K⟩:∃m:Nat,m=refs L b+e b:=⟨_,rfl⟩;have A:aW W1 b z o i v g ((m:Int)+1):=by{have e1:((refs L b+(e b+1):Nat):Int)=(m:Int)+1:=bm;rw[<-e1];exact A};rw[<-K]at y;have k5:=A.c5;have f5:=hD.f 5;have J:wrap64 (m:Int)=m:=by{unfold wrap64;omega};have d:Hl t W1 (zAJ W1 (b,5) (aC aD m)):=Hl.hold A _;have N:b∈L.map (·.1):=Dd.2 ⟨_,hk,rfl⟩;have E:vH t (λx=>x∈L.map (·.1)) W (zAJ W1 (b,5) (aC aD m)):=Q.trans (.set b 5 _ (aI N)) j.size λ_ _ h=>h;have a:=hT.hold A (m:Int);let⟨hs2,G⟩:=d.cell _ _ _ _ _ _ _ A;have l:∀x,x≠b->more e (aA b) x=e x:=λx H=>by{have:dT x (aA b)=0:=AF λe=>H (Ay e).symm;unfold more;omega};have H1:Hid (0<m->EP t n (aA b) W (zAJ W1 (b,5) (aC aD m)) L e x0 x1 x2 x3 x4):=λh0=>⟨j.trans d,E,L,e,y,a,λ_=>je _,λ_=>rfl,.refl _,λ_ hP k Z=>by by_cases ek:k.1=b;{rw[ek];omega};.have:=hP k Z;rw[l _ ek]at this;exact this,λ_ _=>rfl⟩;let⟨u,P⟩:=Hl.count a ((zAH L:Int)-1);have s:=y.count a ((zAH L:Int)-1);have D:=(hF.hl d).hl u;let⟨hs3,F⟩:=u.cell _ _ _ _ _ _ _ G;have H2:Hid ((m:Int)<=0->Calls zq 219 #[aO t,ptr z] (zAJ (zAJ W1 (b,5) (aC aD m)) (t,5) (aC aD ((zAH L:Int)-1))) λr w4=>r=aM (.tuple #[])/\w4.cell? (b,1)=aA (ptr o)/\Calls zq 219 #[aO t,ptr o] w4 λr w5=>r=aM (.tuple #[])/\EP t n (aA b) W w5 L e x0 x1 x2 x3 x4):=λh0=>by{have Y:=Nu hk;have hd:=s.drop hk (by show refs L b=0;exact bm) (by show e b=0;exact bm);have O:cS (zAJ (zAJ W1 (b,5) (aC aD m)) (t,5) (aC aD ((zAH L:Int)-1))) t x0 x1 x2 x3 x4 (zAH (L.erase (b,z,o)):Nat):=by{rw[Y,show((zAH L-1:Nat):Int)=(zAH L:Int)-1 from bm];exact P};refine(IH z (λc hc=>(s.ZI _ hk c (aH hc)).1) _ _ (more e o) x0 x1 x2 x3 x4 hd O D bm).1.mono ?_;rintro r w4 ⟨rfl,C,hf4,L4,e4,hI4,hT4,R,eq4,l4,I,_⟩;let⟨hs4,hC4⟩:=C.cell _ _ _ _ _ _ _ F;refine⟨rfl,hC4.c1,?_⟩;have B:more (λx=>e4 x-dT x o) o=e4:=by{funext x;have:=R x;unfold more at this⊢;dsimp only;omega};refine(IH o (λc hc=>(s.ZI _ hk c (aI hc)).1) w4 L4 (λx=>e4 x-dT x o) x0 x1 x2 x3 x4 (by rw[B];exact hI4) hT4 (D.hl C) (by have:=l4.length_le;exact bm)).1.mono ?_;rintro r w5 ⟨rfl,T⟩;refine⟨rfl,EP.back (((j.trans d).trans u).trans C) ((E.trans (.set t 5 _ (aH rfl)) (j.trans d).size λ_ _ h=>h).trans hf4 ((j.trans d).trans u).size λx _ H=>(List.erase_sublist.map _).subset H) (l4.trans List.erase_sublist) (λx=> ?_) (λX=> ?_) (λX hP=> ?_) (λh=>by have:=h b rfl;exact bm) T⟩;{have:=R x;unfold more at this;omega};{rw[eq4 X];funext x;show e x+dT x o-dT x o=e x;omega};{rw[B];refine I X λx H=> ?_;have e1:=xS hk x.1;have h1:=hP x (List.mem_of_mem_erase H);rw[l x.1 (As s.nd hk x H)]at h1;unfold more;dsimp only at e1;omega}};have c5:=a.c5;have e5:=a.f5;have TR:=a.ne G;have d0:=F.c0;have V:wrap64 ((zAH L:Int)-1)=(zAH L:Int)-1:=by{unfold wrap64;omega};clear S y s hT hF D A hD G F d u a P IH p K hm j l Q E N;obtain⟨U,M⟩:∃U:Int,U=(zAH L:Int):=⟨_,rfl⟩;rw[<-M]at c5 V H2 d0;clear M hl hlen;unfold Ru;simp only[f219,Gu];go_upto_region 3 with(fail);{refine Fx (Go.results_none rfl _ _ _) rfl ?_;(try rw[J]);exact⟨rfl,H1 bm⟩};·(try rw[J]);have h0:(m:Int)<=0:=bm;have H4:=hid (H2 h0);clear H2 H1;generalize(zAJ W1 (b,5) (aC aD m))=W2 at*;go_upto_region 4 with(fail);generalize(zAJ W2 (t,5) (Value.int IntKind.i64 (U-1)))=W3 at*;go_wp2_with fail;refine H4.mono ?_;rintro r w4 ⟨rfl,d1,h4⟩;have H5:=hid h4;clear h4 H4;go_wp2_with fail;refine H5.mono ?_;rintro r w5 ⟨rfl,T⟩;have H6:=hid T;clear T H5;go_wp2;go_end0;exact⟨rfl,H6⟩
def Oo {b:Nat}(I:∀q:Option Nat,(∀c,q=aA c->c<b)->RQ t n q):RQ t n (aA b):=by
 intro W L e x0 x1 x2 x3 x4 j m hF hl;have g:=RH W aF;have i:Hl t W (W.alloc (aJ #[aF] 4)).drew:=Hl.below g (je _);have d:=j.below g (je _);have f:=m.below g (je _);have s:=(hF.hl i).2;obtain⟨⟨l,z,o⟩,hk,rfl⟩:∃k∈L,k.1=b:=by
   have u:b∈L.map (·.1):=Dv λx=>by have:=j.out b x;simp[more,dT]at this
   exact ji
 have a:=Oq hk I d f (hF.hl i) hl i (.below g (je _));dsimp only at a d I⊢;have H:Hid (n<=0->EP t n (aA l) W (W.alloc (aJ #[aF] 4)).drew L e x0 x1 x2 x3 x4):=λv=>⟨i,.below g (je _),L,_,d,f,λx=>aNp _ _,λh=>bm,.refl _,λh=>bm,λh=>bm⟩;have p:Hid (Ru.wp zq (bodyPost zq Qz.f219 λr w'=>r=aM (.tuple #[])/\EP t n (aA l) W w' L e x0 x1 x2 x3 x4) {tmps:= #[aO t,ptr (aA l),ij,ij,ij,ij,ij,ij,ij,ij,ij,ij,ij,ij,ij,ij,ij,ij,ij,ij,ij,ij,ij,ij,ij,ij,ij,ij,ij,ij,ij,ij,ij,ij,ij,ij,ij],defers:=[]} (W.alloc (aJ #[aF] 4)).drew):=a;clear j m hF g i d f a I;refine Kv ?_;simp only[Qz.ntmps219,Dq,Bf,CH,Nat.reduceAdd,Nat.reduceSub,aNm,aNn,List.push_toArray,List.append_toArray,Gs,Fo];unfold Qz.UJ lc1 lc2 pq lc3 lc5 lc6 lr0 Zx lr2 lr3 lgD xu xv xr xq xw th;go_upto_region 91 with(fail)
 go_region;all_goals generalize(W.alloc (Obj.cells #[Value.bool aF] 4)).drew=W1 at*
 all_goals go_wp2
 all_goals first
  |exact p.out
  |((try simp only[Exit.inBlock,Exit.then]);refine Fx (Go.results_none rfl _ _ _) rfl ?_;exact⟨rfl,H.out bm⟩)
def YY:∀(m:Nat)(p:Option Nat),(∀c,p=aA c->c<m)->RQ t n p
 |0,aB,_=>EA|0,aA b,h=>by grind|m+1,aB,_=>EA|m+1,aA b,h=>Oo λq a=>YY m q (by grind)
def ZH:∀{L:List mE},L≠[]->∃k∈L,∀x∈L,x.1<=k.1
 |[],h=>absurd rfl h|[a],_=>by simp_all|a::b::L,_=>by let⟨k,d,c⟩:=ZH (L:=b::L) j0;exact ji
end
def Ix {w w'}(h:Below w.drew.heap.size w.drew w'):zb w w':=⟨h.os,h.tape,h.output,h.size,h.block⟩
abbrev aw (u:bE):zY:= .agg #[u.idx,u.val,.bool u.gone]
structure GG (w w':zW)(b:Nat)(z o:Option Nat)(i v:zB):Prop where
 lo:w.heap.size<=b
 cell:∃hs,aW w' b z o i v [] hs
 thaw:eW w' b
section
variable {w w1 w':zW}{t b:Nat}{x0 x1 x2 x3 x4:zY}{c:Int}{z o:Option Nat}{i v g:zB}{hs:Int}
def QC (w:zW)(z o:Option Nat)(i v:zB)(h:w1.heap.size<=w.heap.size):GG w1 (zAK w (aJ (jE z o i v [] 0) 272)) w.heap.size z o i v:= ⟨h,⟨0,⟨_,Ei w _⟩⟩,⟨_,Ei w _⟩⟩
def tT (p:Option Nat)(L:List mE):Prop:=∀b,p=aA b->b∈L.map (·.1)
theorem Inv.new {L:List mE}{e j:Nat->Nat}(h:Inv t w L e)(z o:Option Nat)(i v:zB)(hz:tT z L)(l:tT o L)(n:∀x,e x=j x+dT x z+dT x o):Inv t (zAK w (aJ (jE z o i v [] 0) 272)) ((w.heap.size,z,o)::L) j:=by
 have f:zb w (zAK w (aJ (jE z o i v [] 0) 272)):=(Av _ w).alloc (je _) _;refine h.push (λk m=> ?_) (λk _ i v g hs a=>⟨by rw[f.block _ a.lt];exact a.at'⟩) (λk _ d=> ?_) (⟨_,Ei w _⟩:aW _ _ z o i v [] 0) ⟨_,Ei w _⟩ (λc a=>a.elim (hz c) (l c)) n
 .obtain⟨_,_,_,a,_⟩:=h.cell k m;exact a.lt
 .have hl:=d.lt;let⟨cs,d⟩:=d;exact⟨cs,by rw[f.block _ hl];exact d⟩
def Ot (u:bE)(h1:zAH u.idx<=1000)(h2:zAH u.val<=1000)(P:cS w t x0 x1 x2 x3 x4 c)(Z: -4611686018427387904<=c)(Y:c<=4611686018427387904):
  Calls zq 229 #[aO t,aw u] w λe w'=>∃b,e=aM (ptr (aA b))/\GG w w' b aB aB u.idx u.val/\Hl t w w'/\cS w' t x0 x1 x2 x3 x4 (c+1)/\b<w'.heap.size/\(∀L f,Inv t w L f->Inv t w' ((b,aB,aB)::L) f)/\vH t (λ_=>False) w w':=by
 let⟨d,a,y⟩:=u;dsimp only at*;have D:(⟨zAL d⟩:ByteArray).size<=1000:=h1;have C:(⟨zAL a⟩:ByteArray).size<=1000:=h2;have HT:=hid P;have hlt:=P.lt;go_enter (Qz.fn func229),ntmps229;go_upto_region 1 with(fail)
 have j:zb w (zAK w (aJ #[d,a,y] 53)):=(Av _ w).alloc (je _) _;have l:=HT.below j (je _);have E:(zAK w (aJ #[d,a,y] 53)).heap[w.heap.size]? =aA (aJ #[d,a,y] 53 (0,0)):=Ei w _;generalize(zAK w (aJ #[d,a,y] 53))=B at*;have c5:=l.c5;have e5:=l.f5;let⟨I,G⟩:=Hl.count l (c+1);have k:(zAJ B (t,5) (aC aD (c+1))).heap[w.heap.size]? =aA (aJ #[d,a,y] 53 (0,0)):=(Du _ _ _ _ (by show w.heap.size≠t;exact bm)).trans E;have R:Hid (vH t (λ_=>False) w (zAJ B (t,5) (aC aD (c+1)))):=(vH.below j (je _)).trans (.set t 5 _ (aH rfl)) j.size λ_ _ h=>h;have M:=hid ((Hl.below j (je _)).trans I);have H:=hid G;have Q:Hid (∀L f,Inv t w L f->Inv t (zAJ B (t,5) (aC aD (c+1))) L f):=λL f h=>(h.below j (je _)).count l _;go_upto_region 2 with(fail)
 generalize(zAJ B (t,5) (Value.int IntKind.i64 (c+1)))=s at*;have A:=(Ax.1 k).1;have K:Hid (∀W,zb s W->W.cell? w=aA (d:zY)/\W.cell? (w,1)=aA (a:zY)):=λW r=>⟨(bG ((r.block _ A).trans k) 0).trans rfl,(bG ((r.block _ A).trans k) 1).trans rfl⟩;let⟨q0,q1⟩:=K s (Av _ _);have S:Hid (∀W,zb s W->GG w (zAK W (aJ (jE aB aB d a [] 0) 272)) W.heap.size aB aB d a/\Hl t w (zAK W (aJ (jE aB aB d a [] 0) 272))/\cS (zAK W (aJ (jE aB aB d a [] 0) 272)) t x0 x1 x2 x3 x4 (c+1)/\W.heap.size<(zAK W (aJ (jE aB aB d a [] 0) 272)).heap.size/\(∀L f,Inv t w L f->Inv t (zAK W (aJ (jE aB aB d a [] 0) 272)) ((W.heap.size,aB,aB)::L) f)/\vH t (λ_=>False) w (zAK W (aJ (jE aB aB d a [] 0) 272))):=λW r=>by have J:zb s (zAK W (aJ (jE aB aB d a [] 0) 272)):=r.alloc r.size _;have:=r.size;exact⟨QC W _ _ _ _ bm,M.out.trans (Hl.below J (je _)),H.below J (je _),j6,λL f h=>((Q L f h).below r (je _)).new aB aB d a (λb F=>by cases F) (λb F=>by cases F) λx=>by simp[dT],R.out.trans (.below J (je _)) M.size λ_ _ h=>h⟩
 clear k M H Q R;go_region_with (first
  |(go_at_call_of 85 (Value.string {data:=zAL d});refine(RA _ _ D).mono ?_;rintro e O ⟨rfl,q⟩;
    have n:Hid (zb s O):=by first|exact Ix q|exact(aY m q m.size).out;
    let⟨X,V⟩:=K O n;clear q;dsimp only)
  |(go_at_call_of 85 (Value.string {data:=zAL a});refine(RA _ _ C).mono ?_;rintro e N ⟨rfl,p⟩;
    have m:Hid (zb s N):=by first|exact Ix p|exact(aY n p n.size).out;
    let⟨U,T⟩:=K N m;clear p;dsimp only))
 all_goals go_wp2
 all_goals go_ret
 all_goals first|exact⟨_,rfl,S _ m⟩|exact⟨_,rfl,S _ n⟩
def BQ {p:Option Nat}(l:∀b,p=aA b->(∃z o i v g hs,aW w b z o i v g hs)/\eW w b)(j:cS w t x0 x1 x2 x3 x4 c):Calls zq 222 #[ptr p] w λe w'=>e=aM (ptr p)/\Hl t w w'/\cS w' t x0 x1 x2 x3 x4 c/\w'.heap.size=w.heap.size/\(∀L f,Inv t w L f->tT p L->zAH L<=1000000000->(∀x,f x<=1000000000)->Inv t w' L (more f p))/\vH t (λx=>p=aA x) w w':=by cases p with|none=>exact(Oz w).mono λe w' ⟨h1,d⟩=>by subst d;exact⟨h1,.refl,j,rfl,λL f h _ _ _=>by rw[lB];exact h,.refl⟩|some b=>let⟨⟨z,o,i,v,g,hs,a⟩,k⟩:=l b rfl;refine(ga a k).mono λe w' ⟨h1,d⟩=> ?_;subst d;exact⟨h1,Hl.hold a _,j.hold a _,n9,λL f h n hl m=>h.hold (n b rfl) a hl m,.set b 5 _ (aI rfl)⟩
def aNz (hz:∀b,z=aA b->(∃z o i v g hs,aW w b z o i v g hs)/\eW w b)(M:∀b,o=aA b->(∃z o i v g hs,aW w b z o i v g hs)/\eW w b)(l:cS w t x0 x1 x2 x3 x4 c)(P: -4611686018427387904<=c)(O:c<=4611686018427387904):
  Calls zq 239 #[aO t,ptr z,ptr o] w λe w'=>∃b,e=aM (ptr (aA b))/\GG w w' b z o [] []/\Hl t w w'/\cS w' t x0 x1 x2 x3 x4 (c+1)/\b<w'.heap.size/\(∀L f,Inv t w L f->tT z L->tT o L->zAH L<=1000000000->(∀x,f x<=999999999)->Inv t w' ((b,z,o)::L) f)/\vH t (λx=>z=aA x\/o=aA x) w w':=by
 have stay:∀{W n:zW}{p:Option Nat},Hl t W n->(∀b,p=aA b->(∃z o i v g hs,aW W b z o i v g hs)/\eW W b)->∀b,p=aA b->(∃z o i v g hs,aW n b z o i v g hs)/\eW n b:=λ{W n p} hH h b e=>by let⟨⟨z,o,i,v,g,hs,Q⟩,J⟩:=h b e;let⟨K,s⟩:=hH.cell _ _ _ _ _ _ _ Q;exact⟨⟨_,_,_,_,_,_,s⟩,hH.thaw _ J⟩
 let⟨d,A⟩:=Hl.count l (c+1);have c5:=l.c5;have X:=l.f5;have T:Hid (Calls zq 222 #[ptr z] (zAJ w (t,5) (aC aD (c+1))) λe w'=>e=aM (ptr z)/\Hl t w w'/\cS w' t x0 x1 x2 x3 x4 (c+1)/\(∀L f,Inv t w L f->tT z L->zAH L<=1000000000->(∀x,f x<=999999999)->Inv t w' L (more f z))/\vH t (λx=>z=aA x\/o=aA x) w w'):=(BQ (stay d hz) A).mono λe w' ⟨a,k,j,_,G,S⟩=>⟨a,d.trans k,j,λL f h R hl N=>G L f (h.count l _) R hl λx=>Az (N x) bm,(vH.set t 5 _ (aH rfl)).trans S d.size λ_ _ h=>aH h⟩;have U:Hid (∀W,Hl t w W->cS W t x0 x1 x2 x3 x4 (c+1)->vH t (λx=>z=aA x\/o=aA x) w W->Calls zq 222 #[ptr o] W λe w'=>e=aM (ptr o)/\Hl t w w'/\cS w' t x0 x1 x2 x3 x4 (c+1)/\(∀L f,Inv t W L f->tT o L->zAH L<=1000000000->(∀x,f x<=1000000000)->Inv t w' L (more f o))/\vH t (λx=>z=aA x\/o=aA x) w w'):=λW a k j=>(BQ (stay a M) k).mono λe w' ⟨g1,g2,g3,_,g4,g5⟩=>⟨g1,a.trans g2,g3,g4,j.trans g5 a.size λ_ _ h=>aI h⟩;have V:Hid (∀W,Hl t w W->cS W t x0 x1 x2 x3 x4 (c+1)->(∀L f,Inv t w L f->tT z L->tT o L->zAH L<=1000000000->(∀x,f x<=999999999)->Inv t W L (more (more f z) o))->vH t (λx=>z=aA x\/o=aA x) w W->GG w (zAK W (aJ (jE z o [] [] [] 0) 272)) W.heap.size z o [] []/\Hl t w (zAK W (aJ (jE z o [] [] [] 0) 272))/\cS (zAK W (aJ (jE z o [] [] [] 0) 272)) t x0 x1 x2 x3 x4 (c+1)/\W.heap.size<(zAK W (aJ (jE z o [] [] [] 0) 272)).heap.size/\(∀L f,Inv t w L f->tT z L->tT o L->zAH L<=1000000000->(∀x,f x<=999999999)->Inv t (zAK W (aJ (jE z o [] [] [] 0) 272)) ((W.heap.size,z,o)::L) f)/\vH t (λx=>z=aA x\/o=aA x) w (zAK W (aJ (jE z o [] [] [] 0) 272))):=λW a k j G=>by have F:zb W (zAK W (aJ (jE z o [] [] [] 0) 272)):=(Av _ W).alloc (je _) _;exact⟨QC W _ _ _ _ a.size,a.trans (Hl.below F (je _)),k.below F (je _),j6,λL f h m a2 a3 a4=>(j L f h m a2 a3 a4).new z o [] [] m a2 λx=>rfl,G.trans (.below F (je _)) a.size λ_ _ h=>h⟩
 cases z<;>cases o;all_goals
  go_enter (Qz.fn func239),ntmps239
  go_wp2_with fail
  refine T.mono ?_
  rintro e w2 ⟨rfl,E,y,C,r⟩
  have I:=hid C
  go_wp2_with fail
  refine(U w2 (hid E).out (hid y).out (hid r).out).mono ?_
  rintro e w3 ⟨rfl,D,u,B,q⟩
  have H:Hid (∀L f,Inv t w L f->tT _ L->tT _ L->zAH L<=1000000000->(∀x,f x<=999999999)->Inv t w3 L (more (more f _) _)):=λL f h m a2 a3 a4=>B L _ (I L f h m a3 a4) a2 a3 λx=>by have:=a4 x;unfold more dT;split<;>omega
  go_wp2
  go_ret
  exact⟨_,rfl,V w3 (hid D).out (hid u).out H (hid q).out⟩
end
def CS (w:zW)(S:zP):Prop:=∀b,S b->∃z o i v g hs,aW w b z o i v g hs/\eW w b/\∀c,z=aA c\/o=aA c->S c
inductive In (w:zW):Option Nat->zP
 |here (b:Nat):In w (aA b) b
 |zero {b x:Nat} {z o:Option Nat} {i v g:zB} {hs:Int} (h:aW w b z o i v g hs) (h':In w z x):In w (aA b) x
 |one {b x:Nat} {z o:Option Nat} {i v g:zB} {hs:Int} (h:aW w b z o i v g hs) (h':In w o x):In w (aA b) x
section
variable {w w1 w':zW}{t b k d lo m hi:Nat}{x0 x1 x2 x3 x4:zY}{c:Int}{z o p:Option Nat}{i v g:zB}{hs:Int}{S:zP}{us:List bE}{rows rz ro:List (Nat×ByteArray)}
def CS.hl (h:CS w S)(f:Hl t w w'):CS w' S:=λb e=>by let⟨z,o,i,v,g,hs,l,q,n⟩:=h b e;let⟨a,j⟩:=f.cell _ _ _ _ _ _ _ l;grind[Hl.thaw]
def vJ (S:zP)(w w':zW):Prop:=∀b z o i v g hs,S b->aW w b z o i v g hs->∃a h,aW w' b z o i v a h
def Hl.pK (h:Hl t w w'):vJ S w w':=λb z o i v g hs _ a=>⟨g,h.cell b z o i v g hs a⟩
def In.go {x:Nat}(h:In w p x)(hk:vJ S w w')(s:CS w S):(∀b,p=aA b->S b)->In w' p x:=by have a:∀{b z o i v g hs},S b->aW w b z o i v g hs->∃g hs,aW w' b z o i v g hs/\∀c,z=aA c\/o=aA c->S c:=λ{b z o i v g hs} hb j=>by{let⟨u,A,B,y,E,r,e,_,l⟩:=s b hb;obtain⟨rfl,rfl,_⟩:=bU j e;let⟨D,q,C⟩:=hk _ _ _ _ _ _ _ hb j;grind};induction h with|here b=>exactλ_=> .here b|zero h _ n=>intro f;let⟨_,_,e,l⟩:=a (f _ rfl) h;exact .zero e ji|one h _ n=>intro f;let⟨_,_,e,l⟩:=a (f _ rfl) h;exact .one e ji
def In.back {x:Nat}(h:In w' p x)(hk:vJ S w w')(q:CS w S):(∀b,p=aA b->S b)->In w p x:=by have a:∀{b z o i v g hs},S b->aW w' b z o i v g hs->∃i v g hs,aW w b z o i v g hs/\∀c,z=aA c\/o=aA c->S c:=λ{b z o i v g hs} hb A=>by{let⟨r,u,y,s,C,n,e,_,j⟩:=q b hb;let⟨_,_,B⟩:=hk _ _ _ _ _ _ _ hb e;grind[bU]};induction h with|here b=>exactλ_=> .here b|zero h _ l=>intro f;let⟨_,_,_,_,e,j⟩:=a (f _ rfl) h;exact .zero e ji|one h _ l=>intro f;let⟨_,_,_,_,e,j⟩:=a (f _ rfl) h;exact .one e ji
def CS.add (h:CS w' S)(e:GG w w' b z o i v)(hz:∀c,z=aA c->S c)(f:∀c,o=aA c->S c):CS w' λx=>S x\/x=b:=λx a=>by obtain a|rfl:=a;{obtain⟨z,o,i,v,g,hs,q,n,l⟩:=h x a;exact ji};.obtain⟨hs,j⟩:=e.cell;grind[GG.thaw]
def CS.cells (h:CS w S)(a:∀b,p=aA b->S b):∀b,p=aA b->(∃z o i v g hs,aW w b z o i v g hs)/\eW w b:=λb e=>by let⟨z,o,i,v,g,hs,j,f,_⟩:=h b (a b e);exact ji
def cU.up (h:cU k w p us (d+1) lo hi rows)(hl:zAH us<=1):cU k w p us d lo hi rows:=by cases h with|done h a=>exact .done (by cases h with|nil=>exact .nil d|leaf h=>exact .leaf (by rw[MO k d (d+1)];exact h)|node e=>omega) a| @leaf b u _ _ _ _ h1 e h=>rw[MO k (d+1) d];exact .leaf h1 e h|node e=>exact bm
def dQ.hl (e:1<=k)(hk:k<=32)(h:dQ k w p us d)(a:Hl t w w'):dQ k w' p us d:=by grind[Hl.cell,keep]
def cU.hl (e:1<=k)(hk:k<=32)(h:cU k w p us d lo hi rows)(a:Hl t w w'):cU k w' p us d lo hi rows:=by grind[Hl.cell,keep]
def cU.ends (h:cU k w p us d lo hi rows):Calls zq 225 #[ptr p] w λe w'=>e=aM (.bool (decide (zAH us<=1)))/\w'=w:=by have a:∀{b:Nat}{z o:Option Nat}{i v g:zB}{hs:Int}{us:List bE}{r1 r2:List (Nat×ByteArray)}{n a2 a3 a4:Nat},2<=zAH us->aW w b z o i v g hs->cU k w z (bJ d 0 us) (d+1) n a2 r1->cU k w o (bJ d 1 us) (d+1) a3 a4 r2->Calls zq 225 #[ptr (aA b)] w λe w'=>e=aM (.bool (decide (zAH us<=1)))/\w'=w:=λ{b z o i v g hs us r1 r2 n a2 a3 a4} l q f j=>by{have hl:=pM us d;refine(CB q).mono λe w' h=>⟨?_,h.2⟩;rw[h.1,Dr bm];have s:=f.fR;have r:=j.fR;cases z with|some _=>rfl|none=>cases o<;>grind};cases h with|done h hl=>{cases h with|nil=>exact QW w|leaf h=>exact CB h|node l _ h f j=>exact a l h (.done f (je 0)) (.done j (je 0))}|leaf _ _ h=>exact CB h|node l _ h f j=>exact a l h f j
def Bz {a}(h:bJ d (1-a) us=[])(f:a<=1):bJ d a us=us:=by refine Mi.2 λu e=> ?_;have:=JW.1 h u e;grind[qF]
structure Live (t:Nat)(w:zW)(S:zP)(f:Nat->Nat)(L:List mE):Prop where
 VD:∀x,f x<=999999999
 inv:Inv t w L f
 mem:∀x,S x->x∈L.map (·.1)
 num:w.cell? (t,5)=aA (aC aD (L.length:Nat))
theorem Live.below {B:Nat}{f:Nat->Nat}{L:List mE}(h:Live t w S f L)(e:Below B w w')(j:w.heap.size<=B):Live t w' S f L:=by refine⟨h.VD,h.inv.below e j,h.mem,?_⟩;have a:=h.num;have hlt:t<w.heap.size:=by{unfold World.cell? at a;grind};rw[<-a];simp only[World.cell?];grind[Mr,Mq]
theorem Live.len {f:Nat->Nat}{L:List mE}(h:Live t w S f L)(a:cS w t x0 x1 x2 x3 x4 c):c=(zAH L:Nat):=by have e:=a.c5;rw[h.num]at e;exact ji
def Live.push {f:Nat->Nat}{L:List mE}(h:Live t w S f L)(e:cS w t x0 x1 x2 x3 x4 c)(n:c<=1000000000)(a:cS w' t x0 x1 x2 x3 x4 (c+1))(j:Inv t w L f->(∀x,S x->x∈L.map (·.1))->zAH L<=1000000000->(∀x,f x<=999999999)->Inv t w' ((b,z,o)::L) f):∃N,Live t w' (λx=>S x\/x=b) f (N++L):=by have hl:=h.len e;refine⟨[(b,z,o)],h.VD,j h.inv h.mem bm h.VD,λx l=> ?_,?_⟩;{grind[mem,List.mem_cons_of_mem]};.rw[a.c5,hl];rfl
structure Grow (t:Nat)(S S':zP)(w w':zW):Prop where
 hl:Hl t w w'
 cs:CS w' S'
 old:∀b,S b->S' b
 new:∀b,S' b->S b\/w.heap.size<=b
 inv:∀f L,Live t w S f L->∃N,Live t w' S' f (N++L)
 Xf:vH t S w w'
def Grow.refl (h:CS w S):Grow t S S w w:=⟨.refl,h,λ_ h=>h,by grind,λ_ _ h=>⟨[],h⟩,.refl⟩
def Grow.trans {S1 f:zP}(h:Grow t S S1 w w1)(a:Grow t S1 f w1 w'):Grow t S f w w':= ⟨h.hl.trans a.hl,a.cs,λb e=>a.old b (h.old b e),λb e=>by obtain x|x:=a.new b e;{exact h.new b x};.exact aI (Az h.hl.size x),by grind[inv],h.Xf.trans a.Xf h.hl.size λx l j=>(h.new x j).resolve_right (by omega)⟩
def Joined (k t:Nat)(S:zP)(z o:Option Nat)(rz ro:List (Nat×ByteArray))(us:List bE)(d lo:Nat)(x0 x1 x2 x3 x4:zY)(c:Int)(w:zW)(e:Ending)(w':zW):Prop:= ∃p rows a,e=aM (ptr p)/\cU k w' p us d lo w' rows/\Grow t S a w w'/\(∀b,p=aA b->a b)/\cS w' t x0 x1 x2 x3 x4 (c+(zAH rows-(zAH rz+zAH ro:Nat):Int))/\(zAH rows=zAH rz+zAH ro+if 2<=zAH us then 1 else 0)/\(∀y,y∈rz\/y∈ro->y∈rows)/\∀x,In w' p x->In w z x\/In w o x\/x∈rows.map (·.1)
def Ov (V:1<=k)(hk:k<=32)(hz:cU k w z (bJ d 0 us) (d+1) lo m rz)(n:cU k w o (bJ d 1 us) (d+1) m w ro)(Y:Sub us d)(q:CS w S)(r:∀b,z=aA b->S b)(s:∀b,o=aA b->S b)(O:cS w t x0 x1 x2 x3 x4 c)(M: -4611686018427387904<=c)(K:c<=1000000000): Calls zq 232 #[aO t,ptr z,ptr o] w (Joined k t S z o rz ro us d lo x0 x1 x2 x3 x4 c w):=by have hl:=pM us d;have Q:=hid hz.ends;have E:=hid n.ends;have R:=hz.fR;have no:=n.fR;have X:=hz.Oj;have D:=n.Oj;have HA:Hid (z=aB->zAH (bJ d 1 us)<=1->Joined k t S z o rz ro us d lo x0 x1 x2 x3 x4 c w (aM (ptr o)) w):=λe h=>by{have P:=R.1 e;have W:bJ d 1 us=us:=Bz (a:=1) P (je _);have u:rz=[]:=by{subst e;rw[P]at hz;cases hz with|done=>rfl};rw[W]at n h;exact⟨o,ro,S,rfl,(n.up h).wide X (je _),.refl q,s,by rw[u,show((c:Int)+((zAH ro:Int)-(zAH ([]:List (Nat×ByteArray))+zAH ro:Nat)))=c from j0];exact O,by rw[u,AF bm];exact j0,λy F=>F.elim (λh=>by rw[u]at h;exact A4) id,λx l=>aI (aH l)⟩};have HB:Hid (o=aB->zAH (bJ d 0 us)<=1->Joined k t S z o rz ro us d lo x0 x1 x2 x3 x4 c w (aM (ptr z)) w):=λe h=>by{have P:=no.1 e;have W:bJ d 0 us=us:=Bz (a:=0) P bm;have u:ro=[]:=by{subst e;rw[P]at n;cases n with|done=>rfl};rw[W]at hz h;exact⟨z,rz,S,rfl,(hz.up h).wide (je _) D,.refl q,r,by rw[u,show((c:Int)+((zAH rz:Int)-(zAH rz+zAH ([]:List (Nat×ByteArray)):Nat)))=c from j0];exact O,by rw[u,AF bm];exact j0,λy F=>F.elim id λh=>(by rw[u]at h;exact A4),λx l=>aH l⟩};have C:Hid (2<=zAH us->Calls zq 239 #[aO t,ptr z,ptr o] w λe w'=>∃b,e=aM (ptr (aA b))/\Joined k t S z o rz ro us d lo x0 x1 x2 x3 x4 c w (aM (ptr (aA b))) w'):=λU=>by{refine(aNz (q.cells r) (q.cells s) O M bm).mono ?_;rintro e w' ⟨b,rfl,A,hH,N,hb,hI,I⟩;let⟨hs,T⟩:=A.cell;have hR:cU k w' (aA b) us d lo w' (rz++ro++[(b,⟨zAL (gY k us d)⟩)]):= .node U (Y.deep U) T (hz.hl V hk hH) ((n.hl V hk hH).wide (je _) A.lo) hb;refine⟨b,rfl,aA b,_,_,rfl,hR,⟨hH,(q.hl hH).add A r s,λx l=>aH l,λx l=>l.imp id λe=>by subst e;exact A.lo,λf L hf=>hf.push O K N λg1 Z g3 g4=>hI L f g1 (λx e=>Z x (r x e)) (λx e=>Z x (s x e)) g3 g4,λx l ht A=>I x l ht λe=>A (e.elim (r x) (s x))⟩,λx e=>by cases e;exact aI rfl,?_,by rw[AE U];simp only[At,Bf,CH],λy F=>List.mem_append_left _ (Bl.2 F),λx l=> ?_⟩;rotate_left;{have hk:vJ S w w':=hH.pK;cases l with|here=>exact aI (aI j0)|zero h B=>obtain⟨rfl,rfl,_⟩:=bU h T;exact aH (B.back hk q r)|one h B=>obtain⟨rfl,rfl,_⟩:=bU h T;exact aI (aH (B.back hk q s))};rw[show(c:Int)+((zAH (rz++ro++[(b,(⟨zAL (gY k us d)⟩:ByteArray))]):Int)-(zAH rz+zAH ro:Nat))=c+1 from L9];exact N};have H1:Hid (z=aB->o=aB->zAH (bJ d 1 us)<=1):=λ_ e=>by{rw[no.1 e];simp};have H2:Hid (¬zAH (bJ d 1 us)<=1->2<=zAH us):=λh=>by{omega};have H3:Hid (¬zAH (bJ d 0 us)<=1->2<=zAH us):=λh=>by{omega};have H4:Hid (∀a b,z=aA a->o=aA b->2<=zAH us):=λa b ea eb=>by{obtain h|h:=Lw (zAH (bJ d 0 us));{rw[R.2 (List.length_eq_zero_iff.1 h)]at ea;cases ea};.obtain B|B:=Lw (zAH (bJ d 1 us));{rw[no.2 (List.length_eq_zero_iff.1 B)]at eb;cases eb};.exact bm};generalize hJ:Joined k t S z o rz ro us d lo x0 x1 x2 x3 x4 c w=J at*;clear hz n Y q r s O M K hJ R no X D hl V hk;generalize bJ d 0 us=u0 at*;generalize bJ d 1 us=u1 at*;cases z with|none=>{cases o with|none=>have j:=H1 rfl rfl;rw[Dz j]at E;go_enter (Qz.fn func232),ntmps232;go_wp2_with fail;refine E.mono ?_;rintro e w' ⟨rfl,rfl⟩;go_wp2;exact HA A8 j|some o=>by_cases j:zAH u1<=1;{rw[Dz j]at E;go_enter (Qz.fn func232),ntmps232;go_wp2_with fail;refine E.mono ?_;rintro e w' ⟨rfl,rfl⟩;go_wp2;exact HA A8 j};{rw[Dr j]at E;have H:=C (H2 j);clear C j;go_enter (Qz.fn func232),ntmps232;go_wp2_with fail;refine E.mono ?_;rintro e w' ⟨rfl,rfl⟩;go_wp2_with fail;refine H.mono ?_;rintro e w' ⟨b,rfl,G⟩;go_wp2;exact G}}|some z=>cases o with|none=>by_cases j:zAH u0<=1;{rw[Dz j]at Q;go_enter (Qz.fn func232),ntmps232;go_wp2_with fail;refine Q.mono ?_;rintro e w' ⟨rfl,rfl⟩;go_wp2;exact HB A8 j};{rw[Dr j]at Q;have H:=C (H3 j);clear C j;go_enter (Qz.fn func232),ntmps232;go_wp2_with fail;refine Q.mono ?_;rintro e w' ⟨rfl,rfl⟩;go_wp2_with fail;refine H.mono ?_;rintro e w' ⟨b,rfl,G⟩;go_wp2;exact G}|some o=>have H:=C (H4 _ _ rfl rfl);clear C;go_enter (Qz.fn func232),ntmps232;go_wp2_with fail;refine H.mono ?_;rintro e w' ⟨b,rfl,G⟩;go_wp2;exact G
end
def Uo:∀{A M:List Nat},A.Nodup->(∀x∈A,x∈M)->zAH M<=zAH A->∀x∈M,x∈A
 |[],M,_,_,hl,x,h=>by grind|a::A,M,i,b,hl,x,h=>by let⟨n,j⟩:=Lr.1 i;have g:=b a EJ;have hlen:=Nu g;simp only[Bf]at hl;by_cases e:x=a;{grind};{refine Ig _ (Uo (M:=M.erase a) j (λy m=> ?_) bm x ji);grind}
def XM (N L:List mE)(x:Nat):refs (N++L) x=refs N x+refs L x:=by induction N with|nil=>simp[refs]|cons a N i=>simp only[Fo,refs,i];exact bm
section
variable {w:zW}{t k d lo hi:Nat}{p:Option Nat}{us:List bE}{rows:List (Nat×ByteArray)}{S:zP}{f:Nat->Nat}{N L:List mE}
def cU.parent (h:cU k w p us d lo hi rows):∀x∈rows,p=aA x.1\/∃y∈rows,∃z o i v g u,aW w y.1 z o i v g u/\(z=aA x.1\/o=aA x.1):=by induction h with|done=>grind|leaf _ _ _=>grind| @node b us d lo m hi z o u D ro O M h J K hb r n=>intro x a;have j:(b,(⟨zAL (gY k us d)⟩:ByteArray))∈D++ro++[(b,(⟨zAL (gY k us d)⟩:ByteArray))]:=ji;obtain a|a:=Bl.1 a;{right;obtain a|a:=Bl.1 a;{obtain e|⟨y,G,A,E,F,B,I,s,h1,H⟩:=r x a;{exact⟨_,j,_,_,_,_,_,_,h,aH e⟩};exact ji};.obtain e|⟨y,G,A,E,F,B,I,s,h1,H⟩:=n x a;{exact⟨_,j,_,_,_,_,_,_,h,aI e⟩};exact ji};exact ji
def zEz (D:Live t w S f (N++L))(P:Pos L f)(h:cU k w p us d lo hi rows)(M:∀k∈L,k.1<lo)(Q:CS w S)(J:∀b,p=aA b->S b)(K:zAH N=zAH rows):Pos (N++L) (more f p)/\∀y∈N,lo<=y.1:=by have a:∀b z o i v g s,S b->aW w b z o i v g s->∀c,z=aA c\/o=aA c->S c:=λb z o i v g s O Z c e=>by{let⟨V,W,H,G,T,I,B,_,R⟩:=Q b O;grind[bU]};let⟨Y,A⟩:=h.each;have E:∀x∈rows,x.1∈N.map (·.1):=λx j=>by{have B:=D.mem x.1 ((h.Zy a J) x j);grind};have F:=Uo A (λx j=>by obtain⟨y,m,rfl⟩:=Dd.1 j;exact E y m) (by simp[K]);refine⟨λr n=> ?_,λy m=>by let⟨x,j,e⟩:=Dd.1 (F y.1 (Dd.2 ⟨y,m,rfl⟩));exact ji⟩;obtain n|n:=Bl.1 n;{obtain⟨x,j,e⟩:=Dd.1 (F r.1 (Dd.2 ⟨r,n,rfl⟩));obtain U|⟨y,m,z,o,i,v,g,s,B,R⟩:=h.parent x j;{have:dT r.1 p=1:=AE (by rw[U,e]);unfold more;exact bm};.obtain⟨q,X,eq⟩:=Dd.1 (E y m);have u:q∈N++L:=ji;let⟨H,G,T,h4,_⟩:=D.inv.cell q u;grind[PL,bU]};.have B:=P r n;rw[XM];unfold more;exact bm
def heldBy:List (Option Nat)->Nat->Nat
 |[],_=>0|p::l,x=>dT x p+heldBy l x
theorem rS (p:Option Nat)(l:List (Option Nat)):heldBy (p::l)=more (heldBy l) p:=by funext x;simp only[heldBy,more];exact bm
def Pc (l:List (Option Nat))(p:Option Nat):heldBy (l++[p])=more (heldBy l) p:=by funext x;induction l with|nil=>simp[heldBy,more]|cons a l i=>simp only[Fo,heldBy,i,more];exact bm
theorem Jz (l:List (Option Nat))(x:Nat):heldBy l x<=zAH l:=by induction l with|nil=>exact je _|cons a l i=>have:dT x a<=1:=Y6;simp only[heldBy,Bf];exact bm
theorem ZR {l:List (Option Nat)}{x:Nat}(h:aA x∈l):0<heldBy l x:=by induction l with|nil=>cases h|cons a l i=>obtain h|h:=Bb.1 h;{have:dT x a=1:=AE h.symm;simp only[heldBy];omega};{have:=i h;simp only[heldBy];omega}
def Inv.cs {w:zW}{t:Nat}{L:List mE}{e:Nat->Nat}(h:Inv t w L e):CS w λx=>x∈L.map (·.1):=λb j=>by obtain⟨k,a,rfl⟩:=Dd.1 j;let⟨i,v,g,n,m⟩:=h.cell k a;exact⟨_,_,_,_,_,_,n,m,λc e=>(h.ZI k a c e).2⟩
def Inv.Xy {w w':zW}{t:Nat}{L:List mE}{e:Nat->Nat}{all:List (Nat×ByteArray)}(h:Inv t w L e)(b:ET all w w'):Inv t w' L e:=h.same (by grind[ET.cell]) (λk _ a=>b.thaw _ a) h.out h.pQ
end
def wI (t:Nat)(w:zW)(C:zP)(l:List (Option Nat))(q:Option Nat):Prop:=∃L,Live t w (λx=>x∈L.map (·.1)) (heldBy l) L/\Pos L (more (heldBy l) q)/\(∀x∈L.map (·.1),C x)/\tT q L
def YZ {t:Nat}{n:Int}:∀p:Option Nat,RQ t n p
 |none=>EA|some b=>YY (b+1) _ (by grind)
section
variable {w w':zW}{t:Nat}{C C':zP}{l l':List (Option Nat)}{p q:Option Nat}{x0 x1 x2 x3 x4:zY}{c:Int}
theorem wI.kept (h:wI t w C l q)(hk:∀x,C x->w'.heap[x]? =w.heap[x]?)(e:w'.cell? (t,5)=w.cell? (t,5)):wI t w' C l q:=by let⟨L,a,r,o,n⟩:=h;have m:∀k∈L,w'.heap[k.1]? =w.heap[k.1]? :=by{grind};exact⟨L,⟨a.VD,a.inv.same (λk b i v g j=>⟨g,⟨by rw[m k b];exact j.at'⟩⟩) (λk b ⟨c,s⟩=>⟨c,ji⟩) a.inv.out a.inv.pQ,a.mem,e.trans a.num⟩,r,o,n⟩
theorem wI.below {B:Nat}(h:wI t w C l q)(a:Below B w w')(b:w.heap.size<=B):wI t w' C l q:=by let⟨L,g,e⟩:=h;exact⟨L,g.below a b,e⟩
def wI.held (e:heldBy l=heldBy l')(h:wI t w C l q):wI t w C l' q:=by unfold wI at h⊢;exact ji
def wI.Xy {all:List (Nat×ByteArray)}(h:wI t w C l q)(e:ET all w w')(b:w'.cell? (t,5)=w.cell? (t,5)):wI t w' C l q:=by let⟨L,a,g⟩:=h;exact⟨L,⟨a.VD,a.inv.Xy e,a.mem,b.trans a.num⟩,g⟩
def Inv.rq {L:List mE}(h:Inv t w L (heldBy l))(a:p∈l):tT p L:=λb e=>by subst e;refine Dv λg=> ?_;grind[ZR,out]
def wI.hold (h:wI t w C l q)(i:q=p\/q=aB/\p∈l)(hl:zAH l<=1000000)(o:cS w t x0 x1 x2 x3 x4 c)(a:cS w' t x0 x1 x2 x3 x4 c)(u:c<=1000000000)(v:∀L f,Inv t w L f->tT p L->zAH L<=1000000000->(∀x,f x<=1000000000)->Inv t w' L (more f p)):wI t w' C (p::l) aB:=by let⟨L,g,j,s,r⟩:=h;have y:tT p L:=by{obtain rfl|⟨_,hp⟩:=i;{exact r};{exact g.inv.rq hp}};have m:=g.len o;have hh:=Jz l;refine⟨L,⟨λx=> ?_,by grind[Live.inv,rS],g.mem,by rw[a.c5,m]⟩,?_,s,λb e=>by cases e⟩;{grind[Jz]};.rw[lB,rS];obtain rfl|⟨rfl,_⟩:=i;{exact j};.intro k n;have:=j k n;rw[lB]at this;unfold more;exact bm
def si (t:Nat)(C:zP)(p:Option Nat)(l:List (Option Nat))(x0 x1 x2 x3 x4:zY)(c:Int)(w w':zW):Prop:=Hl t w w'/\vH t C w w'/\∃c',cS w' t x0 x1 x2 x3 x4 c'/\wI t w' C l aB/\0<=c'/\c'<=c/\(p∈l->c'=c)
def wI.let {n:Int}(h:wI t w C (p::l) aB)(hF:Fg t n w)(o:0<n)(m:cS w t x0 x1 x2 x3 x4 c)(G:c<=1000000000): (Calls zq 219 #[aO t,ptr p] w λr w'=>r=aM (.tuple #[])/\si t C p l x0 x1 x2 x3 x4 c w w')/\ ∀u,CallsD zq 219 #[aO t,ptr p] u w λr s w'=>s=u/\(r=aM (.tuple #[])/\si t C p l x0 x1 x2 x3 x4 c w w'):=by let⟨L,a,i,H,_⟩:=h;rw[lB]at i;rw[rS]at a i;have hl:=a.len m;subst hl;let⟨k1,k2⟩:=YZ p w L (heldBy l) x0 x1 x2 x3 x4 a.inv m hF bm;have v:∀w',EP t n p w w' L (heldBy l) x0 x1 x2 x3 x4->si t C p l x0 x1 x2 x3 x4 (zAH L:Nat) w w':=λw' ⟨g1,z,B,I,g2,g3,_,g5,g6,g7,g8⟩=>by{have A:=g5 o;have j:=g7 o i;rw[A]at g2 j;have D:=g6.length_le;refine⟨g1,λx g y F=>z x g y ji,_,g3,⟨B,⟨λx=>Az (aNp _ _) (a.VD x),g2,λx g=>g,g3.c5⟩,j5,ji,λb e=>by cases e⟩,bm,bm,λE=> ?_⟩;grind[ZR]};exact⟨k1.mono ji,λu=>(k2 u).mono ji⟩
end
section
variable {w:zW}{k d:Nat}{p:Option Nat}{S:zP}{us:List bE}
structure vF (k:Nat)(w:zW)(p:Option Nat)(us:List bE)(d:Nat)(z o:Option Nat):Prop where
 sub:∀x,In w z x\/In w o x->In w p x
 z:dQ k w z (bJ d 0 us) (d+1)
 o:dQ k w o (bJ d 1 us) (d+1)
def RJ {u}(h:cM u.idx d=0):bJ d 0 [u]=[u]/\bJ d 1 [u]=[]:=by unfold bJ;exact ji
def RI {u}(h:cM u.idx d=1):bJ d 0 [u]=[]/\bJ d 1 [u]=[u]:=by unfold bJ;exact ji
def YA (h:dQ k w p us d)(J:d<256)(hi:∀u∈us,zAH u.idx=32)(B:CS w S)(r:∀b,p=aA b->S b):
  Calls zq 230 #[ptr p,d] w λe a=>∃z o,e=aM (.tuple #[ptr z,ptr o])/\(a=w\/a=w.drew)/\vF k w p us d z o/\(∀b,z=aA b->S b)/\∀b,o=aA b->S b:=by
 have n:=hid ((cU.done h (je 0)).ends);cases h with
 |nil=>have A:vF k w aB [] d aB aB:=⟨λx g=>g.elim id id,.nil _,.nil _⟩;have E:=hid n;have H:Hid (vF k w aB [] d aB aB/\(∀b,aB=aA b->S b)/\∀b,aB=aA b->S b):=⟨A,λb e=>by(cases e),λb e=>by(cases e)⟩;go_enter (Qz.fn func230),ntmps230;go_wp2_with fail;refine E.mono ?_;rintro e a ⟨rfl,rfl⟩;go_wp2;go_ret2;exact⟨aB,aB,rfl,aH rfl,H.1,λb e=>by(cases e),λb e=>by(cases e)⟩
 | @leaf b u _ v f=>have E:=hid n;have tU:=hi u j0;have m:Hid (Calls zq 82 #[u.idx,d] w λe a=>e=aM (.bool (decide (cM u.idx d=1)))/\a=w):=(AV ⟨zAL u.idx⟩ d w (by show d/8<zAH u.idx;exact bm) (by show zAH u.idx<=_;exact bm) bm).mono λe a h=>by{simpa using h};have k2:=f.c2;have j:=r b rfl;have hl:dQ k w (aA b) [u] (d+1):= .leaf (by rw[MO k (d+1) d];exact f);obtain i|i:=qF u.idx d;{have H:Hid (vF k w (aA b) [u] d (aA b) aB/\S b):=⟨⟨λx g=>g.elim id λh=>A4,by rw[(RJ i).1];exact hl,by rw[(RJ i).2];exact .nil _⟩,j⟩;rw[Dr bm]at m;go_enter (Qz.fn func230),ntmps230;go_wp2_with fail;refine E.mono ?_;rintro e a ⟨rfl,rfl⟩;go_wp2_with fail;refine m.mono ?_;rintro e a ⟨rfl,rfl⟩;go_wp2;go_ret2;exact⟨aA b,aB,rfl,aH rfl,H.1,λb e=>by(cases e;exact H.2),λb e=>by(cases e)⟩};{have H:Hid (vF k w (aA b) [u] d aB (aA b)/\S b):=⟨⟨λx g=>g.elim (λh=>A4) id,by rw[(RI i).1];exact .nil _,by rw[(RI i).2];exact hl⟩,j⟩;rw[Dz i]at m;go_enter (Qz.fn func230),ntmps230;go_wp2_with fail;refine E.mono ?_;rintro e a ⟨rfl,rfl⟩;go_wp2_with fail;refine m.mono ?_;rintro e a ⟨rfl,rfl⟩;go_wp2;go_ret2;exact⟨aB,aA b,rfl,aH rfl,H.1,λb e=>by(cases e),λb e=>by(cases e;exact H.2)⟩}
 | @node b _ _ z o v K _ f s y=>
  rw[Dr bm]at n;have G:=f.c0;have k1:=f.c1;have H:Hid (vF k w (aA b) us d z o/\(∀b,z=aA b->S b)/\∀b,o=aA b->S b):=by let⟨C,F,I,D,L,t,q,_,l⟩:=B b (r b rfl);obtain⟨rfl,rfl,_⟩:=bU f q;exact⟨⟨λx g=>g.elim (.zero f) (.one f),s,y⟩,λc e=>l c (aH e),λc e=>l c (aI e)⟩
  go_enter (Qz.fn func230),ntmps230;go_wp2_with fail;refine n.mono ?_;rintro e a ⟨rfl,rfl⟩;go_upto_region 2 with(fail)
  go_region;all_goals go_wp2
  all_goals go_ret2
  all_goals exact⟨z,o,rfl,aI rfl,H⟩
end
section
variable {w:zW}{k:Nat}{p:Option Nat}{us:List bE}{I:zB}
def Ir (w:zW)(us:List bE)(I:zB)(e:Ending):Prop:=(∃u b g h,u∈us/\u.idx=I/\e=aM (ptr (aA b))/\aW w b aB aB u.idx u.val g h)\/(e=aM (ptr aB)/\∀u∈us,u.idx≠I)
def Po (h:dQ k w p us 0)(R:zAH I=32):Calls zq 228 #[ptr p,I] w λe f=>f=w/\Ir w us I e:=by have N:=hid h;have P:Hid (∀d:Nat,d<256->Calls zq 82 #[I,d] w λe f=>e=aM (.bool (decide (cM I d=1)))/\f=w):=λd J=>(AV ⟨zAL I⟩ d w (by show d/8<zAH I;exact bm) (by show zAH I<=_;exact bm) bm).mono λe f h=>by{simpa using h};go_enter (Qz.fn func228),ntmps228;go_wp2;go_loopg [0,5] 257 (λq c i wr=>∃(d:Nat)(y:Option Nat)(g:List bE),d+q=257/\i=aC aD d/\c=ptr y/\wr=w/\dQ k w y g d/\(∀u∈g,u∈us)/\∀u∈us,u.idx=I->u∈g);(case atStart=>exact⟨0,p,us,rfl,rfl,rfl,rfl,N,λ_ h=>h,λ_ h _=>h⟩);case round=>obtain⟨d,y,g,J,rfl,rfl,rfl,r1,r2,r3⟩:=hrel;cases r1 with|nil=>have E:=hid (QW wr);have t:Hid (∀u∈us,u.idx≠I):=λu j e=>by{have:=r3 u j e;simp at this};go_wp2_with fail;refine E.mono ?_;rintro e f ⟨rfl,rfl⟩;go_wp2;go_ret;exact⟨rfl,aI ⟨rfl,t⟩⟩| @leaf b u _ F l=>have E:=hid (CB l);have k2:=l.c2;by_cases j:u.idx=I;{have t:Hid (Ir wr us I (aM (ptr (aA b)))):=aH ⟨u,b,_,_,r2 u j0,j,rfl,l⟩;rw[j]at k2;go_wp2_with fail;refine E.mono ?_;rintro e f ⟨rfl,rfl⟩;go_wp2;go_ret;exact⟨rfl,t⟩};.have t:Hid (∀u∈us,u.idx≠I):=λx D e=>by{have:=r3 x D e;rw[Cy]at this;subst this;exact j e};have G:(u.idx==I)=aG:=by{rw[GM];exact j};go_wp2_with fail;refine E.mono ?_;rintro e f ⟨rfl,rfl⟩;go_wp2;go_ret;exact⟨rfl,aI ⟨rfl,t⟩⟩| @node b _ _ z o F L s l A B=>have E:Hid (Calls zq 225 #[ptr (aA b)] wr λe f=>e=aM (.bool aG)/\f=wr):=(cU.done (dQ.node L s l A B) (je 0)).ends.mono λe f h=>⟨by rw[h.1,Dr bm],h.2⟩;have Q:=l.c0;have k1:=l.c1;have hi:(d:Int)<256:=bm;have H:=P d s;have C:Hid (∀a:Nat,cM I d=a->(∀u∈bJ d a g,u∈us)/\∀u∈us,u.idx=I->u∈bJ d a g):=λa K=>⟨λu j=>r2 u (Bi.1 j).1,λu j e=>Bi.2 ⟨r3 u j e,by rw[e,K];exact Mg _⟩⟩;have M:=hid A;have O:=hid B;obtain v|v:=qF I d;{have n:=C 0 v;have m:=hid n;rw[Dr bm]at H;have r:=hid H;go_wp2_with fail;refine E.mono ?_;rintro e f ⟨rfl,rfl⟩;go_wp2_with fail;refine r.mono ?_;rintro e f ⟨rfl,rfl⟩;go_wp2;go_roundg (257-(d+1));(case measure=>omega);case rel=>go_light;exact⟨d+1,z,_,bm,j9,rfl,rfl,M,m⟩};.have n:=C 1 v;have m:=hid n;rw[Dz v]at H;have r:=hid H;go_wp2_with fail;refine E.mono ?_;rintro e f ⟨rfl,rfl⟩;go_wp2_with fail;refine r.mono ?_;rintro e f ⟨rfl,rfl⟩;go_wp2;go_roundg (257-(d+1));(case measure=>omega);case rel=>go_light;exact⟨d+1,o,_,bm,j9,rfl,rfl,O,m⟩
end
open Go Go.RowKit Sha
section
variable {l cs:List bE}{u:bE}{d b:Nat}{I:zB}
def AX (h:mX l)(u):mX (gJ l u):=by have a:fC (GP (aV l) u):=xT (Gv.2 h);rw[<-AO]at a;exact Gv.1 a
def KU:∀(cs:List bE){l:List bE},mX l->mX (bC l cs)
 |[],_,h=>h|u::cs,_,h=>KU cs (AX h u)
def Uh (a:mX l):bJ d b (gJ l u)=if cM u.idx d=b then gJ (bJ d b l) u else bJ d b l:=by have j:bJ d b (lU u.idx l)=lU u.idx (bJ d b l):=by{unfold bJ lU;rw[JP,JP];grind};have i:bJ d b (fU u.idx l)=fU u.idx (bJ d b l):=by{unfold bJ fU;rw[JP,JP];grind};have g:bJ d b (gJ l u)=lU u.idx (bJ d b l)++(bJ d b (if u.gone then []else [BN u])++fU u.idx (bJ d b l)):=by{rw[<-j,<-i];unfold gJ bJ;grind};rw[g];by_cases h:cM u.idx d=b;{rw[AE h];congr 2;cases u.gone with|true=>rfl|false=>exact Hp (show(cM u.idx d==b)=aF from ji)};.rw[AF h];have f:bJ d b (if u.gone then []else [BN u])=[]:=by{cases u.gone with|true=>rfl|false=>exact Ii (show¬(cM u.idx d==b)=aF from ji)};rw[f,Gs];obtain⟨x,k,e⟩|⟨e,_⟩:=DF u.idx (bJ d b l) (a.filter _);{exfalso;have c:x∈bJ d b l:=by{rw[e];exact j0};have:=(Bi.1 c).2;grind};exact ji
def kY:∀(cs:List bE){l:List bE},mX l->bJ d b (bC l cs)=bC (bJ d b l) (bJ d b cs)
 |[],_,_=>rfl|u::cs,l,a=>by show bJ d b (bC (gJ l u) cs)=_;rw[kY cs (AX a u),Uh a];by_cases h:cM u.idx d=b;{rw[AE h,show bJ d b (u::cs)=u::bJ d b cs from Hp (show(cM u.idx d==b)=aF by grind)];rfl};{rw[AF h,show bJ d b (u::cs)=bJ d b cs from Ii (show¬(cM u.idx d==b)=aF by grind)]}
def rX (l:List bE)(u:bE):Bool:=match fV (aV l) u.idx with|none=> !u.gone|some v=>u.gone||v !=u.val
def jT (l:List bE)(u:bE):Int:=match fV (aV l) u.idx with|none=>if u.gone then 0 else 1|some _=>if u.gone then-1 else 0
def lY (l cs:List bE):List bE:=cs.filter (rX l)
def gD (l cs:List bE):Int:=(cs.map (jT l)).sum
def BU (l)(u)(I):fV (aV (gJ l u)) I=if u.idx=I then(if u.gone then aB else aA u.val)else fV (aV l) I:=by rw[AO,get_put]
def rD:∀(cs:List bE)(l:List bE),(∀x∈cs,x.idx≠I)->fV (aV (bC l cs)) I=fV (aV l) I
 |[],_,_=>rfl|u::cs,l,h=>by show fV (aV (bC (gJ l u) cs)) I=_;rw[rD cs _ λx a=>h x (Ig _ a),BU,AF (h u (EJ ..))]
def KV {u cs}(h:mX (u::cs)):∀x∈cs,u.idx≠x.idx:=λx a e=>by have:=(Gg.1 h).1 x a;grind[dU]
def uU:∀(cs:List bE)(l:List bE),mX cs->∀u∈cs,fV (aV (bC l cs)) u.idx=if u.gone then aB else aA u.val
 |[],_,_,u,hu=>by simp at hu|c::cs,l,h,u,hu=>by show fV (aV (bC (gJ l c) cs)) u.idx=_;obtain rfl|hu:=Bb.1 hu;{rw[rD cs _ λx a e=>KV h x a e.symm,BU,AE rfl]};{exact uU cs _ (Gg.1 h).2 u hu}
def Xv (a:mX cs):Diff (lY l cs) (aV (bC l cs)) (aV l):=λu h=>by let⟨e,c⟩:=Bi.1 h;rw[uU cs l a u e];unfold rX at c;exact ji
def Ko (c)(h:c.idx≠u.idx):rX (gJ l c) u=rX l u/\jT (gJ l c) u=jT l u:=by unfold rX jT;rw[BU,AF h];exact ji
def Ug (hl:mX l)(hh:∀x∈l,x.gone=aG)(h:rX l u=aG):gJ l u=l:=by
 have i:aV (gJ l u)=aV l:=by refine vQ (Gv.2 (AX hl u)) (Gv.2 hl) λI=> ?_;rw[BU];by_cases e:u.idx=I;{rw[AE e];unfold rX at h;grind};grind
 have j:∀{x:List bE},(∀u∈x,u.gone=aG)->x=(aV x).map λe=>⟨e.1,e.2,aG⟩:=λ{x} a=>by
  unfold aV;rw[KI];conv=>lhs;rw[<-List.map_id x]
  apply List.map_congr_left;intro u c;have:=a u c;cases u;exact ji
 have g:∀x∈gJ l u,x.gone=aG:=λx a=>by
  obtain a|a:=Bl.1 a;{exact hh x (Bi.1 a).1}
  .obtain a|a:=Bl.1 a
   .cases f:u.gone with
    |true=>grind
    |false=>rw[f]at a;simp at a;rw[a];rfl
   .exact hh x (Bi.1 a).1
 exact ji
def Kq:∀(cs:List bE){l:List bE},mX l->(∀x∈l,x.gone=aG)->mX cs->bC l (lY l cs)=bC l cs
 |[],_,_,_,_=>rfl|u::cs,l,hl,hh,e=>by have c:=KV e;have i:=Kq cs (AX hl u) (λx a=>by obtain a|a:=Bl.1 a;{exact hh x (Bi.1 a).1};.obtain a|a:=Bl.1 a;{cases f:u.gone with|true=>grind|false=>rw[f]at a;simp at a;rw[a];rfl};.exact hh x (Bi.1 a).1) (Gg.1 e).2;have g:lY (gJ l u) cs=lY l cs:=List.filter_congr λx a=>(Ko u (c x a)).1;rw[g]at i;show _=bC (gJ l u) cs;rw[<-i];cases h:rX l u with|true=>rw[show lY l (u::cs)=u::lY l cs from Hp h];rfl|false=>rw[show lY l (u::cs)=lY l cs from Ii ji,Ug hl hh h]
def dh (hl:mX l)(u):(zAH (gJ l u):Int)=zAH l+jT l u:=by unfold jT;obtain⟨x,h,e⟩|⟨e,g⟩:=DF u.idx l hl;{have a:fV (aV l) u.idx=aA x.val:=BV (Gv.2 hl) (by rw[<-h];exact Dd.2 ji);rw[a];have c:=congrArg zAH e;rw[At,Bf]at c;unfold gJ;exact ji};.have a:fV (aV l) u.idx=aB:=iM λx h=>by{obtain⟨y,f,rfl⟩:=Dd.1 h;exact ji};rw[a];have c:=congrArg zAH e;rw[At]at c;unfold gJ;exact ji
def YP:∀(cs:List bE){l:List bE},mX l->mX cs->(zAH (bC l cs):Int)=zAH l+gD l cs
 |[],l,_,_=>by simp[gD,bC]|u::cs,l,hl,a=>by have h:=KV a;have i:=YP cs (AX hl u) (Gg.1 a).2;have e:gD (gJ l u) cs=gD l cs:=by{unfold gD;congr 1;exact List.map_congr_left λx c=>(Ko u (h x c)).2};show(zAH (bC (gJ l u) cs):Int)=_;rw[i,e,dh hl u];show _=(zAH l:Int)+(jT l u+gD l cs);exact bm
end
section
variable {w:zW}{d bx:Nat}{cs:List bE}
def Qv (u)(hi:zAH u.idx=32)(m:d<256)(k:w.cell? bx=aA (d:zY))(hl:bx<w.heap.size):
  Calls zq 238 #[aw u,aO bx] w λe b=>e=aM (.bool (decide (cM u.idx d=1)))/\zb w b:=by
 let⟨a,f,g⟩:=u;dsimp only at*;have c:Hid (zb w (zAK w (aJ #[a,f,g] 53))):=(Av _ w).alloc (je _) _;have j:(zAK w (aJ #[a,f,g] 53)).cell? bx=aA (d:zY):=by rw[c.out.cell hl];exact k
 have l:(zAK w (aJ #[a,f,g] 53)).cell? w=aA (a:zY):=(bG (Ei w _) 0).trans rfl;have H:Hid (∀W,Calls zq 82 #[a,d] W λe b=>e=aM (.bool (decide (cM a d=1)))/\b=W):=λW=>(AV ⟨zAL a⟩ d W (by show d/8<zAH a;exact bm) (by show zAH a<=_;exact bm) bm).mono λe b h=>by simpa using h
 go_enter (Qz.fn func238),ntmps238;go_upto_region 1 with(fail)
 generalize(zAK w (aJ #[a,f,g] 53))=i at*;go_wp2_with fail;refine(H i).mono ?_;rintro e b ⟨rfl,rfl⟩;exact X6
def zFj {va cap m}(C:bN w va cs)(hl:zAH cs<=1000000)(hi:∀u∈cs,zAH u.idx=32)(J:d<256)(y:w.cell? bx=aA (d:zY))(A:bx<w.heap.size)(s:Cut cs d m): Calls zq 237 #[aK va (zAH cs) cap,.func (.func 238) #[] #[aO bx]] w λe f=>e=aM (aC aD (if m<zAH cs then(m)else-1))/\zb w f:=by have L:=hid C;have p:=hid s;have v:Hid (∀(t:Nat) u,cs[t]? =aA u->∀W,zb w W->Calls zq 238 #[aw u,aO bx] W λe f=>e=aM (.bool (decide (cM u.idx d=1)))/\zb w f):=λt u c W j=>(Qv u (hi u (Ek c)) J (by rw[j.cell A];exact y) (Ao A j.size)).mono λe f h=>⟨h.1,j.trans (h.2.mono j.size)⟩;let⟨n,r⟩:=zzx (zAH cs);have K:=hid r;have F:=s.le;rw[<-r]at hl F⊢;clear C s hi y r;go_enter (Qz.fn func237),ntmps237;go_wp2;go_loopg [8] n (λq i wr=>∃t:Nat,t+q=n/\i=aC aD t/\t<=m/\zb w wr);(case atStart=>exact⟨0,bm,rfl,bm,Av _ _⟩);case round=>obtain⟨t,P,rfl,D,k⟩:=hrel;have x:=hid k;by_cases hlt:t<n;{have c:=Be (l:=cs) (i:=t) J4;have H:=hid (v t _ c wr x);have H0:Hid (t<m->cM cs[t].idx d=0):=λh=>p.zero t _ h c;have H1:Hid (m<=t->cM cs[t].idx d=1):=λh=>p.one t _ h c;obtain⟨g,o,rfl,Q,c0,c1,c2⟩:=(L.below x (je _)).idx t _ c;generalize cs[t]=u at*;let⟨N,M,O⟩:=u;dsimp only at*;have I:¬((t:Int)<0):=bm;have G:(t:Int)<n:=bm;by_cases z:m<=t;{obtain rfl:t=m:=bm;have b:=H1 (je _);rw[Dz b]at H;clear b k v H0 H1 c p;go_wp2_with fail;refine H.mono ?_;rintro e w2 ⟨rfl,a⟩;have B:=hid a;clear a;go_wp2;go_ret;exact⟨rfl,B⟩};.have b:=H0 bm;rw[Dr bm]at H;clear b k v H0 H1 c p;go_wp2_with fail;refine H.mono ?_;rintro e w2 ⟨rfl,a⟩;have B:=hid a;clear a;go_wp2;go_roundg (n-(t+1));(case measure=>omega);case rel=>go_light;exact⟨t+1,bm,j9,bm,B⟩};.have E:¬(t:Int)<n:=bm;clear k;go_wp2;go_ret;exact⟨rfl,x⟩
def XZ {va cap m}(i:bN w va cs)(hl:zAH cs<=1000000)(hi:∀u∈cs,zAH u.idx=32)(g:d<256)(f:Cut cs d m):
  Calls zq 231 #[aK va (zAH cs) cap,d] w λe c=>e=aM (aC aD (m))/\zb w c:=by
 have b:zb w (zAK w (aJ #[d] 3)):=(Av _ w).alloc (je _) _;have H:Hid (Calls zq 237 #[aK va (zAH cs) cap,.func (.func 238) #[] #[aO w]] (zAK w (aJ #[d] 3)) λe c=>e=aM (aC aD (if m<zAH cs then(m:Int)else-1))/\zb w c):=by refine(zFj (i.below b (je _)) hl hi g ((bG (Ei w _) 0).trans rfl) j6 f).mono λe c h=>⟨h.1,b.trans (h.2.mono b.size)⟩
 have j:=f.le;by_cases hlt:m<zAH cs
 .rw[AE hlt]at H;have k:¬(m:Int)<0:=bm;exact A3
 .rw[AF hlt]at H;obtain rfl:m=zAH cs:=bm;exact A3
end
section
variable {w w1 w':zW}{t k d:Nat}{x0 x1 x2 x3 x4:zY}{c:Int}{p:Option Nat}{S:zP}{us cs:List bE}
def bN.hl {va}(h:bN w va cs)(r:Hl t w w')(l:∀a,va=aA a->a.block≠t):bN w' va cs:=λs=>by let⟨g,o,e,q,y⟩:=h s;obtain⟨u,hu⟩:∃u,cs[0]? =aA u:=by{simp_all};let⟨f,j,B,_,_,_,k2⟩:=h.idx 0 u hu;have x:f=g/\j=o:=by{grind};obtain⟨rfl,rfl⟩:=x;have A:w'.heap[f]? =w.heap[f]? :=r.block f q (l _ e) λz o i v g m b=>by{let⟨fr,b⟩:=b.at';rw[bG b]at k2;have n:Value.bool u.gone∈(jE z o i v g m).toList:=ji;simp only[jE,Bb,Bq,Bm]at n;grind};grind[World.cell?_of_block]
def Grown (k t:Nat)(S:zP)(p:Option Nat)(us cs:List bE)(d:Nat)(x0 x1 x2 x3 x4:zY)(c:Int)(W:zW)(e:Ending)(w':zW):Prop:= ∃a rows f,e=aM (ptr a)/\cU k w' a (bC us cs) d W w' rows/\Grow t S f W w'/\(∀b,a=aA b->f b)/\cS w' t x0 x1 x2 x3 x4 (c+zAH rows)/\zAH rows=dZ (aV (bC us cs)) (aV us) d/\∀x,In w' a x->In W p x\/x∈rows.map (·.1)
structure mH (k t:Nat)(S:zP)(p:Option Nat)(us cs:List bE)(d:Nat)(x0 x1 x2 x3 x4:zY)(c:Int)(W:zW):Prop where
 k1:1<=k
 k2:k<=32
 rep:dQ k W p us d
 TH:mX us
 ot:mX cs
 here:∀u∈us,u.gone=aG
 nI:∀u∈us,u.idx.length=32
 ox:∀u∈cs,u.idx.length=32/\u.val.length<=100
 bits:∀a∈us++cs,∀b∈us++cs,∀i,i<d->cM a.idx i=cM b.idx i
 diff:Diff cs (aV (bC us cs)) (aV us)
 cells:CS W S
 inS:∀b,p=aA b->S b
 at':cS W t x0 x1 x2 x3 x4 c
 lo: -4611686018427387904<=c
 hi:c+dZ (aV (bC us cs)) (aV us) d<=1000000000
theorem Grow.below {B:Nat}(h:CS w S)(a:Below B w w')(b:w.heap.size<=B):Grow t S S w w':=⟨Hl.below a b,h.hl (t:=t) (Hl.below a b),λ_ h=>h,by grind,λ_ _ h=>⟨[],h.below a b⟩,.below a b⟩
def aNo (l:List qN)(d:Nat):dZ l l d=0:=by unfold dZ eQ;rw[zGq,JW.2 λe h=>by simp[h]];rfl
def pE (l a:List qN)(d:Nat)(h:zAH l<=1):dZ l a d<=zAH l:=by have b:=lS (256-d) l a d;rw[show zAH l-1=0 from bm,Nat.mul_zero]at b;have e:eQ l a<=zAH l:=Ex ..;unfold dZ;exact bm
def zCq (h:mH k t S p us [] d x0 x1 x2 x3 x4 c w):Grown k t S p us [] d x0 x1 x2 x3 x4 c w (aM (ptr p)) w:= ⟨p,[],S,rfl,.done h.rep (je _),.refl h.cells,h.inS,by simpa using h.at',(aNo _ _).symm,ji⟩
def Jp {u}(h:us=[]\/∃x,us=[x]/\x.idx=u.idx):bC us [u]=if u.gone then []else [BN u]:=by show gJ us u=_;obtain rfl|⟨x,rfl,a⟩:=h;{unfold gJ lU fU;exact j0};.have e:lU u.idx [x]=[]:=Ii (by rw[a,dU];exact j2);have b:fU u.idx [x]=[]:=Ii (by rw[a,dU];exact j2);unfold gJ;exact ji
def zDg {u:bE}(h:mH k t S p us [u] d x0 x1 x2 x3 x4 c w)(f:us=[]\/∃x,us=[x]/\x.idx=u.idx)(g:u.gone=aF)(a:zb w w'):Grown k t S p us [u] d x0 x1 x2 x3 x4 c w (aM (ptr aB)) w':=by have e:=Jp f;rw[AE g]at e;refine⟨aB,[],S,rfl,by rw[e];exact .done (.nil d) a.size,.below h.cells a (je _),ji,by simpa using h.at'.below a (je _),?_,λx b=>by cases b⟩;rw[e];exact(Nat.le_zero.1 (pE (aV []) _ d (Cw _))).symm
def zCy {u:bE}{b:Nat}(h:mH k t S p us [u] d x0 x1 x2 x3 x4 c w)(s:us=[]\/∃x,us=[x]/\x.idx=u.idx)(v:u.gone=aG)(a:zb w w1)(j:GG w1 w' b aB aB u.idx u.val)(B:Hl t w1 w')(z:cS w' t x0 x1 x2 x3 x4 (c+1))(n:b<w'.heap.size)(A:∀L f,Inv t w1 L f->Inv t w' ((b,aB,aB)::L) f)(g:vH t (λ_=>False) w1 w'):Grown k t S p us [u] d x0 x1 x2 x3 x4 c w (aM (ptr (aA b))) w':=by let⟨E,m⟩:=j.cell;have l:=Az a.size j.lo;have i:=(Hl.below a (je _)).trans B;have e:=Jp s;rw[v]at e;have e:=e;refine⟨aA b,_,λx=>S x\/x=b,rfl,by rw[e];exact .leaf l n m,⟨i,(h.cells.hl i).add j ji ji,ji,ji,λf L y=>(y.below a (je _)).push (h.at'.below a (je _)) (by have:=h.hi;exact bm) z (λD _ _ _=>A L f D),(vH.below a (je _)).trans g a.size ji⟩,ji,j5,?_,λx r=> ?_⟩;rotate_left;{cases r with|here=>grind|zero h o=>obtain⟨rfl,rfl,_⟩:=bU h m;cases o|one h o=>obtain⟨rfl,rfl,_⟩:=bU h m;cases o};rw[e];have q:=h.diff;rw[e]at q;have C:1<=dZ (aV [BN u]) (aV us) d:=aM5 (Gv.2 h.TH) q (Cy.2 rfl) rfl;exact Nat.le_antisymm C (pE (aV [BN u]) (aV us) d (je _))
def mH.deep (h:mH k t S p us cs d x0 x1 x2 x3 x4 c w)(m:d<=256)(j:0<zAH cs)(i:∀u,cs=[u]->us≠[]/\∀x,us=[x]->x.idx≠u.idx):d<256:=by have two:∀a∈us++cs,∀b∈us++cs,a.idx≠b.idx->d<256:=λa f b e g=>by{obtain x|x:=Gn d 256;{exact x};.refine absurd (Lb ?_ ?_ (by grind[bits])) g;{obtain f|f:=Bl.1 f;{exact h.nI a f};.exact(h.ox a f).1};.obtain e|e:=Bl.1 e;{exact h.nI b e};.exact(h.ox b e).1};match cs,j with|[u],_=>{let⟨l,n⟩:=i u rfl;match us,l with|[x],_=>grind|x::y::us,_=>exact two x j0 y j0 (KV h.TH y j0)}|u::v::cs,_=>exact two u j0 v j0 (KV h.ot v j0)
theorem YN (us:List bE)(a:List qN)(d:Nat)(hl:zAH us<=1)(f:d<256):dZ (aV (bJ d 0 us)) (cG a d 0) (d+1)+dZ (aV (bJ d 1 us)) (cG a d 1) (d+1)=dZ (aV us) a d:=by have h:=pM us d;have e:fS (256-(d+1)) (aV (bJ d 0 us)) (cG a d 0) (d+1)=0:=by{grind[lS,cH]};have b:fS (256-(d+1)) (aV (bJ d 1 us)) (cG a d 1) (d+1)=0:=by{grind[lS,cH]};have n:fS (256-d) (aV us) a d=0:=by{grind[lS,cH]};unfold dZ;grind[pF,cX]
def DU (h:mH k t S p us cs d x0 x1 x2 x3 x4 c w)(e:0<zAH cs)(b:d<256):(if 2<=zAH (bC us cs) then 1 else 0)+(dZ (aV (bC (bJ d 0 us) (bJ d 0 cs))) (aV (bJ d 0 us)) (d+1)+dZ (aV (bC (bJ d 1 us) (bJ d 1 cs))) (aV (bJ d 1 us)) (d+1))=dZ (aV (bC us cs)) (aV us) d:=by rw[<-kY cs h.TH,<-kY cs h.TH,cX us d 0,cX us d 1];by_cases a:2<=zAH (bC us cs);{rw[AE a,<-aM6 h.diff a e b]};.rw[AF a,Ce];grind[YN]
def mH.half (h:mH k t S p us cs d x0 x1 x2 x3 x4 c w)(b:Nat){j:Option Nat}{S1:zP}{c1:Int}(m:dQ k w1 j (bJ d b us) (d+1))(q:CS w1 S1)(n:∀b,j=aA b->S1 b)(o:cS w1 t x0 x1 x2 x3 x4 c1)(s: -4611686018427387904<=c1)(r:c1+dZ (aV (bC (bJ d b us) (bJ d b cs))) (aV (bJ d b us)) (d+1)<=1000000000):mH k t S1 j (bJ d b us) (bJ d b cs) (d+1) x0 x1 x2 x3 x4 c1 w1:=by refine⟨h.k1,h.k2,m,h.TH.filter _,h.ot.filter _,λu g=>h.here u (Bi.1 g).1,λu g=>h.nI u (Bi.1 g).1,λu g=>h.ox u (Bi.1 g).1,λx a y l i hi=> ?_,?_,q,n,o,s,r⟩;{have f:∀x∈bJ d b us++bJ d b cs,x∈us++cs/\cM x.idx d=b:=λx a=>by{obtain a|a:=Bl.1 a;{exact⟨Bl.2 (aH (Bi.1 a).1),Hc.1 (Bi.1 a).2⟩};{exact⟨Bl.2 (aI (Bi.1 a).1),Hc.1 (Bi.1 a).2⟩}};by_cases e:i=d;{grind};{exact h.bits x (f x a).1 y (f y l).1 i bm}};.have:=h.diff.half d b;rw[<-cX,<-cX,kY cs h.TH]at this;exact this
end
def KY:∀{A M:List Nat},A.Nodup->(∀x∈A,x∈M)->zAH A<=zAH M
 |[],_,_,_=>Cw _|a::A,M,b,h=>by let⟨f,c⟩:=Lr.1 b;have e:=h a EJ;have:=KY (M:=M.erase a) c ji;grind[List.length_erase_of_mem,List.length_pos_of_mem,List.length_cons]
section
variable {w:zW}{t k d:Nat}{p:Option Nat}{us:List bE}{x y:Nat}
def In.trans (h:In w p x)(b:In w (aA x) y):In w p y:=by induction h with|here=>exact b|zero a _ i=>exact .zero a (i b)|one a _ i=>exact .one a (i b)
def dQ.sub (h:dQ k w p us d)(c:In w p x):∃u m,dQ k w (aA x) u m:=by induction h with|nil=>cases c|leaf a=>{cases c with|here=>exact⟨_,_,.leaf a⟩|zero h b=>obtain⟨rfl,_⟩:=bU h a;cases b|one h b=>obtain⟨_,rfl,_⟩:=bU h a;cases b}|node l j a f g e i=>cases c with|here=>exact⟨_,_,.node l j a f g⟩|zero h b=>grind[bU]|one h b=>grind[bU]
theorem dQ.ko {z o:Option Nat}(f:2<=zAH us)(hz:dQ k w z (bJ d 0 us) (d+1))(a:dQ k w o (bJ d 1 us) (d+1)):z≠aB\/o≠aB:=by have hl:=pM us d;refine Dv λh=> ?_;have c:=Dv λe=>h (aH e);have b:=Dv λe=>h (aI e);rw[hz.fR.1 c,a.fR.1 b]at hl;exact ji
def dQ.aL7 (h:dQ k w p us d):p≠aB->∃y i v g a,In w p y/\aW w y aB aB i v g a:=by induction h with|nil=>grind|leaf c=>exactλ_=>⟨_,_,_,_,_,.here _,c⟩| @node b us d z o a r s c n q f e=>intro _;obtain j|j:=dQ.ko r n q;{let⟨y,i,v,g,a,m,l⟩:=f j;exact⟨y,i,v,g,a,.zero c m,l⟩};{let⟨y,i,v,g,a,m,l⟩:=e j;exact⟨y,i,v,g,a,.one c m,l⟩}
def dQ.Vo {i v g:zB}{hs:Int}(h:dQ k w p us d)(l:In w p y)(n:aW w y aB aB i v g hs):∃u∈us,u.idx=i:=by induction h with|nil=>cases l|leaf c=>{cases l with|here=>let⟨_,_,e,_⟩:=bU c n;exact⟨_,Cy.2 rfl,e⟩|zero h a=>obtain⟨rfl,_⟩:=bU h c;cases a|one h a=>obtain⟨_,rfl,_⟩:=bU h c;cases a}| @node b us d z o hs A s c q r j f=>cases l with|here=>grind[ko,bU]|zero h a=>obtain⟨rfl,_⟩:=bU h c;let⟨u,m,e⟩:=j a;exact⟨u,(Bi.1 m).1,e⟩|one h a=>obtain⟨_,rfl,_⟩:=bU h c;let⟨u,m,e⟩:=f a;exact⟨u,(Bi.1 m).1,e⟩
def dQ.om {z o:Option Nat}(hz:dQ k w z (bJ d 0 us) (d+1))(q:dQ k w o (bJ d 1 us) (d+1))(j:In w z x)(r:In w o x):False:=by let⟨l,C,m⟩:=hz.sub j;let⟨y,i,v,g,B,c,f⟩:=m.aL7 j0;let⟨u,n,s⟩:=hz.Vo (j.trans c) f;let⟨A,h,e⟩:=q.Vo (r.trans c) f;have b:=(Bi.1 n).2;have a:=(Bi.1 h).2;rw[s]at b;rw[e]at a;have b:cM i d=0:=by{simpa using b};have a:cM i d=1:=by{simpa using a};exact bm
def Down (w:zW)(p:Option Nat):Prop:=∀b z o i v g h c,In w p b->aW w b z o i v g h->z=aA c\/o=aA c->c<b
def In.le {c:Nat}(h:In w p x):p=aA c->Down w p->x<=c:=by induction h generalizing c with|here b=>grind| @zero b x z o i v g B f s q=>{intro e j;cases e;cases z with|none=>cases s|some z=>have D:=j b _ _ _ _ _ _ z (.here b) f (aH rfl);have C:=q rfl λA l n r m u a c' hi=>j A l n r m u a c' (.zero f hi);exact bm}| @one b x z o i v g B f s q=>intro e j;cases e;cases o with|none=>cases s|some o=>have D:=j b _ _ _ _ _ _ o (.here b) f (aI rfl);have C:=q rfl λA l n r m u a c' hi=>j A l n r m u a c' (.one f hi);exact bm
def zCi (c:2<=zAH us)(h:d<256):dZ (aV us) [] d=1+(dZ (aV (bJ d 0 us)) [] (d+1)+dZ (aV (bJ d 1 us)) [] (d+1)):=by have hl:=pF (aV us) [] d;rw[cX,cX];have b:cG [] d 0=[]:=rfl;have a:cG [] d 1=[]:=rfl;rw[b,a]at hl;unfold dZ;rw[show 256-d=(256-(d+1))+1 from bm,fS,AF (λe=>by obtain e|e:=e;{rw[cH]at e;omega};.have:=congrArg zAH e;grind[cH]),b,a];exact bm
def dQ.list (h:dQ k w p us d):Down w p->∃T:List Nat,T.Nodup/\zAH T=dZ (aV us) [] d/\∀x,x∈T↔In w p x:=by induction h with|nil d=>exactλ_=>⟨[],.nil,(Nat.le_zero.1 (pE (aV []) [] d (Cw _))).symm,λx=>⟨ji,λh=>A4⟩⟩| @leaf b u d M f=>{refineλ_=>⟨[b],j0,?_,λx=>⟨λh=>by rw[Cy.1 h];exact .here b,λh=> ?_⟩⟩;{have Z:=pE (aV [u]) [] d (je _);have F:eQ (aV [u]) []=1:=rfl;have Y:dZ (aV [u]) [] d=eQ (aV [u]) []+fS (256-d) (aV [u]) [] d:=rfl;have X:zAH (aV [u])=1:=rfl;grind};.cases h with|here=>grind|zero h m=>obtain⟨rfl,_⟩:=bU h f;cases m|one h m=>obtain⟨_,rfl,_⟩:=bU h f;cases m}| @node b us d z o M F O f K N A s=>intro n;have j:Down w z:=λE q r B v D i c' hi=>n E q r B v D i c' (.zero f hi);have l:Down w o:=λE q r B v D i c' hi=>n E q r B v D i c' (.one f hi);let⟨V,H,J,m1⟩:=A j;let⟨U,G,I,m2⟩:=s l;have P:¬In w z b:=λhi=>by{cases z with|none=>cases hi|some c=>have:=hi.le rfl j;have:=n b _ _ _ _ _ _ c (.here b) f (aH rfl);exact bm};have Q:¬In w o b:=λhi=>by{cases o with|none=>cases hi|some c=>have:=hi.le rfl l;have:=n b _ _ _ _ _ _ c (.here b) f (aI rfl);exact bm};refine⟨b::(V++U),Lr.2 ⟨λW=> ?_,NR.2 ⟨H,G,λa R c C e=> ?_⟩⟩,?_,λx=>⟨λg=> ?_,λg=> ?_⟩⟩;{grind};{subst e;exact dQ.om K N ((m1 _).1 R) ((m2 _).1 C)};{rw[zCi F O,Bf,At,J,I];omega};{obtain rfl|g:=Bb.1 g;{exact .here _};.obtain g|g:=Bl.1 g;{exact .zero f ((m1 x).1 g)};.exact .one f ((m2 x).1 g)};.cases g with|here=>grind|zero h m=>obtain⟨rfl,_⟩:=bU h f;grind|one h m=>grind[bU]
def cU.cf {lo hi:Nat}{rows:List (Nat×ByteArray)}(h:cU k w p us d lo hi rows):∀y∈rows,In w p y.1:=by induction h with|done=>intro y a;cases a|leaf _ _ _=>intro y a;rw[Cy.1 a];exact .here _|node j g c e f hb b i=>intro y a;obtain a|a:=Bl.1 a;{obtain a|a:=Bl.1 a;{exact .zero c (b y a)};.exact .one c (i y a)};.rw[Cy.1 a];exact .here _
end
def rF (a:List qN):List (List bE)->Nat
 |[]=>0|us::S=>dZ (aV us) a 0+rF (aV us) S
def cJ (S:List (List bE)):Nat:=rF [] S
theorem qD (v last:List bE):∀(S:List (List bE))(a:List qN),rF a (S++[last]++[v])=rF a (S++[last])+dZ (aV v) (aV last) 0
 |[],a=>by simp[rF]|us::S,a=>by simp only[Fo,rF];have:=qD v last S (aV us);exact bm
def CQ (w:zW)(tp:List (Option Nat))(S:List (List bE)):Prop:=∀i p q us v,tp[i]? =aA p->tp[i+1]? =aA q->S[i]? =aA us->S[i+1]? =aA v->∃N:List Nat,N.Nodup/\zAH N=dZ (aV v) (aV us) 0/\(∀x∈N,In w q x/\∀j r,j<=i->tp[j]? =aA r->¬In w r x)/\∀x,In w q x->In w p x\/x∈N
section
variable {w:zW}{t k:Nat}{tp:List (Option Nat)}{S:List (List bE)}{L:List mE}
def Inv.Vx (s:Inv t w L (heldBy tp))(G:Pos L (heldBy tp))(x:Nat):x∈L.map (·.1)↔∃p∈tp,In w p x:=by constructor;{have E:∃M,∀k∈L,k.1<M:=by{obtain e|e:=Classical.em (L=[]);{simp_all};{let⟨m,_,h⟩:=ZH e;exact⟨m.1+1,ji⟩}};let⟨M,E⟩:=E;have o:∀n x,M<=x+n->x∈L.map (·.1)->∃p∈tp,In w p x:=by{intro n;induction n with|zero=>grind|succ n z=>intro x K F;obtain⟨k,q,rfl⟩:=Dd.1 F;have D:=G k q;obtain H|H:=Lw (refs L k.1);{have hh:0<heldBy tp k.1:=by{omega};have A:∀l:List (Option Nat),0<heldBy l k.1->aA k.1∈l:=by{intro l;induction l with|nil=>intro h;simp[heldBy]at h|cons a l z=>intro h;by_cases e:a=aA k.1;{grind};{simp only[heldBy,dT,AF e]at h;grind}};exact⟨_,A tp hh,.here _⟩};.obtain⟨u,B,e⟩:∃u∈L,u.2.1=aA k.1\/u.2.2=aA k.1:=Dv λN=>by{have:refs L k.1=0:=PM ji;exact bm};have hlt:=(s.ZI u B k.1 e).1;let⟨p,C,r⟩:=z u.1 bm ji;let⟨i,v,g,j,_⟩:=s.cell u B;refine⟨p,C,r.trans ?_⟩;obtain e|e:=e;{rw[e]at j;exact .zero j (.here _)};{rw[e]at j;exact .one j (.here _)}};exact o M x bm};.rintro⟨p,C,r⟩;have o:∀{p x},In w p x->(∀b,p=aA b->b∈L.map (·.1))->x∈L.map (·.1):=by{intro p x h;induction h with|here b=>grind|zero j _ z=>intro h;let⟨k,q,e⟩:=Dd.1 (h _ rfl);let⟨_,_,_,f,_⟩:=s.cell k q;rw[e]at f;let⟨J,_⟩:=bU j f;exact z λc I=>(s.ZI k q c ji).2|one j _ z=>intro h;let⟨k,q,e⟩:=Dd.1 (h _ rfl);let⟨_,_,_,f,_⟩:=s.cell k q;rw[e]at f;let⟨_,J,_⟩:=bU j f;exact z λc I=>(s.ZI k q c ji).2};exact o r (s.rq C)
def MP (E:∀p∈tp,Down w p)(hl:tp.length=S.length)(s:∀(i:Nat) us p,S[i]? =aA us->tp[i]? =aA p->dQ k w p us 0)(u:CQ w tp S):
  ∀n,n<S.length->∃A:List Nat,A.Nodup/\A.length=cJ (S.take (n+1))/\∀x,x∈A↔∃j p,j<=n/\tp[j]? =aA p/\In w p x
 |0,F=>by have b:=Be F;have g:=Be (l:=tp) (i:=0) (by omega);obtain⟨T,t1,t2,t3⟩:=(s 0 _ _ b g).list (by grind);have e:S.take 1=[S[0]]:=by{rw[Hg,b];rfl};refine⟨T,t1,by rw[t2,e];rfl,λx=>(t3 x).trans ⟨λh=>⟨0,_,je _,g,h⟩,λ⟨j,p,m,r,q⟩=> ?_⟩⟩;grind
 |n+1,B=>by
  obtain⟨A,H,a2,a3⟩:=MP E hl s u n (by omega);have b:=Be B;have o:=Be (l:=S) (i:=n) (by omega);have z:=Be (l:=tp) (i:=n+1) (by omega);have g:=Be (l:=tp) (i:=n) (by omega);obtain⟨N,v,J,n3,I⟩:=u n _ _ _ _ g z o b;have G:S.take (n+1)=S.take n++[S[n]]:=by{simp_all};have M:S.take (n+1+1)=S.take n++[S[n]]++[S[n+1]]:=by{rw[Hg,b,G];rfl};refine⟨A++N,NR.2 ⟨H,v,λa D c K e=> ?_⟩,?_,λx=>⟨λf=> ?_,λ⟨j,p,m,r,q⟩=> ?_⟩⟩;{subst e;obtain⟨j,p,m,r,q⟩:=(a3 a).1 D;grind};{unfold cJ at a2⊢;grind[qD,List.length_append]}
  .obtain f|f:=Bl.1 f
   .obtain⟨j,p,m,r,q⟩:=(a3 x).1 f;grind
   grind
  .by_cases C:j<=n
   .exact List.mem_append_left _ ((a3 x).2 (by grind))
   .obtain rfl:j=n+1:=by{omega};grind
def Inv.Qf (f:Inv t w L (heldBy tp))(u:Pos L (heldBy tp))(hl:zAH tp=zAH S)(K:0<zAH S)(C:∀(i:Nat) us p,S[i]? =aA us->tp[i]? =aA p->dQ k w p us 0)(D:CQ w tp S):zAH L=cJ S:=by let⟨A,G,a2,a3⟩:=MP (λp m=>(λb z o i v g J c n B e=>by obtain⟨k,r,rfl⟩:=Dd.1 ((f.Vx u b).2 ⟨p,m,n⟩);let⟨_,_,_,q,_⟩:=f.cell k r;let⟨F,E,_⟩:=bU B q;exact(f.ZI k r c (by rw[<-F,<-E];exact e)).1)) hl C D (zAH S-1) bm;rw[show zAH S-1+1=zAH S from bm,Fq]at a2;have a:∀x,x∈A↔x∈L.map (·.1):=λx=>(a3 x).trans (((f.Vx u x).trans ⟨λ⟨p,m,h⟩=>by let⟨j,s⟩:=NY m;exact⟨j,p,by have:=(Bx.1 s).1;exact bm,s,h⟩,ji⟩).symm);have I:=KY G λx l=>(a x).1 l;have H:=KY f.nd λx l=>(a x).2 l;exact ji
def CQ.go {w':zW}{C:zP}(h:CQ w tp S)(hk:vJ C w w')(c:CS w C)(e:∀p∈tp,∀b,p=aA b->C b):CQ w' tp S:=λi p q us v l g z u=>by let⟨N,o,m,n3,n⟩:=h i p q us v l g z u;have m1:=e p (Ek l);have m2:=e q (Ek g);exact⟨N,o,m,λx a=>⟨(n3 x a).1.go hk c m2,λj r s f hi=>(n3 x a).2 j r s f (hi.back hk c (e r (Ek f)))⟩,λx a=>(n x (a.back hk c m2)).imp (·.go hk c m1) id⟩
end
def RF (R:zR)(e:Ending)(w:zW):Prop:=(∃x,e=aM x/\R x w)\/∃c,e= .panicked c/\mJ c w
def RF.of {R x w}(h:R x w):RF R (aM x) w:=aH ⟨x,rfl,h⟩
def RF.told {R c w}(h:mJ c w):RF R (.panicked c) w:=aI ⟨c,rfl,h⟩
def iH {B w w'}(h:Below B w w'):Below B w w'.drew:=⟨h.os,h.tape,h.output,h.size,h.block⟩
def fJ {B w w'}(h:Below B w.drew w'):Below B w w':=⟨h.os,h.tape,h.output,h.size,h.block⟩
def iP (w:zW)(x:Nat):Prop:=∃z o i v g h,aW w x z o i v g h
def tC (C:zP)(x:zY):Prop:=∃p,x=ptr p/\∀b,p=aA b->C b
def mG (w:zW):Prop:=∀b,b<=zq.globals.size->¬Cq w.heap[b]?/\(¬iP w b/\(b=0->w.frozen? (0,0)=aG))/\((∃c t fr,w.heap[b]? =aA (aJ c t fr)/\(∀D:zP,(∀x,x<=zq.globals.size->D x)->bB Qw.Al (cO D) c c)/\(∀(i:Nat) m,c[i]?≠aA (aC aQ m))/\fr.2<=c.size)\/∃o,w.heap[b]? =aA o/\NG o)
structure dA (F:zP)(w w':zW):Prop where
 os:w'.os=w.os
 tape:w'.tape=w.tape
 output:w'.output=w.output
 size:w.heap.size<=w'.heap.size
 block:∀k,k<w.heap.size->¬F k->w'.heap[k]? =w.heap[k]?
section
variable {F F':zP}{w w1 w':zW}
def dA.refl (F:zP)(w:zW):dA F w w:=⟨rfl,rfl,rfl,je _,λ_ _ _=>rfl⟩
def dA.of {B}(h:Below B w w')(c:w.heap.size<=B):dA F w w':=⟨h.os,h.tape,h.output,h.size,λk a _=>h.block k bm⟩
def dA.trans (h:dA F w w1)(a:dA F w1 w'):dA F w w':=⟨a.os.trans h.os,a.tape.trans h.tape,a.output.trans h.output,Az h.size a.size,λk c hF=>(a.block k (Ao c h.size) hF).trans (h.block k c hF)⟩
def dA.then (h:dA F w w1)(a:dA F' w1 w')(hF:∀x,F' x->x<w.heap.size->F x):dA F w w':=⟨a.os.trans h.os,a.tape.trans h.tape,a.output.trans h.output,Az h.size a.size,λk c d=>(a.block k (Ao c h.size) ji).trans (h.block k c d)⟩
def dA.mono (h:dA F w w')(hF:∀x,F x->F' x):dA F' w w':=⟨h.os,h.tape,h.output,h.size,λk a c=>h.block k a ji⟩
def dA.grown {x}(h:w.grownBy w' (aA x))(c:F x):dA F w w':=⟨h.os,h.tape,h.output,h.size,λk a d=>h.block k a ji⟩
end
def fK (S:List (List bE)):List bE:=S.getLast?.getD []
structure dH (w:zW)(t k R b cap:Nat)(C:zP)(S:List (List bE)):Prop where
 k1:1<=k
 k2:k<=32
 iJ:mG w
 jJ:iO w
 GJ:zq.globals.size<t
 Bw:zq.globals.size<b
 at':cS w t k (aC aD R) (aL ⟨(dg k [0]).toArray⟩) (aK b S.length cap) (aC aD (fK S).length) (cJ S:Nat)
 wj:cJ S<=R/\R<=1000000
 cs:CS w C
 row:∃(cur:zA)(tp:List (Option Nat)),w.heap[b]? =aA (aJ cur 264 (0,0))/\S.length<=cap/\cap<=maxLen/\cur.size=cap/\(∀x∈cur.toList,tC C x)/\(∀(i:Nat) us,S[i]? =aA us->∃p,cur[i]? =aA (ptr p)/\dQ k w p us 0)/\cur.toList.take S.length=tp.map ptr/\wI t w C tp aB/\CQ w tp S
 st:∀us∈S,CP us/\us.length<=2000
 len:S.length<=1000
 one:0<S.length
section
variable {w w':zW}{t k R b cap:Nat}{S:List (List bE)}{C:zP}
theorem iP.lt {x:Nat}(h:iP w x):x<w.heap.size:=by let⟨_,_,_,_,_,_,h⟩:=h;exact h.lt
theorem aW.same {b z o i v g hs}(h:aW w b z o i v g hs)(hk:w'.heap[b]? =w.heap[b]?):aW w' b z o i v g hs:=⟨by rw[hk];exact h.at'⟩
theorem iP.same {x}(h:iP w x)(hk:w'.heap[x]? =w.heap[x]?):iP w' x:=by let⟨z,o,i,v,g,a,h⟩:=h;exact⟨z,o,i,v,g,a,h.same hk⟩
theorem mG.kept (h:mG w)(hk:∀x,x<=zq.globals.size->w'.heap[x]? =w.heap[x]?):mG w':=λx a=>by rw[hk x a];exact⟨(h x a).1,⟨λc=>(h x a).2.1.1 (c.same (hk x a).symm),λe=>(jQ ji).2.trans ((h x a).2.1.2 e)⟩,(h x a).2.2⟩
def mG.sound (h:mG w)(a:iO w):yB w:=⟨a.jK 0 (aC aP 1779033703) c9,(h 0 (Cw _)).2.1.2 rfl⟩
theorem CS.cell (h:CS w C){x}(a:C x):iP w x:=by let⟨z,o,i,v,g,c,d,_⟩:=h x a;exact⟨z,o,i,v,g,c,d⟩
theorem CS.down (h:CS w C)(b)(z o)(i v g)(hs)(d:C b)(n:aW w b z o i v g hs)(c)(e:z=aA c\/o=aA c):C c:=by let⟨f,l,m,j,r,a,q,_,p⟩:=h b d;grind[bU]
theorem CS.kept (h:CS w C)(hk:∀x,C x->w'.heap[x]? =w.heap[x]?):CS w' C:=λx a=>by let⟨z,o,i,v,g,e,l,d,j⟩:=h x a;exact⟨z,o,i,v,g,e,l.same (hk x a),(by have f:=(hk x a);let⟨c,d⟩:=d;exact⟨c,ji⟩),j⟩
theorem dQ.kept {p:Option Nat}{us:List bE}{d:Nat}(h:dQ k w p us d)(j:CS w C)(c:∀b,p=aA b->C b)(hk:∀x,C x->w'.heap[x]? =w.heap[x]?):dQ k w' p us d:=h.stay (G:=C) j.down (λb z o i v g a f e=>⟨a,e.same (hk b f)⟩) c
theorem iO.kept (h:iO w)(hs:w.heap.size<=w'.heap.size)(hk:∀x,x<=zq.globals.size->w'.heap[x]? =w.heap[x]?):iO w':=by let⟨e,d⟩:=MA;refine⟨⟨Ao h.nY.1 hs,λj c=> ?_⟩,Ao h.lt hs,λj v a=> ?_⟩;{rw[World.cell?_of_block (hk _ d)];exact h.nY.2 j c};.rw[World.cell?_of_block (hk _ e)];exact h.jK j v a
theorem dH.tat (h:dH w t k R b cap C S):∃cs,w.heap[t]? =aA (aJ cs 168 (0,0)):=⟨_,h.at'⟩
theorem dH.bat (h:dH w t k R b cap C S):∃cs,w.heap[b]? =aA (aJ cs 264 (0,0)):=by grind[row]
theorem dH.jg (h:dH w t k R b cap C S):t<w.heap.size:=by grind[tat]
theorem dH.blt (h:dH w t k R b cap C S):b<w.heap.size:=by grind[bat]
def dH.tb (h:dH w t k R b cap C S):t≠b:=by grind[bat,tat]
theorem dm {p q:Option Nat}(h:ptr p=ptr q):p=q:=ji
def KQ {cur:zA}(a:∀x∈cur.toList,tC C x){i:Nat}{p:Option Nat}(h:cur[i]? =aA (ptr p)):∀b,p=aA b->C b:=λb f=>by obtain⟨c,e,d⟩:=a _ (by rw[Nz];exact Ih h);grind
def oA {cur:zA}{c:List (Option Nat)}{n:Nat}(a:∀x∈cur.toList,tC C x)(d:cur.toList.take n=c.map ptr):∀p∈c,∀b,p=aA b->C b:=λp g=>by have h:ptr p∈cur.toList.take n:=by{grind};let⟨f,e,i⟩:=a _ (List.mem_of_mem_take h);exact ji
def vJ.of (hk:∀x,C x->w'.heap[x]? =w.heap[x]?):vJ C w w':=λb z o i v g h c a=>⟨g,h,a.same (hk b c)⟩
theorem dH.kept (h:dH w t k R b cap C S)(hs:w.heap.size<=w'.heap.size)(hk:∀x,x<=zq.globals.size\/x=t\/x=b\/C x->w'.heap[x]? =w.heap[x]?):dH w' t k R b cap C S:=by let⟨c,j,c1,c2,c3,c4,c6,n,g,m,d⟩:=h.row;have a:∀x,C x->w'.heap[x]? =w.heap[x]? :=by{grind};have e:=hk t bm;refine⟨h.k1,h.k2,h.iJ.kept ji,h.jJ.kept hs ji,h.GJ,h.Bw,e.trans h.at',h.wj,h.cs.kept a,⟨c,j,ji,c2,c3,c4,c6,λi us hi=> ?_,g,m.kept a (World.cell?_of_block e),d.go (.of a) h.cs (oA c6 g)⟩,h.st,h.len,h.one⟩;let⟨p,f,l⟩:=n i us hi;exact⟨p,f,l.kept h.cs (KQ c6 f) a⟩
theorem dH.below {B:Nat}(h:dH w t k R b cap C S)(c:Below B w w')(d:w.heap.size<=B):dH w' t k R b cap C S:=h.kept c.size λx a=>c.block x (Ao (by obtain a|rfl|rfl|a:=a;{have:=h.GJ;have:=h.jg;omega};{exact h.jg};{exact h.blt};.exact(h.cs.cell a).lt) d)
def iP.ne {x y}(h:iP w x){cs ty fr}(c:w.heap[y]? =aA (aJ cs ty fr))(a:ty≠272):x≠y:=λe=>by subst e;let⟨_,_,_,_,_,_,h⟩:=h;grind[aW.at']
def dH.other {x:Nat}{cs:zA}{ty:zD}{fr:Nat×Nat}(h:dH w t k R b cap C S)(d:w.grownBy w' (aA x))(f:w.heap[x]? =aA (aJ cs ty fr))(c:ty≠272/\ty≠168/\ty≠264)(hl:zq.globals.size<x):dH w' t k R b cap C S:=h.kept d.size λy a=>by obtain a|rfl|rfl|a:=a;{grind[World.grownBy.block]};{grind[jg,tat,World.grownBy.block]};{grind[blt,World.grownBy.block,bat]};{refine d.block _ (h.cs.cell a).lt (λe=> ?_);injection e with e;exact(h.cs.cell a).ne f c.1 e}
def RM {D a}(h:D a.block):bW (cO D) a a:=⟨⟨rfl,h⟩,rfl,rfl⟩
def zAq {D va}(h:∀a,va=aA a->D a.block)(n c):bM Qw.Al (cO D) (aK va n c) (aK va n c):=by cases va with|none=>exact .slice .none n c|some a=>exact .slice (.some (RM (h a rfl))) n c
def KP {D p}(h:∀b,p=aA b->D b):bM Qw.Al (cO D) (ptr p) (ptr p):=by cases p with|none=>exact .pointer .none|some b=>exact .pointer (.some (RM (h b rfl)))
def RX {D cs}(h:∀x∈cs.toList,bM Qw.Al (cO D) x x):bB Qw.Al (cO D) cs cs:=⟨rfl,by grind⟩
def Pw (t b:Nat)(C:zP):zP:=λx=>x<=zq.globals.size\/x=t\/x=b\/C x
def rb {n:Nat}{x1 x4 c:Int}{cur:zA}(k1:1<=k)(k2:k<=32)(B:mG w)(H:iO w)(GJ:zq.globals.size<t)(Bw:zq.globals.size<b)(r:cS w t k (aC aD x1) (aL ⟨zAL (dg k [0])⟩) (aK b n cap) (aC aD x4) c)(u:w.heap[b]? =aA (aJ cur 264 (0,0)))(G:CS w C)(q:∀x∈cur.toList,tC C x):vI k t (Pw t b C) w:=by have A:∀x,x<=zq.globals.size->Pw t b C x:=λx h=>aH h;have hlt:=r.lt;refine⟨k1,k2,⟨⟨λd l=>by rw[d.1,l.1],λd _=>d.1,λx h=>⟨rfl,A x h⟩⟩,bm,λx h=> ?_⟩,λx h=> ?_,aI (aH rfl),?_,H,λx z o i v g s h D=> ?_⟩;{by_cases sS:x<=zq.globals.size;{obtain⟨c,ty,fr,d,l,I,L⟩|⟨o,d,l⟩:=(B x sS).2.2;all_goals grind};.left;obtain h|rfl|rfl|h:=h;{exact bm};{refine⟨_,_,_,r,RX λy f=> ?_,λi m hi=> ?_,Cw _⟩;{simp only[Bb,Bq,Bm]at f;obtain rfl|rfl|rfl|rfl|rfl|rfl:=f;{exact .int _ _};{exact .int _ _};{exact .string _};{exact zAq (λa E=>by injection E with E;subst E;exact aI ji) _ _};{exact .int _ _};.exact .int _ _};grind[Array.mem_of_getElem?]};{refine⟨_,_,_,u,RX λy f=> ?_,λi m hi=> ?_,Cw _⟩;{obtain⟨p,rfl,K⟩:=q y f;exact KP λb u=>aI ji};.obtain⟨p,e,_⟩:=q _ (by rw[Nz];exact Ih hi);exact ji};.obtain⟨z,o,i,v,g,s,d,⟨J,l⟩,I⟩:=G x h;let⟨fr,d⟩:=d.at';rw[l]at d;cases d;refine⟨_,_,_,l,RX λy f=> ?_,λj m hi=> ?_,Cw _⟩;{simp only[jE,Bb,Bq,Bm]at f;obtain rfl|rfl|rfl|rfl|rfl|rfl:=f;{exact KP λb u=>aI ji};{exact KP λb u=>aI ji};{exact .string _};{exact .string _};{exact .string _};.exact .int _ _};.have:=Ih hi;rw[<-Nz]at this;simp only[jE,Bb,Bq,Bm]at this;exact ji};{rintro⟨y,f⟩;by_cases sS:x<=zq.globals.size;{exact(B x sS).1 ⟨y,f⟩};.obtain h|rfl|rfl|h:=h;{exact bm};{unfold cS at r;exact ji};{exact ji};.obtain⟨z,o,i,v,g,s,_,⟨J,l⟩,_⟩:=G x h;exact ji};{exact⟨hlt,(bG r 0).trans rfl,(bG r 2).trans rfl⟩};.by_cases sS:x<=zq.globals.size;{exact absurd ⟨z,o,i,v,g,s,D⟩ (B x sS).2.1.1};.obtain h|rfl|rfl|h:=h;{exact bm};{exact absurd rfl (r.ne D)};{exact absurd rfl (iP.ne ⟨z,o,i,v,g,s,D⟩ u j2)};.obtain⟨z,o,i,v,g,s,_,l,_⟩:=G x h;exact l
end
section
variable {w w1 w':zW}{t b k d lo hi:Nat}{x0 x1 x2 x3 x4:zY}{c:Int}{z o p:Option Nat}{i v g:zB}{hs:Int}{C:zP}{us:List bE}{rows:List (Nat×ByteArray)}
def mC.hl {D all n}(l:1<=k)(hk:k<=32)(h:mC k w D us all n b)(a:Hl t w w'):mC k w' D us all n b:=by let⟨z,o,i,v,hs,j⟩:=h.new;let⟨e,f⟩:=a.cell _ _ _ _ _ _ _ j;let⟨u,lo,hi,r,t1,t2⟩:=h.tree;exact⟨h.deep,h.Zy,ji,u,lo,hi,r,t1.hl l hk a,t2⟩
theorem Hl.other (j:Hl t w w')(f:cS w t x0 x1 x2 x3 x4 c){y:Nat}{cs ty fr}(h:w.heap[y]? =aA (aJ cs ty fr))(l:ty≠272)(m:ty≠168):w'.heap[y]? =w.heap[y]? :=by refine j.block y ji (λe=> ?_) λz o i v g hs a=>iP.ne ⟨z,o,i,v,g,hs,a⟩ h l rfl;subst e;unfold cS at f;exact ji
def tN.hl {D ch}(r:1<=k)(hk:k<=32)(h:tN k t D us ch w)(f:Hl t w w')(B:cS w t x0 x1 x2 x3 x4 c):tN k t D us ch w':=by let⟨q,y,cp,all,e,x,u,s,g4,g5,g6⟩:=h;have j:∀a,q=aA a->w'.heap[a.block]? =w.heap[a.block]? :=by{grind[Hl.other]};refine⟨q,y,cp,all,e,x,u,s,g4.kept f.size j,λa A=> ?_,λb m=> ?_⟩;{exact ji};.obtain⟨n,l⟩:=g6 b m;exact⟨n,l.hl r hk f⟩
def Iy {x:zY}(a:w.cell? (0,0)=aA x)(f:aW (dL w) b z o i v g hs):b≠0:=λe=>by subst e;let⟨cs,ty,fr,l,j⟩:=cell0 a;let⟨hlt,_⟩:=Ax.1 j;have h:=f.c0;unfold World.cell? dL at h;dsimp only at h;rw[kZ _ _ l]at h;exact ji
def Hl.un (l:Fl w)(x:t≠0)(a:Hl t w w'):Hl t (dL w) (dL w'):=by have A:w'.heap[0]? =w.heap[0]? :=a.block 0 (lZ l) (Dp x) λz o i v g hs f=>by{have j:=f.c0;rw[show w.cell? (0,0)=_ from l]at j;grind};have m:(dL w').heap[0]? =(dL w).heap[0]? :=by{let⟨cs,ty,fr,u,_⟩:=cell0 l;unfold dL;rw[kZ _ _ u,kZ _ _ (A.trans u)]};refine⟨a.os,a.tape,a.output,?_,λb h r y=> ?_,λb z o i v g hs f=> ?_,λb h=> ?_⟩;{unfold dL;rw[mM,mM];exact a.size};{by_cases e:b=0;{exact ji};.unfold dL at h⊢;rw[mM]at h;rw[kK _ _ e,kK _ _ e];exact a.block b h r λz o i v g hs f=>y z o i v g hs ⟨by unfold dL;rw[kK _ _ e];exact f.at'⟩};{have e:=Iy l f;let⟨q,j⟩:=a.cell b z o i v g hs ⟨by rw[<-kK w _ e];exact f.at'⟩;exact⟨q,⟨by unfold dL;rw[kK _ _ e];exact j.at'⟩⟩};.by_cases e:b=0;{subst e;let⟨cs,h⟩:=h;exact⟨cs,m.trans h⟩};.obtain⟨cs,h⟩:=h;unfold dL at h⊢;rw[kK _ _ e]at h;let⟨s,j⟩:=a.thaw b ⟨cs,h⟩;exact⟨s,by rw[kK _ _ e];exact j⟩
def cS.un (h:t≠0):cS (dL w) t x0 x1 x2 x3 x4 c↔cS w t x0 x1 x2 x3 x4 c:=by unfold cS dL;rw[kK _ _ h]
def tN.settle {D ch}(h:tN k t D us ch w):Go.settle (.panicking ch)= .panicking ch:=by obtain⟨q,a,cp,all,rfl,_⟩:=h;rfl
end
structure jR (k t b cap n:Nat)(C:zP)(cur:zA)(x1 x4 c:Int)(w:zW):Prop where
 iJ:mG w
 jJ:iO w
 tr:cS w t k (aC aD x1) (aL ⟨(dg k [0]).toArray⟩) (aK b n cap) (aC aD x4) c
 eX:w.heap[b]? =aA (aJ cur 264 (0,0))
 cs:CS w C
section
variable {w w':zW}{t b k cap n:Nat}{x1 x4 c c':Int}{C C':zP}{cur:zA}{all:List (Nat×ByteArray)}
def mG.hl (h:mG w)(f:Hl t w w')(j:zq.globals.size<t)(l:t<w.heap.size):mG w':=h.kept λx a=>f.block x bm bm λz o i v g hs e=>(h x a).2.1.1 ⟨z,o,i,v,g,hs,e⟩
def mG.noCell (h:mG w){x:Nat}(a:x<=zq.globals.size):¬iP w x:=(h x a).2.1.1
def jR.sound (h:jR k t b cap n C cur x1 x4 c w):yB w:=h.iJ.sound h.jJ
def jR.fg (h:jR k t b cap n C cur x1 x4 c w)(a:zq.globals.size<t):Fg t 1779033703 w:=⟨by omega,h.sound.cell⟩
def jR.hl (h:jR k t b cap n C cur x1 x4 c w)(a:Hl t w w')(f:zq.globals.size<t)(l:cS w' t k (aC aD x1) (aL ⟨zAL (dg k [0])⟩) (aK b n cap) (aC aD x4) c')(m:CS w' C'):jR k t b cap n C' cur x1 x4 c' w':= ⟨h.iJ.hl a f h.tr.lt,h.jJ.kept a.size λx e=>a.block x (by have:=h.tr.lt;exact bm) bm λz o i v g hs j=>h.iJ.noCell e ⟨z,o,i,v,g,hs,j⟩,l,(a.other h.tr h.eX j2 j2).trans h.eX,m⟩
theorem jR.below {B:Nat}(h:jR k t b cap n C cur x1 x4 c w)(a:Below B w w')(e:w.heap.size<=B)(f:zq.globals.size<t):jR k t b cap n C cur x1 x4 c w':=h.hl (.below a e) f (h.tr.below a e) (h.cs.hl (t:=t) (.below a e))
def CS.Xy (h:CS w C)(e:ET all w w'):CS w' C:=λx a=>by let⟨z,o,i,v,g,hs,l,j,f⟩:=h x a;grind[ET.thaw,ET.cell]
def jR.Xy (h:jR k t b cap n C cur x1 x4 c w)(f:ET all w w')(q:zq.globals.size<t)(a:∀x∈all,iP w x.1):jR k t b cap n C cur x1 x4 c w':=by have l:∀x,x<=zq.globals.size->w'.heap[x]? =w.heap[x]? :=λx m=>f.block x (by have:=h.tr.lt;exact bm) λy j e=>h.iJ.noCell m ji;exact⟨h.iJ.kept l,h.jJ.kept f.size l,(f.block t h.tr.lt λy j e=>(a y j).ne h.tr j2 e).trans h.tr,(f.block b (Ax.1 h.eX).1 λy j e=>(a y j).ne h.eX j2 e).trans h.eX,h.cs.Xy f⟩
def jR.dom (h:jR k t b cap n C cur x1 x4 c w)(k1:1<=k)(k2:k<=32)(GJ:zq.globals.size<t)(Bw:zq.globals.size<b)(a:∀x∈cur.toList,tC C x):vI k t (Pw t b C) w:=rb k1 k2 h.iJ h.jJ GJ Bw h.tr h.eX h.cs a
end
open Go Go.RowKit
def tP (S:zY->Prop)(w:zW)(v:zY):Prop:=∀g,v.ownBlock=aA g->∀cs e fr,w.heap[g]? =aA (aJ cs e fr)->∀x∈cs.toList,S x
def tP.of {S w v g cs e fr}(d:v.ownBlock=aA g)(i:w.heap[g]? =aA (aJ cs e fr))(h:∀x∈cs.toList,S x):tP S w v:=λk j c l f b=>ji
theorem tP.kept {S w w' v}(h:tP S w v)(hk:∀g,v.ownBlock=aA g->w'.heap[g]? =w.heap[g]?):tP S w' v:=λg b cs e fr c=>h g b cs e fr ji
def rH {S:zY->Prop}{z}(h:∀x∈z.toList,S x)(n):∀x∈(Builtin.zeroCells z n).toList,S x:=by intro x b;simp only[Builtin.zeroCells,Array.toList_map,Array.toList_range,Dd,JH]at b;grind[Nat.mod_lt]
section
variable {P:zZ}(w:zW)
def uI (S:zY->Prop)(base)(t ty e)(i:TypeInfo)(z)(size bytes)(L:P.underlying t=aA (.slice e))(hi:P.info? e=aA i)(hz:i.zero=aA z)
  (r:i.size=size) (O:i.bytes=bytes) (I:z.cells.size=size) (V:0<size) (J:∀x∈z.cells.toList,S x)
  (v) (n) (xs) (h:w.ownsRow base e size v n xs) (B:tP S w v)
  (a) (m c) (news) (hl:news.length=m*size) (f:∀j u,news[j]? =aA u->w.cell? (a.add j)=aA u) (Y:∀u∈news,u.oneCell'=aF) (X:∀u∈news,S u)
  (hm:0<m) (T:n+m<=maxLen) (q:(n+m)*bytes<=140737488355328) (y:base<=w.heap.size):
  ∃g cap D,(Builtin.append_ #[t,t] ty #[v,aK (aA a) m c]).run P w= .ok (aK (aA ⟨g,0,aB⟩) (n+m) cap) D/\D.ownsRow base e size (aK (aA ⟨g,0,aB⟩) (n+m) cap) (n+m) (xs++news)/\w.grownBy D v.ownBlock/\
   (v.ownBlock=aA g\/g=w.heap.size)/\tP S D (aK (aA ⟨g,0,aB⟩) (n+m) cap):=by subst r;subst O;have F:n+m<=9223372036854775807:=by{assumption};have hlen:zAH (xs++news)=(n+m)*i.size:=by{rw[At,h.1,hl,Ny]};have U:∀x∈xs,S x:=by{intro x b;obtain⟨_,h0⟩|⟨g,cap,cur,rfl,_,A,_,_,_,l⟩:=h.2;{grind};{rw[<-l]at b;exact B g rfl cur e (0,0) A x ji}};have grown:∀(old:Nat),old<n+m->∀(row:Option Nat),(zAK w.drew (aJ (zAL xs++zAL news++Builtin.zeroCells z.cells (grownCap w (n+m) old e-(n+m))) e)).ownsRow base e i.size (aK w (n+m) (grownCap w (n+m) old e)) (n+m) (xs++news)/\ w.grownBy (zAK w.drew (aJ (zAL xs++zAL news++Builtin.zeroCells z.cells (grownCap w (n+m) old e-(n+m))) e)) row/\ tP S (zAK w.drew (aJ (zAL xs++zAL news++Builtin.zeroCells z.cells (grownCap w (n+m) old e-(n+m))) e)) (aK w (n+m) (grownCap w (n+m) old e)):=by{intro old Z row;have M:=grownCap_ge w (n+m) old e;have s:=grownCap_le_maxLen w (n+m) old e T;refine⟨⟨hlen,aI ⟨w.heap.size,_,_,rfl,y,Ei w.drew _,M,s,?_,?_⟩⟩,⟨rfl,rfl,rfl,j0,λk H _=>(by first|exact heap_alloc_old w.drew _ k H|exact heap_alloc_old w.drew _ H)⟩,tP.of rfl (Ei w.drew _) ?_⟩;{simp only[Array.size_append,Dq,size_zeroCells,I,h.1,hl,<-Ny];exact ji};{exact ji};.intro x b;simp only[Array.toList_append,Bl]at b;obtain(b|b)|b:=b;{exact ji};{exact ji};.exact rH J _ x b};obtain⟨rfl,rfl⟩|⟨g,cap,cur,rfl,R,A,W,s,N,l⟩:=h.2;{have b:=Hr (by simpa using h.1);subst b;have G:=run_append_nil w t ty e i z L hi hz a m c news hl f bm bm ji;have p:=grown 0 bm (Value.ownBlock (aK aB 0 0));exact ji};.by_cases d:n+m<=cap;{have C:n*i.size+zAH news<=cur.size:=by{rw[hl,N,<-Ny];exact Nat.mul_le_mul_right _ d};have G:=run_append_room w t ty e i L hi g n cap cur A a m c news hl f Y d C;refine⟨_,_,_,G,⟨hlen,aI ⟨g,cap,_,rfl,R,setRow_heap w g cur _ e _ A,d,s,?_,?_⟩⟩,⟨rfl,rfl,rfl,j0,λk _ H=>setRow_other w g k _ (λe=>H (by simp[Value.ownBlock,e]))⟩,aH rfl,tP.of rfl (setRow_heap w g cur _ e _ A) ?_⟩;{grind};{grind};.intro x b;simp only[Bl]at b;obtain(b|b)|b:=b;{exact ji};{exact ji};.exact B g rfl cur e (0,0) A x ji};.have holds:=h.cells rfl;have G:=run_append_grow w t ty e i z L hi hz g n cap xs h.1 holds a m c news hl f bm bm (growslice_fits bm q);have p:=grown cap bm (Value.ownBlock (aK g n cap));exact⟨_,_,_,G,p.1,p.2.1,aI rfl,p.2.2⟩
def SV (k l ty elem:zD)(i:TypeInfo)(g o d c:Nat)(a:Addr)(s b:Nat)(cur:zA)(t:zD)(cs:zV) (m:P.underlying k=aA (.slice elem)) (hi:P.info? elem=aA i) (p:w.heap[g]? =aA (aJ cur t (0,0))) (n:zAH cs=aNr s d*i.size) (h:∀j v,cs[j]? =aA v->w.cell? (a.add j)=aA v) (f:o+zAH cs<=cur.size) (q:∀v∈cs,v.oneCell'=aF): (Builtin.copy_ #[k,l] ty #[aK (g,o) d c,aK (aA a) s b]).run P w= .ok (goInt (aNr s d)) (w.setRow g (zAL (cur.toList.take o++cs++cur.toList.drop (o+zAH cs)))):=by have hl:=run_loadCells_list (P:=P) w a cs h;have e:=run_storeCells_at P g o t cs 0 cur w p j5 q;simp[Builtin.copy_,run_underlying m,Builtin.lenOf,Builtin.firstCells,sizeOf,typeInfo,hi,<-n,hl,e]
def zFs (s ty elem)(i:TypeInfo)(z)(g o n cap)(cur)(t) (c:P.underlying s=aA (.slice elem)) (hi:P.info? elem=aA i) (hz:i.zero=aA z) (f:0<n) (d:w.heap[g]? =aA (aJ cur t (0,0))) (b:o+n*z.cells.size<=cur.size) (e:∀v∈z.cells.toList,v.oneCell'=aF): (Builtin.clear_ #[s] ty #[aK (g,o) n cap]).run P w= .ok (.tuple #[]) (w.setRow g (zAL (cur.toList.take o++zAM (Builtin.zeroCells z.cells n)++cur.toList.drop (o+n*z.cells.size)))):=by have h:=run_storeCells_at P g o t (zAM (Builtin.zeroCells z.cells n)) 0 cur w d (by grind[size_zeroCells]) (rH e n);obtain⟨m,rfl⟩:∃m,n=m+1:=by{simp_all};simp[Builtin.clear_,run_underlying c,zeroValue,typeInfo,hi,hz,h,size_zeroCells]
end
section
variable {P:zZ}{w:zW}{ops:zQ}{rest:List Oper}{o:Oper}{a:Act}{K:Act->zW->Prop}{Q:zX}{E:Prop}
def wS (s x)(t b)(e:o.op= .call ⟨.builtin .append,#[s,x],#[t,b]⟩)(v u)(hs:a.eval s=v)(c:a.eval x=u){v' w'} (d:(Builtin.append_ #[t,b] o.type #[v,u]).run P w= .ok v' w') (h:K (a.put o.dst v') w'):o.wp P a w K Q:=by exact z7
def VG (s x)(t b)(e:o.op= .call ⟨.builtin .copy,#[s,x],#[t,b]⟩)(v u)(hs:a.eval s=v)(c:a.eval x=u){v' w'} (d:(Builtin.copy_ #[t,b] o.type #[v,u]).run P w= .ok v' w') (h:K (a.put o.dst v') w'):o.wp P a w K Q:=by exact z7
def yK (c:o.guard=aB)(s x:Operand)(t b:zD)(f:o.op= .call ⟨.builtin .append,#[s,x],#[t,b]⟩)(v u:zY)(hs:a.eval s=v)(d:a.eval x=u){v':zY}{w':zW} (e:(Builtin.append_ #[t,b] o.type #[v,u]).run P w= .ok v' w') (h:wpList P ops Q rest (a.put o.dst v') w'):wpList P ops Q (o::rest) a w:=wpList_plain c λ_ g=>wS s x t b f v u hs d e (g _ _ h)
def zCd (c:o.guard=aB)(s x:Operand)(t b:zD)(f:o.op= .call ⟨.builtin .copy,#[s,x],#[t,b]⟩)(v u:zY)(hs:a.eval s=v)(d:a.eval x=u){v':zY}{w':zW} (e:(Builtin.copy_ #[t,b] o.type #[v,u]).run P w= .ok v' w') (h:wpList P ops Q rest (a.put o.dst v') w'):wpList P ops Q (o::rest) a w:=wpList_plain c λ_ g=>VG s x t b f v u hs d e (g _ _ h)
def kH (c:o.guard=aB)(s x)(t b)(g:o.op= .call ⟨.builtin .append,#[s,x],#[t,b]⟩)(v u)(hs:a.eval s=v)(d:a.eval x=u){v' w'} (f:(Builtin.append_ #[t,b] o.type #[v,u]).run P w= .ok v' w') (h:K (a.put o.dst v') w'):if Region.wanted o (yielded ops a.tmps)=aF then Oper.wp P o a w K Q else E:=by have e:Region.wanted o (yielded ops a.tmps)=aF:=by{simp[Region.wanted,c]};rw[AE e];exact wS s x t b g v u hs d f h
end
def over (c:zV)(o:Nat)(a:zV):zV:=c.take o++a++c.drop (o+zAH a)
theorem lA {c o news}(h:o+news.length<=c.length):(over c o news).length=c.length:=by unfold over;exact ji
def Uq {c o news}(h:o+news.length<=c.length){m}(a:m<=o):(over c o news).take m=c.take m:=by unfold over;exact ji
def aMv {c o news}(h:o+news.length<=c.length){m}(a:m=o+news.length):(over c o news).take m=c.take o++news:=by unfold over;rw[List.take_append_of_le_length ji,KC ji]
def YE {c o news x}(h:x∈over c o news):x∈c\/x∈news:=by obtain h|h:=Bl.1 h;all_goals grind
def YF {c xs zs p q m}(d:c.take m=xs)(f:p+q<=m)(i:m<=c.length)(hz:zs.length=q):
  (over (over c p (xs.drop (p+q))) (m-q) zs).take (m-q)=xs.take p++xs.drop (p+q):=by have a:zAH xs=m:=by{grind};have h:p+zAH (xs.drop (p+q))<=zAH c:=by{grind};have b:m-q+zAH zs<=zAH (over c p (xs.drop (p+q))):=by{rw[lA h];omega};rw[Uq b (je _),aMv h ji];exact ji
def fG (S:zY->Prop)(w:zW)(base:Nat)(e:zD)(size:Nat)(v:zY)(n:Nat)(xs:zV):Prop:=w.ownsRow base e size v n xs/\tP S w v
section
variable {S:zY->Prop}{w w':zW}{base:Nat}{e:zD}{size:Nat}{v:zY}{n g cap:Nat}{xs:zV}
theorem fG.kept (h:fG S w base e size v n xs)(hk:∀g,v.ownBlock=aA g->w'.heap[g]? =w.heap[g]?):fG S w' base e size v n xs:=by refine⟨?_,h.2.kept hk⟩;let⟨⟨b,a⟩,_⟩:=h;refine⟨b,?_⟩;obtain a|⟨g,cap,cur,rfl,hb,hh,r⟩:=a;{exact ji};.exact td
theorem fG.lt (h:fG S w base e size v n xs):∀k,v.ownBlock=aA k->base<=k/\k<w.heap.size:=World.ownsRow.lt h.1
theorem fG.below {B:Nat}(h:fG S w base e size v n xs)(b:Below B w w')(c:w.heap.size<=B):fG S w' base e size v n xs:=h.kept λg a=>b.block g (Ao (h.lt g a).2 c)
def fG.alloc (h:fG S w base e size v n xs)(o):fG S (zAK w o) base e size v n xs:=h.kept λg a=>by first|exact heap_alloc_old w o g (h.lt g a).2|exact heap_alloc_old w o (h.lt g a).2
theorem fG.row (h:fG S w base e size (aK g n cap) n xs):
  ∃c:zA,w.heap[g]? =aA (aJ c e (0,0))/\base<=g/\n<=cap/\cap<=maxLen/\c.size=cap*size/\c.toList.take (n*size)=xs/\∀x∈c.toList,S x:=by
 obtain⟨e,_⟩|⟨k,b,c,e,hb,hh,h1,i,f,d⟩:=h.1.2
 .cases e
 .injection e with a _ j;iterate 2 (injection a with a)
  subst a j;exact⟨c,hh,hb,h1,i,f,d,h.2 g rfl c _ _ hh⟩
def fG.of (cur:zA)(hh:w.heap[g]? =aA (aJ cur e (0,0)))(b:base<=g)(f:n<=cap)(d:cap<=maxLen)(a:cur.size=cap*size)(h:cur.toList.take (n*size)=xs)(c:∀x∈cur.toList,S x): fG S w base e size (aK g n cap) n xs:= ⟨⟨by rw[<-h,Ds,Nv,a];exact j1,aI ⟨g,cap,cur,rfl,b,hh,f,d,a,h⟩⟩,tP.of rfl hh c⟩
end
def lW (w:zW)(g)(cs):w.grownBy (w.setRow g cs) (aA g):=⟨rfl,rfl,rfl,by simp,by grind[setRow_other]⟩
def BS (w:zW)(row:Option Nat):w.grownBy w row:=⟨rfl,rfl,rfl,je _,λ_ _ _=>rfl⟩
def TT (w:zW)(row):w.grownBy w.drew row:=⟨rfl,rfl,rfl,je _,λ_ _ _=>rfl⟩
def BP {t z s b}(h:(zq.info? t).map (λi=>(i.zero,i.size,i.bytes))=aA (aA z,s,b)):∃i,zq.info? t=aA i/\i.zero=aA z/\i.size=s/\i.bytes=b:=j1
def Kt {S:zY->Prop}{ts e:zD}{it:TypeInfo}{z:zY}(q:zq.underlying ts=aA (.slice e))(ti:zq.info? e=aA it)(E:it.zero=aA z)(F:it.size=1)(m:z.cells.size=1)(M:∀x,S x->x.oneCell'=aF)(y:∀x∈(Value.cells z).toList,S x)(base g n cap c:Nat)(xs:zV)(w:zW)(N:fG S w base e 1 (aK g n cap) n xs)(v:1<=c)(J:c<=n): n<=cap/\cap<=maxLen/\∃W d,(∀ty,(Builtin.append_ #[ts,ts] ty #[aK g 0 cap,aK (if cap=c then aA g else aA (g,c)) (n-c) (cap-c)]).run zq w.drew= .ok (aK g (n-c) cap) W)/\(∀ty,(Builtin.clear_ #[ts] ty #[aK (g,n-c) c (cap-(n-c))]).run zq W= .ok (.tuple #[]) d)/\ fG S d base e 1 (aK g (n-c) cap) (n-c) (xs.drop c)/\w.grownBy d (aA g):=by let⟨b,hh,K,D,C,O,B,Q⟩:=N.row;have H:zAH xs=n:=by{grind};rw[Hs]at O B;have i:zAH (zAM b)=cap:=by{assumption};have G:∀x∈xs,S x:=by{grind};have P:zAH (xs.drop c)=n-c:=by{grind};have h:0+zAH (xs.drop c)<=zAH (zAM b):=by{omega};let⟨W,l⟩:=zzx (w.drew.setRow g (zAL (over (zAM b) 0 (xs.drop c))));have o:W.heap[g]? =aA (aJ (zAL (over (zAM b) 0 (xs.drop c))) e (0,0)):=by{rw[l];exact setRow_heap w.drew g b _ e _ hh};have I:∀ty,(Builtin.append_ #[ts,ts] ty #[aK g 0 cap,aK (if cap=c then aA g else aA (g,c)) (n-c) (cap-c)]).run zq w.drew= .ok (aK g (n-c) cap) W:=λty=>by{rw[l];have:=λa c' L=>run_append_room w.drew ts ty e it q ti g 0 cap b hh a (n-c) c' (xs.drop c) ji L ji bm bm;rw[He,Ce]at this;by_cases A:cap=c;{rw[AE A];refine this _ _ λj u q=> ?_;grind};{rw[AF A];refine this _ _ λj u q=> ?_;rw[Addr.add_lit,Eh w.drew g _ b e (0,0) hh,<-Ew];grind}};let⟨d,k⟩:=zzx (W.setRow g (zAL (over (over (zAM b) 0 (xs.drop c)) (n-c) (zAM (Builtin.zeroCells (Value.cells z) c)))));have s:zAH (zAM (Builtin.zeroCells (Value.cells z) c))=c:=by{rw[Nv,size_zeroCells,m,Hs]};have t:∀ty,(Builtin.clear_ #[ts] ty #[aK (g,n-c) c (cap-(n-c))]).run zq W= .ok (.tuple #[]) d:=λty=>by{have:=zFs W ts ty e it z g (n-c) c (cap-(n-c)) _ e q ti E v o (by rw[m,Hs,Dq,lA h,i];exact bm) ji;rw[this,k];congr 2;unfold over;exact j1};have r:n-c+zAH (zAM (Builtin.zeroCells (Value.cells z) c))<=zAH (over (zAM b) 0 (xs.drop c)):=by{grind[lA]};refine⟨D,C,W,d,I,t,fG.of _ (k▸(setRow_heap W g _ _ e _ o)) K bm C ?_ ?_ ?_,?_⟩;{rw[Dq,lA r,lA h,i,Hs]};{have:=YF (p:=0) B bm (i▸D) s;exact ji};{intro x f;obtain f|f:=YE f;{obtain f|f:=YE f;all_goals grind};.exact rH y c x f};.rw[k,l];exact((TT w (aA g)).trans (lW _ _ _)).trans (lW _ _ _)
def Xz {S:zY->Prop}(a:∀x,S x->x.oneCell'=aF)(d:∀x∈(Value.cells (aL ⟨#[]⟩)).toList,S x)(base g n cap c:Nat)(xs:zV)(w:zW)(i:fG S w base 9 1 (aK g n cap) n xs)(A:n<=1000000)(m:c<=n): Calls zq 65 #[aK g n cap,aC aD 0,c] w λe o=>e=aM (aK g (n-c) cap)/\fG S o base 9 1 (aK g (n-c) cap) (n-c) (xs.drop c)/\w.grownBy o (aA g):=by let⟨y,hh,_,C,B,_⟩:=i.row;by_cases v:c=0;{subst v;have k:=hid i;clear i a d hh;go_enter (Qz.fn func65),ntmps65;go_wp2;go_ret;exact⟨rfl,k,BS w _⟩};.obtain⟨it,ti,p,f,l⟩:=BP (t:=9) (z:=(aL ⟨#[]⟩)) (s:=1) (b:=16) c9;let⟨_,_,D,W,r,u,j,H⟩:=Kt ((Qz.eR 82).trans underlying82) ti p f rfl a d base g n cap c xs w i bm m;have k:=hid j;have q:=hid H;have i5:n-(n-c)=c:=bm;clear i a d p f l ti j H hh;go_enter (Qz.fn func65),ntmps65;go_wp2_with fail;go_region_law (refine kH rfl _ _ 82 82 rfl _ _ A6 A6 (r _) ?_);exact T8
def Ya {S:zY->Prop}(a:∀x,S x->x.oneCell'=aF)(d:∀x∈(Value.cells (.pointer aB)).toList,S x)(base g n cap c:Nat)(xs:zV)(w:zW)(i:fG S w base 264 1 (aK g n cap) n xs)(A:n<=1000000)(m:c<=n): Calls zq 220 #[aK g n cap,aC aD 0,c] w λe o=>e=aM (aK g (n-c) cap)/\fG S o base 264 1 (aK g (n-c) cap) (n-c) (xs.drop c)/\w.grownBy o (aA g):=by let⟨y,hh,_,C,B,_⟩:=i.row;by_cases v:c=0;{subst v;have k:=hid i;clear i a d hh;go_enter (Qz.fn func220),ntmps220;go_wp2;go_ret;exact⟨rfl,k,BS w _⟩};.obtain⟨it,ti,p,f,l⟩:=BP (t:=264) (z:=(.pointer aB)) (s:=1) (b:=8) c9;let⟨_,_,D,W,r,u,j,H⟩:=Kt ((Qz.eR 166).trans underlying166) ti p f rfl a d base g n cap c xs w i bm m;have k:=hid j;have q:=hid H;have i5:n-(n-c)=c:=bm;clear i a d p f l ti j H hh;go_enter (Qz.fn func220),ntmps220;go_wp2_with fail;go_region_law (refine kH rfl _ _ 166 166 rfl _ _ A6 A6 (r _) ?_);exact T8
def kV (t b:Nat)(C:zP):zP:=λx=>x=t\/x=b\/C x
section
variable {w w1 w':zW}{t k R b cap n:Nat}{S:List (List bE)}{C C':zP}{cur:zA}{x1 x4 c:Int}{p:Option Nat}{all:List (Nat×ByteArray)}{F:zP}{tp:List (Option Nat)}
def dA.hl (h:Hl t w w')(f:vH t C w w'):dA (kV t b C) w w':=⟨h.os,h.tape,h.output,h.size,λx d a=>f x d (λe=>a (aH e)) λg=>a (aI (aI g))⟩
def PO:∀x∈(Value.cells (.pointer aB)).toList,tC C x:=λx h=>by simp[Value.cells]at h;subst h;exact⟨aB,rfl,λb e=>by cases e⟩
def zFa (v:w.heap[b]? =aA (aJ cur 264 (0,0)))(E:n<=cap)(g:cap<=maxLen)(B:cur.size=cap)(h:∀x∈cur.toList,tC C x)(hl:n<1000)(D:∀b,p=aA b->C b){vb}(A:w.heap[vb]? =aA (aJ #[ptr p] 264 (0,0))):
  ∃f a W d,(∀ty,(Builtin.append_ #[166,166] ty #[aK (aA ⟨b,0,aB⟩) n cap,aK (aA ⟨vb,0,aB⟩) 1 1]).run zq w= .ok (aK (aA ⟨f,0,aB⟩) (n+1) a) W)/\w.grownBy W (aA b)/\(f=b\/f=w.heap.size)/\
   W.heap[f]? =aA (aJ d 264 (0,0))/\n+1<=a/\a<=maxLen/\d.size=a/\(∀x∈d.toList,tC C x)/\d.toList.take (n+1)=cur.toList.take n++[ptr p]:=by let⟨it,ti,z,i,l⟩:=XW;have y:fG (tC C) w b 264 1 (aK b n cap) n (cur.toList.take n):=by{have:=fG.of cur v (je _) E g (size:=1) bm (by rw[Hs]) h;exact this};have s:=(Ax.1 v).1;have H:=λty=>uI w (tC C) b 166 ty 264 it _ 1 8 j1 ti z i l rfl bm PO _ n _ y.1 y.2 vb 1 1 [ptr p] rfl (λj u O=>by rw[addr_add,Ce,Eh w vb j _ 264 (0,0) A];exact ji) (λu m=>by rw[Cy.1 m];cases p<;>rfl) (λu m=>by rw[Cy.1 m];exact⟨p,rfl,D⟩) (Nat.succ_pos _) j7 bm bm;let⟨f,a,W,J,I,r,q,G⟩:=H 0;have o:fG (tC C) W b 264 1 (aK f (n+1) a) (n+1) (cur.toList.take n++[ptr p]):=⟨I,G⟩;let⟨d,N,T,M,L,Q,P,K⟩:=o.row;refine⟨f,a,W,d,λty=>J,r,?_,N,M,L,bm,K,ji⟩;obtain e|e:=q;{exact aH (Ay e).symm};exact bm
def uu (k:Nat)(w:zW)(cur:zA)(S:List (List bE)):Prop:=∀(i:Nat) us,S[i]? =aA us->∃p,cur[i]? =aA (ptr p)/\dQ k w p us 0
theorem uu.kept (h:uu k w cur S)(d:CS w C)(a:∀x∈cur.toList,tC C x)(hk:∀x,C x->w'.heap[x]? =w.heap[x]?):uu k w' cur S:=λi us hi=>by let⟨p,e,f⟩:=h i us hi;exact⟨p,e,f.kept d (KQ a e) hk⟩
def Ss {a us}(h:uu k w cur S)(hl:zAH S<=cur.size)(l:a.toList.take (zAH S+1)=cur.toList.take (zAH S)++[ptr p])(m:dQ k w p us 0):uu k w a (S++[us]):=λi u hi=>by have e:∀(j:Nat),j<zAH S+1->a[j]? =(cur.toList.take (zAH S)++[ptr p])[j]? :=by{grind};have f:zAH (cur.toList.take S.length)=zAH S:=by{grind};by_cases d:i<zAH S;{rw[GN d]at hi;let⟨q,d1,g⟩:=h i u hi;refine⟨q,?_,g⟩;exact ji};.have hlt:=(Bx.1 hi).1;exact ji
structure nO (k t:Nat)(C:zP)(cur:zA)(cap:Nat)(tp:List (Option Nat))(S:List (List bE))(w:zW):Prop where
 len:S.length<=cap
 Qi:cap<=maxLen
 size:cur.size=cap
 vY:∀x∈cur.toList,tC C x
 Su:uu k w cur S
 take:cur.toList.take S.length=tp.map ptr
 xE:CQ w tp S
theorem dH.mem (h:dH w t k R b cap C S):∃cur tp,jR k t b cap (zAH S) C cur R (zAH (fK S)) (cJ S:Nat) w/\nO k t C cur cap tp S w/\wI t w C tp aB:=by let⟨cur,tp,c1,c2,c3,c4,c6,f,e,d,a⟩:=h.row;exact⟨cur,tp,⟨h.iJ,h.jJ,h.at',c1,h.cs⟩,⟨c2,c3,c4,c6,f,e,a⟩,d⟩
def jR.rW (h:jR k t b cap (zAH S) C cur R (zAH (fK S)) (cJ S:Nat) w)(a:nO k t C cur cap tp S w)(d:wI t w C tp aB)(e:cJ S<=R/\R<=1000000)(k1:1<=k)(k2:k<=32)(GJ:zq.globals.size<t)(Bw:zq.globals.size<b)(st:∀us∈S,CP us/\zAH us<=2000)(len:zAH S<=1000)(one:0<zAH S):dH w t k R b cap C S:= ⟨k1,k2,h.iJ,h.jJ,GJ,Bw,h.tr,e,h.cs,⟨cur,tp,h.eX,a.len,a.Qi,a.size,a.vY,a.Su,a.take,d,a.xE⟩,st,len,one⟩
theorem nO.length (h:nO k t C cur cap tp S w):zAH tp=zAH S:=by have:=congrArg zAH h.take;rw[Ds,Hj]at this;grind[len,size,Array.length_toList]
def nO.at (h:nO k t C cur cap tp S w){i:Nat}(hi:i<zAH S){p:Option Nat}(a:cur[i]? =aA (ptr p)):tp[i]? =aA p:=by have d:(tp.map ptr)[i]? =aA (ptr p):=by{rw[<-h.take,GK,AE hi,Ew];exact a};rw[JN]at d;grind[Option.some.inj,dm,length,List.getElem?_eq_getElem]
def nO.go {cap':Nat}{a:zA}(h:nO k t C cur cap tp S w)(hk:∀b z o i v g hs,C b->aW w b z o i v g hs->∃d,aW w' b z o i v g d)(f:CS w C)(s:zAH S<=cap')(r:cap'<=maxLen)(q:a.size=cap')(m:∀x∈a.toList,tC C' x)(j:a.toList.take (zAH S)=cur.toList.take (zAH S)):nO k t C' a cap' tp S w':=by refine⟨s,r,q,m,λi us hi=> ?_,j.trans h.take,h.xE.go (λb z o i v g hs A y=>ji) f (oA h.vY h.take)⟩;have hlt:=(Bx.1 hi).1;let⟨p,l,u⟩:=h.Su i us hi;refine⟨p,?_,u.stay f.down hk (KQ h.vY l)⟩;have e:∀c:zA,(c.toList.take (zAH S))[i]? =c[i]? :=λc=>by{rw[GK,AE hlt,Ew]};rw[<-e,j,e];exact l
def nO.count {L:List mE}(h:nO k t C cur cap tp S w)(e:Inv t w L (heldBy tp))(d:Pos L (heldBy tp))(f:0<S.length):L.length=cJ S:=
 e.Qf d h.length f (λi us p hi a=>by obtain⟨q,j,g⟩:=h.Su i us hi;rw[h.at (Bx.1 hi).1 j]at a;injection a with a;rw[<-a];exact g) h.xE
def wI.count (a:wI t w C tp aB)(h:nO k t C cur cap tp S w)(e:0<zAH S){x x1 x2 x3 x4:zY}(d:cS w t x x1 x2 x3 x4 c):c=(cJ S:Nat):=by let⟨L,v,v2,_⟩:=a;rw[lB]at v2;rw[v.len d,h.count v.inv v2 e]
def jR.eD {g cap' n':Nat}{f:zA}{W:zW}(h:jR k t b cap n C cur x1 x4 c w)(B:zq.globals.size<t)(D:zq.globals.size<b)(j:w.grownBy W (aA b))(E:W.heap[g]? =aA (aJ f 264 (0,0))):
  jR k t g cap' n' C f x1 x4 c (zAJ W (t,3) (aK g n' cap'))/\(∀x,iP w x->(zAJ W (t,3) (aK g n' cap')).heap[x]? =w.heap[x]?)/\dA (kV t b C) w (zAJ W (t,3) (aK g n' cap')):=by
 have q:=h.tr.lt;have v:t≠b:=λe=>by have A:=h.eX;have z:=h.tr;rw[<-e,z]at A;grind
 have u:=(j.block t q ji).trans h.tr;have y:g≠t:=by grind
 let⟨V,l⟩:=zzx (zAJ W (t,3) (aK g n' cap'));have m:V.heap.size=W.heap.size:=by rw[l];simp[zAJ]
 have d:∀x,x<w.heap.size->x≠b->x≠t->V.heap[x]? =w.heap[x]? :=by grind[World.grownBy.block,Eg]
 have a:∀x,iP w x->V.heap[x]? =w.heap[x]? :=λx i=>d x i.lt (i.ne h.eX j2) (i.ne h.tr j2);have o:∀x,x<=zq.globals.size->V.heap[x]? =w.heap[x]? :=by grind
 have r:cS V t k (aC aD x1) (aL ⟨zAL (dg k [0])⟩) (aK g n' cap') (aC aD x4) c:=by rw[l];unfold cS at u⊢;rw[dM u 3];rfl
 rw[<-l];refine⟨⟨h.iJ.kept o,h.jJ.kept (m▸j.size) o,r,N5,h.cs.kept λx i=>a x (h.cs.cell i)⟩,a,?_⟩;refine⟨?_,?_,?_,by rw[m];exact j.size,λx i s=>d x i (λe=>s (aI (aH e))) (λe=>s (aH e))⟩
 .rw[l];exact j.os
 .rw[l];exact j.tape
 .rw[l];exact j.output
def jR.sized (h:jR k t b cap n C cur x1 x4 c w)(u:zq.globals.size<t)(a:Int): jR k t b cap n C cur x1 a c (zAJ w (t,4) (aC aD a))/\(∀x,iP w x->(zAJ w (t,4) (aC aD a)).heap[x]? =w.heap[x]?)/\dA (kV t b C) w (zAJ w (t,4) (aC aD a)):=by have f:∀x,x≠t->(zAJ w (t,4) (aC aD a)).heap[x]? =w.heap[x]? :=by{grind[Eg]};have o:(zAJ w (t,4) (aC aD a)).heap.size=w.heap.size:=by{simp[zAJ]};have d:∀x,iP w x->(zAJ w (t,4) (aC aD a)).heap[x]? =w.heap[x]? :=λx i=>f x (i.ne h.tr j2);have g:∀x,x<=zq.globals.size->(zAJ w (t,4) (aC aD a)).heap[x]? =w.heap[x]? :=by{grind};have l:cS (zAJ w (t,4) (aC aD a)) t k (aC aD x1) (aL ⟨zAL (dg k [0])⟩) (aK b n cap) (aC aD a) c:=by{have m:=h.tr;unfold cS at m⊢;rw[dM m 4];rfl};have j:b≠t:=λe=>by{have s:=h.eX;have r:=h.tr;rw[e,r]at s;grind};exact⟨⟨h.iJ.kept g,h.jJ.kept bm g,l,(f b j).trans h.eX,h.cs.kept λx i=>d x (h.cs.cell i)⟩,d,⟨rfl,rfl,rfl,bm,λx _ q=>f x λe=>q (aH e)⟩⟩
def LN (S)(us):fK (S++[us])=us:=by unfold fK;grind[List.getLast?_concat]
end
def Mid (k t:Nat)(S:zP)(p:Option Nat)(us cs:List bE)(d:Nat)(x0 x1 x2 x3 x4:zY)(c:Int)(w:zW)(p0:Option Nat)(w0:zW):Prop:= ∃m r0 S0,w.heap.size<=m/\cU k w0 p0 (bC (bJ d 0 us) (bJ d 0 cs)) (d+1) m w0 r0/\Grow t S S0 w w0/\(∀b,p0=aA b->S0 b)/\cS w0 t x0 x1 x2 x3 x4 (c+zAH r0)/\zAH r0=dZ (aV (bC (bJ d 0 us) (bJ d 0 cs))) (aV (bJ d 0 us)) (d+1)/\∀x,In w0 p0 x->In w p x\/x∈r0.map (·.1)
def sg (k t:Nat)(S:zP)(p:Option Nat)(us cs:List bE)(d:Nat)(x0 x1 x2 x3 x4:zY)(c:Int)(w:zW)(p0 p1:Option Nat)(w1:zW):Prop:= ∃m m1 r0 r1 S1,w.heap.size<=m/\m1<=w1.heap.size/\cU k w1 p0 (bC (bJ d 0 us) (bJ d 0 cs)) (d+1) m m1 r0/\cU k w1 p1 (bC (bJ d 1 us) (bJ d 1 cs)) (d+1) m1 w1 r1/\Grow t S S1 w w1/\(∀b,p0=aA b->S1 b)/\(∀b,p1=aA b->S1 b)/\cS w1 t x0 x1 x2 x3 x4 (c+(zAH r0+zAH r1:Nat))/\zAH r0=dZ (aV (bC (bJ d 0 us) (bJ d 0 cs))) (aV (bJ d 0 us)) (d+1)/\zAH r1=dZ (aV (bC (bJ d 1 us) (bJ d 1 cs))) (aV (bJ d 1 us)) (d+1)/\(∀x,In w1 p0 x->In w p x\/x∈r0.map (·.1))/\∀x,In w1 p1 x->In w p x\/x∈r1.map (·.1)
section
variable {w wa w0 w1 w':zW}{t k d:Nat}{x0 x1 x2 x3 x4:zY}{c:Int}{p p0 p1 z o:Option Nat}{S:zP}{us cs:List bE}{e:Ending}
def zCj (h:mH k t S p us cs d x0 x1 x2 x3 x4 c w)(j:0<zAH cs)(i:d<256)(a:zb w wa)(hz:vF k w p us d z o)(g:∀b,z=aA b->S b):mH k t S z (bJ d 0 us) (bJ d 0 cs) (d+1) x0 x1 x2 x3 x4 c wa:=by have l:=DU h j i;have hi:=h.hi;have f:Hl t w wa:=Hl.below a (je _);exact h.half 0 (hz.z.hl h.k1 h.k2 f) (h.cells.hl f) g (h.at'.below a (je _)) h.lo bm
def zCk (h:mH k t S p us cs d x0 x1 x2 x3 x4 c w)(J:0<zAH cs)(I:d<256)(E:sg k t S p us cs d x0 x1 x2 x3 x4 c w p0 p1 w1): Calls zq 232 #[aO t,ptr p0,ptr p1] w1 λe w'=>∃g,e=aM (ptr g)/\Grown k t S p us cs d x0 x1 x2 x3 x4 c w (aM (ptr g)) w':=by let⟨m,m1,r0,r1,S1,U,h2,P,O,q,N,M,L,h9,T,R,Q⟩:=E;have hn:=DU h J I;have hi:=h.hi;have F:=h.lo;have K:Sub (bC us cs) d:=by{have j:∀x∈bC us cs,∃y∈us++cs,x.idx=y.idx:=by{have:∀(cs l:List bE),∀x∈bC l cs,∃y∈l++cs,x.idx=y.idx:=by{intro cs;induction cs with|nil=>intro l x n;exact⟨x,Bl.2 (aH n),rfl⟩|cons u cs B=>intro l x n;let⟨y,f,e⟩:=B (gJ l u) x n;obtain f|f:=Bl.1 f;{obtain f|f:=Bl.1 f;{exact⟨y,Bl.2 (aH (Bi.1 f).1),e⟩};.obtain f|f:=Bl.1 f;{refine⟨u,j0,e.trans ?_⟩;cases H:u.gone with|true=>grind|false=>rw[H]at f;simp at f;rw[f];rfl};.exact⟨y,Bl.2 (aH (Bi.1 f).1),e⟩};exact ji};exact ji};refine⟨KU cs h.TH,λu D=> ?_,λa ha b hb i hi=> ?_⟩;{obtain⟨y,f,e⟩:=j u D;rw[e];obtain f|f:=Bl.1 f;{exact h.nI y f};.exact(h.ox y f).1};grind[mH.bits]};refine(Ov h.k1 h.k2 ((kY (d:=d) (b:=0) cs h.TH)▸P) ((kY (d:=d) (b:=1) cs h.TH)▸O) K q.cs N M L bm bm).mono λe w' G=> ?_;let⟨g,rows,W,V,A,v,s,j4,Z,Y,X⟩:=G;have C:∀r:List (Nat×ByteArray),(∀y∈r,y∈rows)->∀x,x∈r.map (·.1)->x∈rows.map (·.1):=by{grind};refine⟨g,V,g,rows,W,rfl,A.wide U (je _),q.trans v,s,?_,bm,λx n=> ?_⟩;all_goals grind
end
section
variable {w:zW}{t k d cap:Nat}{x0 x1 x2 x3 x4:zY}{c:Int}{p:Option Nat}{S:zP}{us cs:List bE}{va:zO}
def ZV (h:mH k t S p us [] d x0 x1 x2 x3 x4 c w):Calls zq 223 #[aO t,ptr p,d,aK va 0 cap] w (Grown k t S p us [] d x0 x1 x2 x3 x4 c w):=by have H:=hid (zCq h);generalize Grown k t S p us [] d x0 x1 x2 x3 x4 c w=J at*;go_enter (Qz.fn func223),ntmps223;go_wp2;exact H.out
def An {u cs}(h:bN w va (u::cs)):∃g o,va=aA ((g,o):Addr)/\g<w.heap.size/\w.cell? (g,o)=aA (u.idx:zY)/\w.cell? (g,o+1)=aA (u.val:zY)/\w.cell? (g,o+2)=aA (.bool u.gone):=by let⟨g,o,e,a,c0,c1,c2⟩:=h.idx 0 u rfl;exact ji
def ZU {u:bE}(h:mH k t S p us [u] d x0 x1 x2 x3 x4 c w)(A:us=[]\/∃x,us=[x]/\x.idx=u.idx)(Q:bN w va [u]):Calls zq 223 #[aO t,ptr p,d,aK va 1 cap] w (Grown k t S p us [u] d x0 x1 x2 x3 x4 c w):=by
 obtain⟨g,o,rfl,y,c0,c1,c2⟩:=An Q;have N:=h.ox u (Cy.2 rfl);have I:Hid (u.gone=aF->∀W,zb w W->Grown k t S p us [u] d x0 x1 x2 x3 x4 c w (aM (ptr aB)) W):=λy W q=>zDg h A y q;have K:Hid (u.gone=aG->∀W,zb w W->Calls zq 229 #[aO t,aw u] W λe l=>∃b,e=aM (ptr (aA b))/\Grown k t S p us [u] d x0 x1 x2 x3 x4 c w (aM (ptr (aA b))) l):=λy W q=>by have O:=h.lo;have hi:=h.hi;refine(Ot u bm bm (h.at'.below q (je _)) h.lo bm).mono λe l Y=> ?_;let⟨b,F,X,D,V,U,T,R⟩:=Y;exact⟨b,F,zCy h A y q X D V U T R⟩
 have M:p=aB\/∃b g B,p=aA b/\aW w b aB aB u.idx ((us.headD ⟨[],[],aG⟩).val) g B:=by
  obtain rfl|⟨x,rfl,L⟩:=A;{exact aH (h.rep.fR.2 rfl)}
  .cases h.rep with
   |leaf v=>exact aI ⟨_,_,_,rfl,by rw[<-L];exact v⟩
   |node D=>simp at D
 have H:Hid (zb w (zAK w (aJ #[u.idx,u.val,.bool u.gone] 53))):=(Av _ w).alloc (je _) _;have i:(zAK w (aJ #[u.idx,u.val,.bool u.gone] 53)).heap[w.heap.size]? =aA (aJ #[u.idx,u.val,.bool u.gone] 53 (0,0)):=Ei w _;generalize Grown k t S p us [u] d x0 x1 x2 x3 x4 c w=J at*;have a:Hid (∀W n,zb w W->zb w (W.drewN n)):=λW n h=>⟨h.os,h.tape,h.output,h.size,h.block⟩;obtain rfl|⟨b,Z,B,rfl,v⟩:=M
 .obtain⟨s,r,z⟩:=u;dsimp only at*;cases z with
  |true=>
   go_enter (Qz.fn func223),ntmps223;go_upto_region 4 with(fail)
   have E:=(bG i 2).trans rfl;generalize(zAK w (aJ #[s,r,aF] 53))=f at*;go_quiet (fail);go_wp2;exact I A8 _ (a _ _ H)
  |false=>
   go_enter (Qz.fn func223),ntmps223;go_upto_region 4 with(fail)
   have G:=(bG i 0).trans rfl;have F:=(bG i 1).trans rfl;have E:=(bG i 2).trans rfl;generalize(zAK w (aJ #[s,r,aG] 53))=f at*;go_quiet (fail);exact T7
 .have j:Hid (∀W,zb w W->aW W b aB aB u.idx ((us.headD ⟨[],[],aG⟩).val) Z B):=λW q=>⟨by rw[q.block b v.lt];exact v.at'⟩;generalize(us.headD ⟨[],[],aG⟩).val=vv at*;have P:=v.lt;let⟨s,r,z⟩:=u;dsimp only at*;cases z with
  |true=>
   go_enter (Qz.fn func223),ntmps223;go_upto_region 4 with(fail)
   have G:=(bG i 0).trans rfl;have E:=(bG i 2).trans rfl;generalize(zAK w (aJ #[s,r,aF] 53))=f at*;have k2:=(j f H).c2;have m:Hid (∀n,Calls zq 227 #[ptr (aA b)] (f.drewN n) λe l=>e=aM (.bool aF)/\l=f.drewN n):=λn=>iZ (j _ (a _ n H));go_quiet ((go_at_call 227;exact Im (m _)));go_wp2;exact I A8 _ (a _ _ H)
  |false=>
   go_enter (Qz.fn func223),ntmps223;go_upto_region 4 with(fail)
   have G:=(bG i 0).trans rfl;have F:=(bG i 1).trans rfl;have E:=(bG i 2).trans rfl;generalize(zAK w (aJ #[s,r,aG] 53))=f at*;have k2:=(j f H).c2;have m:Hid (∀n,Calls zq 227 #[ptr (aA b)] (f.drewN n) λe l=>e=aM (.bool aF)/\l=f.drewN n):=λn=>iZ (j _ (a _ n H));go_quiet ((go_at_call 227;exact Im (m _)));exact T7
end
section
variable {w W:zW}{t k d cap n m g o:Nat}{p z:Option Nat}{S:zP}{us:List bE}{J:Ending->zW->Prop}
def XK (A:CS w S)(y:zb w W)(h:dQ k W z us d)(hz:∀b,z=aA b->S b):dQ k w z us d:=by refine h.stay (λb z o i v g x l j c e=> ?_) (λb z o i v g x l j=> ?_) hz;{obtain⟨q,s,u,r,C,a,f,_,B⟩:=A b l;have D:aW W b q s u r C a:=⟨by rw[y.block b f.lt];exact f.at'⟩;obtain⟨rfl,rfl,_⟩:=bU j D;exact B c e};.obtain⟨q,s,u,r,C,a,f,_,B⟩:=A b l;exact⟨x,⟨by rw[<-y.block b f.lt];exact j.at'⟩⟩
def iz (w:zW)(p:Option Nat)(n:Nat)(I:zB):Prop:=2<=n\/(n=1/\∃b z o i v g h,p=aA b/\aW w b z o i v g h/\((z.isNone&&o.isNone)=aG\/(z=aB/\o=aB/\i≠I)))
def Pg {Ha:zY->zY->Prop}{M1:zR}{M2:zY->zR}{x D:zB}{E}
  {vb Y cb} (G:(cap=m/\Y=0/\cb=0/\vb=aA ((g,o):Addr))\/(cap≠m/\Y=n-m/\cb=cap-m/\vb=aA ((g,o+m*3):Addr))) (hd:d<256) (hn:n<=1000000) (hm:m<=n) (dN:n<=cap) (hN:iz w p n x) (hg:g<w.heap.size) (c0:w.cell? (g,o)=aA (x:zY)) (c1:w.cell? (g,o+1)=aA (D:zY)) (c2:w.cell? (g,o+2)=aA (.bool E))
  (hP:∀W,zb w W->Calls zq 230 #[ptr p,d] W λe w'=>∃z o,e=aM (.tuple #[z,o])/\zb w w'/\Ha z o)
  (hQ:∀W,zb w W->Calls zq 231 #[aK (g,o) n cap,d] W λe w'=>e=aM (aC aD (m))/\zb w w')
  (hZ:∀z R,Ha z R->∀W,zb w W->Calls zq 223 #[aO t,z,aC aD ((d)+1),aK (g,o) m cap] W λe w'=>∃p0,e=aM p0/\M1 p0 w')
  (hO:∀z R,Ha z R->∀p0 W,M1 p0 W->Calls zq 223 #[aO t,R,aC aD ((d)+1),aK vb Y cb] W λe w'=>∃A,e=aM A/\M2 p0 A w')
  (hJ:∀p0 A W,M2 p0 A W->Calls zq 232 #[aO t,p0,A] W λe w'=>∃p',e=aM p'/\J (aM p') w'):
  Calls zq 223 #[aO t,ptr p,d,aK (g,o) n cap] w J:=by
 have U:=hid hP;have T:=hid hQ;have HZ:=hid hZ;have HO:=hid hO;have HJ:=hid hJ;have H:Hid (zb w (zAK w (aJ #[x,D,E] 53))):=(Av _ w).alloc (je _) _;have Z:(zAK w (aJ #[x,D,E] 53)).heap[w.heap.size]? =aA (aJ #[x,D,E] 53 (0,0)):=Ei w _;have j:Hid (∀W n,zb w W->zb w (W.drewN n)):=λW n h=>⟨h.os,h.tape,h.output,h.size,h.block⟩;have s:Hid (∀W,zb w W->zb w W.drew):=λW h=>h.drew;have tj:IntKind.i64.wrap ((d:Int)+1)=(d:Int)+1:=by rw[Dt];omega
 have ym:¬((m:Int)<0):=by omega
 have hm1:(m:Int)<=n:=by omega
 have hm2:(m:Int)<=cap:=by omega
 have hn0:(0:Int)<n:=by obtain h|⟨h,_⟩:=hN<;>omega
 have H3:∃(B:Prop),(2<=n/\B=True)\/(n=1/\∃b i v,∃q:Bool,p=aA b/\(∀W,zb w W->Calls zq 227 #[ptr p] W λe w'=>e=aM (.bool q)/\w'=W)/\(∀W,zb w W->W.cell? (b,2)=aA ((i:zB):zY))/\(q=aG\/(q=aF/\(i==x)=aG))/\v=b):=by
  refine⟨True,?_⟩;obtain h|⟨h,b,z,o1,i,v,gg,hs,rfl,hc,F⟩:=hN;{exact aH ⟨h,rfl⟩}
  .have hC:∀W,zb w W->aW W b z o1 i v gg hs:=λW N=>⟨by rw[N.block b hc.lt];exact hc.at'⟩;refine aI ⟨h,b,i,b,z.isNone&&o1.isNone,rfl,λW N=>iZ (hC W N),λW N=>(hC W N).c2,?_,rfl⟩;obtain F|⟨rfl,rfl,F⟩:=F
   .exact aH F
   .exact aI ⟨rfl,GM.2 F⟩
 let⟨B,H3⟩:=H3;obtain⟨h,-⟩|⟨rfl,b,i,v,q,rfl,K,L,hq,-⟩:=H3
 .have hn1:=Dr bm;have aIr:decide (n=1)=aG:=Dr bm;have aIq:((n:Int)==1)=aG:=GM.2 bm;have aIp:(n==1)=aG:=GM.2 bm;obtain⟨rfl,rfl,rfl,rfl⟩|⟨hcm,rfl,rfl,rfl⟩:=G;all_goals
   go_enter (Qz.fn func223),ntmps223
   go_upto_region 4 with(fail)
   clear Z c0 c1 c2
   generalize(zAK w (aJ #[x,D,E] 53))=u at*
   go_quiet (fail)
   have f:=j u nq H
   generalize u.drewN nq=V at*
   have l:=hid f
   clear f H j
   go_wp2_with fail
   refine(U V l).mono ?_
   rintro e w2 ⟨z,X,rfl,c,M⟩
   have Q:=hid M
   have r:=hid c
   clear c M U l
   go_wp2_with fail
   refine(T w2 r).mono ?_
   rintro e w3 ⟨rfl,a⟩
   have C:Hid (zb w w3.drew):=s _ a
   clear a T r s
   go_upto_region 10 with(fail)
   go_region_with (first
    |(go_at_call_of 223 z;refine(HZ _ _ Q _ C).mono ?_;rintro e w4 ⟨p0,rfl,m1⟩;dsimp only)
    |(go_at_call_of 223 X;refine(HO _ _ Q _ _ m1).mono ?_;rintro e w5 ⟨A,rfl,m2⟩;dsimp only)
    |(go_at_call 232;refine(HJ _ _ _ m2).mono ?_;rintro e w6 ⟨p2,rfl,I⟩;dsimp only))
   all_goals go_wp2
   all_goals first|exact I|(go_ret;exact I)
 .have O:=hid K;have P:=hid L;clear K L;obtain rfl|⟨rfl,hi⟩:=hq;all_goals obtain⟨rfl,rfl,rfl,rfl⟩|⟨hcm,rfl,rfl,rfl⟩:=G
  all_goals
   go_enter (Qz.fn func223),ntmps223
   go_upto_region 4 with(fail)
   have e0:=(bG Z 0).trans rfl
   clear Z c0 c1 c2
   generalize(zAK w (aJ #[x,D,E] 53))=u at*
   have k2:=P u H
   have y:Hid (∀n,Calls zq 227 #[ptr (aA b)] (u.drewN n) λe w'=>e=aM (.bool _)/\w'=u.drewN n):=λn=>O _ (j _ n H)
   clear O P
   go_quiet ((go_at_call 227;exact Im (y _)))
   clear y k2 e0
   have f:=j u nq H
   generalize u.drewN nq=V at*
   have l:=hid f
   clear f H j
   go_wp2_with fail
   refine(U V l).mono ?_
   rintro e w2 ⟨z,X,rfl,c,M⟩
   have Q:=hid M
   have r:=hid c
   clear c M U l
   go_wp2_with fail
   refine(T w2 r).mono ?_
   rintro e w3 ⟨rfl,a⟩
   have C:Hid (zb w w3.drew):=s _ a
   clear a T r s
   go_upto_region 10 with(fail)
   go_region_with (first
    |(go_at_call_of 223 z;refine(HZ _ _ Q _ C).mono ?_;rintro e w4 ⟨p0,rfl,m1⟩;dsimp only)
    |(go_at_call_of 223 X;refine(HO _ _ Q _ _ m1).mono ?_;rintro e w5 ⟨A,rfl,m2⟩;dsimp only)
    |(go_at_call 232;refine(HJ _ _ _ m2).mono ?_;rintro e w6 ⟨p2,rfl,I⟩;dsimp only))
   all_goals go_wp2
   all_goals first|exact I|(go_ret;exact I)
end
section
variable {k t:Nat}{x0 x1 x2 x3 x4:zY}
def Wo:∀(f:Nat){d cap:Nat}{us cs:List bE}{p:Option Nat}{S:zP}{c:Int}{w:zW}{K:zO},256-d=f->d<=256->mH k t S p us cs d x0 x1 x2 x3 x4 c w->bN w K cs->(∀a,K=aA a->a.block≠t)->zAH cs<=1000000->zAH cs<=cap->Calls zq 223 #[aO t,ptr p,d,aK K (zAH cs) cap] w (Grown k t S p us cs d x0 x1 x2 x3 x4 c w):=by intro f;induction f with|zero=>{intro d cap us cs p S c w K hf hd h s T hl i;match cs,h,s,hl,i with|[],h,_,_,_=>exact ZV h|u::cs,h,s,_,_=>by_cases q:cs=[]/\(us=[]\/∃x,us=[x]/\x.idx=u.idx);{obtain⟨rfl,hu⟩:=q;exact ZU h hu s};{exfalso;have:=h.deep hd j0 ji;omega}}|succ f ih=>intro d cap us cs p S c w K hf hd h s T hl i;match cs,h,s,hl,i with|[],h,_,_,_=>exact ZV h|u::cs,h,s,hl,i=>by_cases q:cs=[]/\(us=[]\/∃x,us=[x]/\x.idx=u.idx);{obtain⟨rfl,hu⟩:=q;exact ZU h hu s};.have D:∀v,u::cs=[v]->us≠[]/\∀x,us=[x]->x.idx≠v.idx:=ji;have H:0<zAH (u::cs):=j0;have j:=h.deep hd H D;obtain⟨g,o,rfl,hg,c0,c1,c2⟩:=An s;have hgt:=T _ rfl;have hSC:Sub (u::cs) d:=⟨h.ot,λx n=>(h.ox x n).1,by grind[mH.bits]⟩;let⟨m,hcut,e0,e1⟩:=hSC.cut;have hmn:=hcut.le;have l0:zAH (bJ d 0 (u::cs))=m:=ji;have l1:zAH (bJ d 1 (u::cs))=zAH (u::cs)-m:=ji;have r:(((d+1:Nat)):Int)=(d:Int)+1:=by{omega};obtain⟨Q,R,Z,M⟩:∃Q R Z,(cap=m/\R=0/\Z=0/\Q=aA ((g,o):Addr))\/(cap≠m/\R=zAH (u::cs)-m/\Z=cap-m/\Q=aA ((g,o+m*3):Addr)):=by{grind};refine Pg (Ha:=λvz vo=>∃z o,vz=ptr z/\vo=ptr o/\vF k w p us d z o/\(∀b,z=aA b->S b)/\∀b,o=aA b->S b) (M1:=λv W=>∃p0,v=ptr p0/\Mid k t S p us (u::cs) d x0 x1 x2 x3 x4 c w p0 W) (M2:=λv v' W=>∃p0 y,v=ptr p0/\v'=ptr y/\sg k t S p us (u::cs) d x0 x1 x2 x3 x4 c w p0 y W) M j hl hmn i (by cases cs with|cons v cs=>exact aH j0|nil=>let⟨X,V⟩:=D u rfl;refine aI ⟨rfl,?_⟩;cases h.rep with|nil=>grind|leaf H=>grind| @node b _ _ z o hs I _ H hz ho=>refine⟨_,_,_,_,_,_,_,rfl,H,aH ?_⟩;have hl:=pM us d;have n1:=hz.fR;have n2:=ho.fR;cases z with|some _=>rfl|none=>cases o<;>grind) hg c0 c1 c2 (λW l=> ?_) (λW l=>(XZ (s.below l (je _)) hl (λx n=>(h.ox x n).1) j hcut).mono λe J C=>⟨C.1,l.trans (C.2.mono l.size)⟩) (λvz vo A W l=> ?_) (λvz vo A v0 W hM=> ?_) (λv0 v1 W hM=> ?_);{have A:Hl t w W:=Hl.below l (je _);refine(YA (h.rep.hl h.k1 h.k2 A) j h.nI (h.cells.hl A) h.inS).mono λe J C=> ?_;let⟨z,L,Y,hw,B,F,G⟩:=C;refine⟨_,_,Y,?_,z,L,rfl,rfl,⟨λx n=>(B.sub x (n.imp (·.go A.pK h.cells F) (·.go A.pK h.cells G))).back A.pK h.cells h.inS,XK h.cells l B.z F,XK h.cells l B.o G⟩,F,G⟩;grind[Below.drew]};{obtain⟨z,L,rfl,rfl,B,F,G⟩:=A;have hE0:bN W (aA (g,o)) (bJ d 0 (u::cs)):=by{rw[<-e0];exact(s.below l (je _)).part m};have:=ih (cap:=cap) bm bm (zCj h H j l B F) hE0 T bm bm;rw[l0,r]at this;refine this.mono λe J C=> ?_;obtain⟨p0,Y,N⟩:∃p0,e=aM (ptr p0)/\Mid k t S p us (u::cs) d x0 x1 x2 x3 x4 c w p0 J:=by{let⟨p0,r0,S0,e0,X,V,E,U,h5,h6⟩:=C;exact⟨p0,e0,W.heap.size,r0,S0,l.size,X,(Grow.below h.cells l (je _)).trans V,E,U,h5,λx n=>(h6 x n).imp (λhi=>B.sub x (aH (hi.back (Hl.below (t:=t) l (je _)).pK h.cells F))) id⟩};exact ji};{obtain⟨z,L,rfl,rfl,B,F,G⟩:=A;obtain⟨p0,rfl,N⟩:=hM;obtain⟨S0,c0',P,O⟩:∃S0 c0,mH k t S0 L (bJ d 1 us) (bJ d 1 (u::cs)) (d+1) x0 x1 x2 x3 x4 c0 W/\∀e w1,Grown k t S0 L (bJ d 1 us) (bJ d 1 (u::cs)) (d+1) x0 x1 x2 x3 x4 c0 W e w1->∃y,e=aM (ptr y)/\sg k t S p us (u::cs) d x0 x1 x2 x3 x4 c w p0 y w1:=by{let⟨m,r0,S0,X,V,E,U,h5,h6,h7⟩:=N;have hn:=DU h H j;have hi:=h.hi;have hlo:=h.lo;refine⟨S0,c+zAH r0,h.half 1 (B.o.hl h.k1 h.k2 E.hl) E.cs (λb e=>E.old b (G b e)) h5 bm bm,λe w1 g=> ?_⟩;let⟨y,r1,S1,e1,g1,I,g3,g4,g5,g6⟩:=g;exact⟨y,e1,m,W.heap.size,r0,r1,S1,X,I.hl.size,V.hl h.k1 h.k2 I.hl,g1,E.trans I,λb e=>I.old b (U b e),g3,ji,h6,g5,λx n=>h7 x (n.back I.hl.pK E.cs U),λx n=>(g6 x n).imp (λhi=>B.sub x (aI (hi.back E.hl.pK h.cells G))) id⟩};have hl0:Hl t w W:=by{let⟨_,_,_,_,_,hG,_⟩:=N;exact hG.hl};have hE1:bN W Q (bJ d 1 (u::cs)):=by{rw[<-e1];refine(s.hl hl0 T).rest m λhlt=> ?_;obtain⟨hv,_,_,_⟩|⟨_,_,_,rfl⟩:=M;{omega};{rw[Fz,addr_add]}};have:=ih (cap:=Z) bm bm P hE1 ji bm bm;have hlb:zAH (u::cs)-m=R:=by{omega};rw[l1,hlb,r]at this;refine this.mono λe J C=> ?_;let⟨y,Y,hm2⟩:=O _ _ C;exact⟨_,Y,p0,y,rfl,rfl,hm2⟩};.obtain⟨p0,y,rfl,rfl,N⟩:=hM;refine(zCk h H j N).mono λe J C=> ?_;exact ji
end
end Go.Proofs.Zq
