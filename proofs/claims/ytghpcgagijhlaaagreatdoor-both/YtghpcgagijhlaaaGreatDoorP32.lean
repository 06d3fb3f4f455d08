import Derived.Test.YtghpcgagijhlaaaGreatDoorP31
set_option linter.all false
set_option maxRecDepth 100000
set_option maxHeartbeats 16000000
open Option renaming some->aA,none->aB
open Bool renaming true->aE
open Or renaming inl->aG,inr->aH
open Go.Ending renaming returned->aL
open Go.Obj renaming cells->aI
open Go.IntKind renaming i64->aD
open Go.Value renaming slice->aJ,string->aK,pointer->aN,int->aC
namespace Go.Proofs.Zq
open Go.RowKit Sha
structure kM (w:zW)(t k:Nat):Prop where
 lt:t<w.heap.size
 wid:w.cell? ⟨t,0,aB⟩=aA (aC aD k)
 emp:w.cell? ⟨t,2,aB⟩=aA (aK ⟨(dg k [0]).toArray⟩)
def kM.below {w w':zW}{B t k:Nat}(h:kM w t k)(a:Below B w w')(b:w.heap.size<=B):kM w' t k:=
 ⟨zAc h.lt a.size,by rw[a.cell (p:=⟨t,0,aB⟩) (zAc h.lt b)];exact h.wid,by rw[a.cell (p:=⟨t,2,aB⟩) (zAc h.lt b)];exact h.emp⟩
def TC (t k:Nat)(x y:zB)(w:zW)(j:1<=k)(i:k<=32)(o:dO w)(l:kM w t k)(z:x.length=k)(v:y.length=k):
  Calls zq 186 #[aN (aA ⟨t,0,aB⟩),aK ⟨x.toArray⟩,aK ⟨y.toArray⟩] w λe c=>e=aL (aK ⟨(dg k (2::(x++y))).toArray⟩)/\zb w c:=by
 have g:=l.lt
 have u:∀(a:Nat)(os:zJ),(Go.Sort.grow (redrawn w a) os).cell? ⟨t,0,aB⟩=aA (aC aD (k:Int)):=λa os=>by rw[(zGr w a os).cell (p:=⟨t,0,aB⟩) g];exact l.wid
 have H:Hid (∀(a:Nat)(os:zJ),Calls zq 118 #[aK ⟨x.toArray⟩,aK ⟨y.toArray⟩] (Go.Sort.grow (redrawn w a) os) λe b=>e=aL (aK ⟨(2::(x++y)).toArray⟩)/\∃p:Regrown,b=Go.Sort.grow (redrawn w p.d) p.os):=λa os=>
  zHd (by refine(rV ⟨x.toArray⟩ ⟨y.toArray⟩ _ (by show x.length<=_;omega) (by show y.length<=_;omega)).mono λe c h=> ?_;obtain⟨s,rfl⟩:=h;exact⟨by simpa using s,zGp _ _⟩)
 have m:Hid (∀(a:Nat)(os:zJ),Calls zq 53 #[aC aD k,aK ⟨(2::(x++y)).toArray⟩] (Go.Sort.grow (redrawn w a) os) λe b=>e=aL (aK ⟨(dg k (2::(x++y))).toArray⟩)/\∃p:Regrown,b=Go.Sort.grow (redrawn w p.d) p.os):=λa os=>
  zHd (by refine(rU k ⟨(2::(x++y)).toArray⟩ _ j i (by show(2::(x++y)).length<=_;simp;omega) (o.below (zGr w a os) (zAa _))).mono λe c h=> ?_;exact⟨h.1.trans rfl,h.2⟩)
 clear o l
 generalize dg k (2::(x++y))=Z at*
 generalize 2::(x++y)=Y at*
 go_enter Qz.func186,Tryz.ntmps186
 go_wp2_with fail
 refine zGv (by kernel_rfl) (by kernel_rfl) ?_
 repeat (any_goals(first|go_big_quiet_step ((first|exact H.out _ _|exact m.out _ _))|quiet_step ((first|exact H.out _ _|exact m.out _ _))))
 refine zHc ?_
 intro W f
 obtain⟨q,n⟩:=f
 have r:Hid (zb w W):=by rw[n];exact zGr w q.d q.os
 clear n H m u
 go_wp2
 go_ret
 exact⟨rfl,r.out⟩
def quiet_of {P:zZ}{f:zN}{args:zA}{v:zY}{w:zW}(h:∀W,zb w W->Calls P f args W λe w'=>e=aL v/\zb W w'):
  Hid (∀(b:Nat)(os:zJ),Calls P f args (Go.Sort.grow (redrawn w b) os) λe a=>e=aL v/\∃p:Regrown,a=Go.Sort.grow (redrawn w p.d) p.os):=λb os=>zHd (h _ (zGr w b os))
def dG {w:zW}{p:Addr}{v:zY}(h:w.cell? p=aA v)(a:p.block<w.heap.size):∀(d:Nat)(os:zJ),(Go.Sort.grow (redrawn w d) os).cell? p=aA v:=λd os=>by rw[(zGr w d os).cell (p:=p) a];exact h
def zK (t k d c:Nat)(va:zO)(w:zW)(h:kM w t k):Calls zq 171 #[aN (aA ⟨t,0,aB⟩),.agg #[aC aD d,aJ va 0 c]] w λe a=>e=aL (aK ⟨(dR k (bF []) d).toArray⟩)/\zb w a:=by
 have b0:Hid (zb w (w.alloc (aI #[aC aD (d:Int),aJ va 0 c] 209))):=(zGp _ _).alloc (zAa _) _;have b:Hid (bB (w.alloc (aI #[aC aD (d:Int),aJ va 0 c] 209)) w.heap.size 209 #[aC aD (d:Int),aJ va 0 c]):=bB.new _ _ _;have P:Hid (kM (w.alloc (aI #[aC aD (d:Int),aJ va 0 c] 209)) t k):=h.below b0.out (zAa _);clear h;rw[show dR k (bF []) d=dg k [0]from Cz k d];go_enter Qz.func171,Tryz.ntmps171;go_upto_region 1 with(fail)
 generalize w.alloc (aI #[aC aD (d:Int),aJ va 0 c] 209)=w0 at*
 have f1:w0.cell? ⟨w.heap.size,1,aB⟩=aA (aJ va 0 c):=(b.out.cell 1).trans rfl
 have p2:=P.out.emp
 go_wp2
 go_ret
 exact⟨rfl,b0.out⟩
def yZ (t k d c:Nat)(va:zO)(u:bK)(w:zW)(i:1<=k)(b:k<=32)(L:u.idx.length=32)(K:u.val.length<=100)(A:bI w va [u])(y:dO w)(z:kM w t k):Calls zq 171 #[aN (aA ⟨t,0,aB⟩),.agg #[aC aD d,aJ va 1 c]] w λe a=>e=aL (aK ⟨(dR k (bF [u]) d).toArray⟩)/\zb w a:=by
 have b0:Hid (zb w (w.alloc (aI #[aC aD (d:Int),aJ va 1 c] 209))):=(zGp _ _).alloc (zAa _) _;have v:Hid (bB (w.alloc (aI #[aC aD (d:Int),aJ va 1 c] 209)) w.heap.size 209 #[aC aD (d:Int),aJ va 1 c]):=bB.new _ _ _;have l:Hid (kM (w.alloc (aI #[aC aD (d:Int),aJ va 1 c] 209)) t k):=z.below b0.out (zAa _);have C:Hid (dO (w.alloc (aI #[aC aD (d:Int),aJ va 1 c] 209))):=y.below b0.out (zAa _);have E:Hid (bI (w.alloc (aI #[aC aD (d:Int),aJ va 1 c] 209)) va [u]):=A.below b0.out (zAa _);clear z y A;rw[show dR k (bF [u]) d=dg k (1::(u.idx++dg k (4::u.val)))from Cy k d _];have H:Hid (∀W,dO W->Calls zq 128 #[aC aD k,aK ⟨u.val.toArray⟩] W λe a=>e=aL (aK ⟨(dg k (4::u.val)).toArray⟩)/\zb W a):=λW f=>CC k ⟨u.val.toArray⟩ W i b (by show u.val.length<=_;omega) f;have G:(dg k (4::u.val)).length=k:=eC k _ b;generalize dg k (4::u.val)=Y at*;have r:Hid (∀W,Calls zq 127 #[aK ⟨u.idx.toArray⟩,aK ⟨Y.toArray⟩] W λe a=>e=aL (aK ⟨(1::(u.idx++Y)).toArray⟩)/\zb W a):=λW=>
  (rX ⟨u.idx.toArray⟩ ⟨Y.toArray⟩ W (by show u.idx.length<=_;omega) (by show Y.length<=_;omega)).mono λe a h=>⟨h.1,by rw[h.2];exact zGp _ _⟩
 have F:(1::(u.idx++Y)).length<=1000:=by simp;omega
 generalize 1::(u.idx++Y)=Z at*
 have n:Hid (∀W,dO W->Calls zq 53 #[aC aD k,aK ⟨Z.toArray⟩] W λe a=>e=aL (aK ⟨(dg k Z).toArray⟩)/\zb W a):=λW f=>rU k ⟨Z.toArray⟩ W i b (by show Z.length<=_;omega) f
 generalize dg k Z=R at*
 go_enter Qz.func171,Tryz.ntmps171
 go_upto_region 1 with(fail)
 generalize w.alloc (aI #[aC aD (d:Int),aJ va 1 c] 209)=w0 at*
 have f1:w0.cell? ⟨w.heap.size,1,aB⟩=aA (aJ va 1 c):=(v.out.cell 1).trans rfl
 have p0:=l.out.wid
 obtain⟨g,o,rfl,M,B,c1,c2⟩:=E.out.idx 0 u rfl
 rw[zEs,zEv]at B c1 c2
 go_upto_region 6 with(fail)
 have b1:Hid (zb w (w0.alloc (aI #[aK ⟨u.idx.toArray⟩,aK ⟨u.val.toArray⟩,.bool u.gone] 53))):=b0.out.alloc b0.out.size _
 have k1:Hid (bB (w0.alloc (aI #[aK ⟨u.idx.toArray⟩,aK ⟨u.val.toArray⟩,.bool u.gone] 53)) w0.heap.size 53 #[aK ⟨u.idx.toArray⟩,aK ⟨u.val.toArray⟩,.bool u.gone]):=bB.new _ _ _
 have T:Hid (dO (w0.alloc (aI #[aK ⟨u.idx.toArray⟩,aK ⟨u.val.toArray⟩,.bool u.gone] 53))):=C.out.below ((zGp _ _).alloc (zAa _) _) (zAa _)
 have P:Hid (kM (w0.alloc (aI #[aK ⟨u.idx.toArray⟩,aK ⟨u.val.toArray⟩,.bool u.gone] 53)) t k):=l.out.below ((zGp _ _).alloc (zAa _) _) (zAa _)
 generalize w0.alloc (aI #[aK ⟨u.idx.toArray⟩,aK ⟨u.val.toArray⟩,.bool u.gone] 53)=w1 at*
 have q0:=dG P.out.wid P.out.lt
 have q1:=dG ((k1.out.cell 0).trans (rfl:_=aA (Value.string ⟨u.idx.toArray⟩))) k1.out.lt
 have D:=dG ((k1.out.cell 1).trans (rfl:_=aA (Value.string ⟨u.val.toArray⟩))) k1.out.lt
 have m:=quiet_of (w:=w1) λW f=>H.out W (T.out.below f (zAa _))
 have s:=quiet_of (w:=w1) λW _=>r.out W
 have p:=quiet_of (w:=w1) λW f=>n.out W (T.out.below f (zAa _))
 clear v l C E f1 p0 B c1 c2 b0 k1 T P
 refine zGv (by kernel_rfl) (by kernel_rfl) ?_
 repeat (any_goals(first|go_big_quiet_step ((first|exact m.out _ _|exact s.out _ _|exact p.out _ _))|quiet_step ((first|exact m.out _ _|exact s.out _ _|exact p.out _ _))))
 refine zHc ?_
 intro J j
 obtain⟨q,x⟩:=j
 have I:Hid (zb w J):=by rw[x];exact b1.out.trans ((zGr w1 q.d q.os).mono b1.out.size)
 clear x m s p q0 q1 D
 go_wp2
 go_ret
 exact⟨rfl,I.out⟩
def KQ (t k d c m n:Nat)(va:zO)(us:List bK)(w:zW)(C:1<=k)(A:k<=32)(hd:d<=255)(h2:2<=us.length)(y:us.length=n)(P:us.length<=1000000)(Q:us.length<=c)(i:∀u∈us,u.idx.length=32)(hcut:Cut us d m)(E:bI w va us)(R:dO w)(S:kM w t k)(X Y Z:zB)(hX:X.length=k)(hY:Y.length=k)(hZ:dg k (2::(X++Y))=Z)(N:∀W,zb w W->Calls zq 171 #[aN (aA ⟨t,0,aB⟩),.agg #[aC aD ((d:Int)+1),aJ va m c]] W λe w'=>e=aL (aK ⟨X.toArray⟩)/\zb W w')(M:∀vb a W,n-m<=a->(m<n->vb=va.map λx=>x.add (m*3))->zb w W->Calls zq 171 #[aN (aA ⟨t,0,aB⟩),.agg #[aC aD ((d:Int)+1),aJ vb (n-m) a]] W λe w'=>e=aL (aK ⟨Y.toArray⟩)/\zb W w'):Calls zq 171 #[aN (aA ⟨t,0,aB⟩),.agg #[aC aD d,aJ va n c]] w λe w'=>e=aL (aK ⟨Z.toArray⟩)/\zb w w':=by
 have b0:Hid (zb w (w.alloc (aI #[aC aD (d:Int),aJ va n c] 209))):=(zGp _ _).alloc (zAa _) _;have r:Hid (bB (w.alloc (aI #[aC aD (d:Int),aJ va n c] 209)) w.heap.size 209 #[aC aD (d:Int),aJ va n c]):=bB.new _ _ _;have P0:Hid (kM (w.alloc (aI #[aC aD (d:Int),aJ va n c] 209)) t k):=S.below b0.out (zAa _);have V:Hid (dO (w.alloc (aI #[aC aD (d:Int),aJ va n c] 209))):=R.below b0.out (zAa _);have E0:Hid (bI (w.alloc (aI #[aC aD (d:Int),aJ va n c] 209)) va us):=E.below b0.out (zAa _);have J:Hid (∀u∈us,u.idx.length=32):=i;have HC:Hid (Cut us d m):=hcut;have HX:Hid (∀W,zb w W->Calls zq 171 #[aN (aA ⟨t,0,aB⟩),.agg #[aC aD ((d:Int)+1),aJ va m c]] W λe w'=>e=aL (aK ⟨X.toArray⟩)/\zb W w'):=N;have HY:Hid (∀vb a W,n-m<=a->(m<n->vb=va.map λx=>x.add (m*3))->zb w W->Calls zq 171 #[aN (aA ⟨t,0,aB⟩),.agg #[aC aD ((d:Int)+1),aJ vb (n-m) a]] W λe w'=>e=aL (aK ⟨Y.toArray⟩)/\zb W w'):=M;have F:=λW (h:zb w W)=>oL d m c va us W P Q hd (E.below h (zAa _)) i hcut;rw[y]at F;have l:Hid _:=F;have z:=hcut.le;rw[y]at z h2 P Q;clear S R E i hcut N M F;go_enter Qz.func171,Tryz.ntmps171;go_upto_region 1 with(fail)
 generalize w.alloc (aI #[aC aD (d:Int),aJ va n c] 209)=w0 at*
 have f1:w0.cell? ⟨w.heap.size,1,aB⟩=aA (aJ va n c):=(r.out.cell 1).trans rfl
 have we:¬((n:Int)=0):=by omega
 have bk:¬((n:Int)=1):=by omega
 clear y
 go_wp2_with (refine zGq rfl 209 _ rfl w.heap.size rfl 209 _ (0,0) _ r.out ((Qz.cO 209).trans Tryz.underlying209) rfl (by kernel_rfl) ?_)
 refine(l.out w0 b0.out).mono ?_
 rintro e w1 ⟨vb,a,rfl,D,j,_,b⟩
 have K:Hid (zb w w1):=aV b0.out b b0.out.size
 have P1:Hid (kM w1 t k):=P0.out.below b (zAa _)
 have U:Hid (dO w1):=V.out.below b (zAa _)
 have H:Hid (m<n->vb=Option.map (λx=>x.add (m*3)) va):=j
 clear b r P0 V E0 l f1 j
 dsimp only
 go_upto_region 8 with(fail)
 have g:∀(v:zW)(L:Obj),(v.alloc L).heap.size=v.heap.size+1:=λv L=>zBb ..
 have f:Hid (zb w1 ((w1.alloc (aI #[aC aD ((d:Int)+1),aJ va m c] 209)).alloc (aI #[aC aD ((d:Int)+1),aJ vb (n-m) a] 209))):=((zGp _ _).alloc (zAa _) _).alloc (by rw[g];omega) _
 have ka:Hid (bB ((w1.alloc (aI #[aC aD ((d:Int)+1),aJ va m c] 209)).alloc (aI #[aC aD ((d:Int)+1),aJ vb (n-m) a] 209)) w1.heap.size 209 #[aC aD ((d:Int)+1),aJ va m c]):=(bB.new _ _ _).alloc _
 have kb:Hid (bB ((w1.alloc (aI #[aC aD ((d:Int)+1),aJ va m c] 209)).alloc (aI #[aC aD ((d:Int)+1),aJ vb (n-m) a] 209)) (w1.heap.size+1) 209 #[aC aD ((d:Int)+1),aJ vb (n-m) a]):=by have:=bB.new (w1.alloc (aI #[aC aD ((d:Int)+1),aJ va m c] 209)) 209 #[aC aD ((d:Int)+1),aJ vb (n-m) a];rw[g]at this;exact this
 clear g
 generalize(w1.alloc (aI #[aC aD ((d:Int)+1),aJ va m c] 209)).alloc (aI #[aC aD ((d:Int)+1),aJ vb (n-m) a] 209)=w2 at*
 have B:Hid (zb w w2):=aV K.out f.out K.out.size
 have P2:Hid (kM w2 t k):=P1.out.below f.out (zAa _)
 have T:Hid (dO w2):=U.out.below f.out (zAa _)
 have I:=quiet_of (w:=w2) λW h=>HX.out W (aV B.out h B.out.size).out
 have G:=quiet_of (w:=w2) λW h=>HY.out vb a W D H.out (aV B.out h B.out.size).out
 have o:=quiet_of (w:=w2) λW h=>TC t k X Y W C A (T.out.below h (zAa _)) (P2.out.below h (zAa _)) hX hY
 rw[hZ]at o
 have KA:Hid (∀W,(∃p:Regrown,W=Go.Sort.grow (redrawn w2 p.d) p.os)->bB W w1.heap.size 209 #[aC aD ((d:Int)+1),aJ va m c]):=λW h=>by obtain⟨p,rfl⟩:=h;exact ka.out.below (zGr w2 p.d p.os) ka.out.lt
 have KB:Hid (∀W,(∃p:Regrown,W=Go.Sort.grow (redrawn w2 p.d) p.os)->bB W (w1.heap.size+1) 209 #[aC aD ((d:Int)+1),aJ vb (n-m) a]):=λW h=>by obtain⟨p,rfl⟩:=h;exact kb.out.below (zGr w2 p.d p.os) kb.out.lt
 clear HX HY H K P1 U f ka kb P2 T J HC
 refine zGv (by kernel_rfl) (by kernel_rfl) ?_
 repeat (any_goals(first|(refine eI rfl 209 _ rfl w1.heap.size rfl 209 #[aC aD ((d:Int)+1),aJ va m c] _ KA.out ((Qz.cO 209).trans Tryz.underlying209) rfl (by kernel_rfl) ?_)|(refine eI rfl 209 _ rfl (w1.heap.size+1) rfl 209 #[aC aD ((d:Int)+1),aJ vb (n-m) a] _ KB.out ((Qz.cO 209).trans Tryz.underlying209) rfl (by kernel_rfl) ?_)|go_big_quiet_step ((first|exact I.out _ _|exact G.out _ _|exact o.out _ _))|quiet_step ((first|exact I.out _ _|exact G.out _ _|exact o.out _ _))))
 refine zHc ?_
 intro W1 s
 obtain⟨q,O⟩:=s
 have hb:Hid (zb w W1):=by rw[O];exact B.out.trans ((zGr w2 q.d q.os).mono B.out.size)
 clear O I G o KA KB
 go_wp2
 go_ret
 exact⟨rfl,hb.out⟩
def zM (t k:Nat)(o:1<=k)(i:k<=32):∀(n d c:Nat)(va:zO)(us:List bK)(w:zW),256-d=n->Sub us d->(∀u∈us,u.val.length<=100)->us.length<=1000000->us.length<=c->bI w va us->dO w->kM w t k->
  Calls zq 171 #[aN (aA ⟨t,0,aB⟩),.agg #[aC aD d,aJ va us.length c]] w λe D=>e=aL (aK ⟨(dR k (bF us) d).toArray⟩)/\zb w D:=by
 intro n
 induction n with
 |zero=>
  intro d c va us w H h g r s f q j;match us,h,g,f with
  |[],_,_,_=>exact zK t k d c va w j
  |[u],h,g,f=>exact yZ t k d c va u w o i (h.idx u (by simp)) (g u (by simp)) f q j
  |a::b::l,h,g,f=>have:=h.deep (by simp);omega
 |succ n z=>
  intro d c va us w H h g r s f q j;match us,h,g,f,r,s with
  |[],_,_,_,_,_=>exact zK t k d c va w j
  |[u],h,g,f,_,_=>exact yZ t k d c va u w o i (h.idx u (by simp)) (g u (by simp)) f q j
  |a::b::l,h,g,f,r,s=>
   have y:2<=(a::b::l).length:=by simp
   generalize a::b::l=us at*
   have I:=h.deep y
   obtain⟨m,hcut,C,B⟩:=h.cut
   have L:=hcut.le
   have G:(us.take m).length=m:=by rw[zAn];omega
   have F:(us.drop m).length=us.length-m:=zBa ..
   have A:=FF k d (bF us) (by rw[fY];exact y) I
   rw[<-fX,<-fX,<-C,<-B]at A
   refine KQ t k d c m us.length va us w o i (by omega) y rfl r s h.idx hcut f q j _ _ _ (jA k (d+1) _ i) (jA k (d+1) _ i) A.symm (λW p=> ?_) (λE K W J v p=> ?_)
   .have:=z (d+1) c va (us.take m) W (by omega) (by rw[C];exact h.half 0) (λu x=>g u (zCg x)) (by omega) (by omega) ((f.part m).below p (zAa _)) (q.below p (zAa _)) (j.below p (zAa _));rw[G]at this;exact this
   .have:=z (d+1) K E (us.drop m) W (by omega) (by rw[B];exact h.half 1) (λu x=>g u (zCb x)) (by omega) (by omega) ((f.rest m v).below p (zAa _)) (q.below p (zAa _)) (j.below p (zAa _));rw[F]at this;exact this
structure Tr where
 d:Nat
 va:zO
 c:Nat
 us:List bK
def Tr.cells (x:Tr):zV:=[aC aD (x.d:Int),aJ x.va x.us.length x.c]
def fO (l:List Tr):zV:=l.flatMap Tr.cells
def xC (x:Tr)(l:List Tr):fO (x::l)=x.cells++fO l:=rfl
def FH (l m:List Tr):fO (l++m)=fO l++fO m:=by simp[fO]
def FG (l:List Tr):(fO l).length=l.length*2:=by
 induction l with
 |nil=>rfl
 |cons u l i=>rw[xC,zAj,i,zAe];show 2+_=_;omega
def QS (l:List Tr):∀(i:Nat)(u:Tr),l[i]? =aA u->∀j,j<2->(fO l)[i*2+j]? =u.cells[j]? :=by
 induction l with
 |nil=>intro i u h;cases h
 |cons a l b=>
  intro i u h j c;rw[xC];cases i with
  |zero=>simp only[zDc,Option.some.injEq]at h;subst h;rw[zCe (by show _<2;omega)];simp
  |succ i=>rw[zBq (by show 2<=_;omega),show(i+1)*2+j-a.cells.length=i*2+j by show(i+1)*2+j-2=_;omega];exact b i u (by simpa using h) j c
def Tp (l:List Tr):∀x∈fO l,x.oneCell'=aE:=by intro x a;obtain⟨u,_,h⟩:=List.mem_flatMap.1 a;simp only[Tr.cells,zAg,zAt,zCp]at h;obtain rfl|rfl:=h<;>rfl
def fT (w:zW)(base:Nat)(v:zY)(l:List Tr):Prop:=w.ownsRow base 209 2 v l.length (fO l)
def fT.nil (w:zW)(base:Nat):fT w base (aJ aB 0 0) []:=World.ownsRow_nil _ _ _ _
def fT.alloc {w:zW}{base:Nat}{v:zY}{l:List Tr}(h:fT w base v l)(o:Obj):fT (w.alloc o) base v l:=World.ownsRow.alloc h o
def fT.lt {w:zW}{base:Nat}{v:zY}{l:List Tr}(h:fT w base v l):∀k,v.ownBlock=aA k->base<=k/\k<w.heap.size:=World.ownsRow.lt h
def fT.kept {w w':zW}{base:Nat}{v:zY}{l:List Tr}(h:fT w base v l)(b:∀g,v.ownBlock=aA g->w'.heap[g]? =w.heap[g]?):fT w' base v l:=by
 obtain⟨d,a⟩:=h;refine⟨d,?_⟩;obtain a|⟨g,cap,cur,rfl,hb,c,r⟩:=a
 .exact aG a
 .exact aH ⟨g,cap,cur,rfl,hb,by rw[b g rfl];exact c,r⟩
def fT.below {w w':zW}{B base:Nat}{v:zY}{l:List Tr}(h:fT w base v l)(b:Below B w w')(c:w.heap.size<=B):fT w' base v l:=
 h.kept λg a=>b.block g (zAc (h.lt g a).2 c)
def Ot:∃i,zq.info? 209=aA i/\i.zero=aA (.agg #[aC aD 0,aJ aB 0 0])/\i.size=2/\i.bytes=32:=by
 have h:(zq.info? 209).map (λi=>(i.zero,i.size,i.bytes))=aA (aA (.agg #[aC aD 0,aJ aB 0 0]),2,32):=by kernel_rfl
 cases a:zq.info? 209 with
 |none=>rw[a]at h;cases h
 |some i=>rw[a]at h;simp only[zAx,Option.some.injEq,Prod.mk.injEq]at h;exact⟨i,rfl,h.1,h.2.1,h.2.2⟩
def JL {W:zW}{ops:zQ}{rest:List Oper}{o:Oper}{a:Act}{Q:zX}(f:o.guard=aB)(s x:Operand)
  (q:o.op= .call {callee:= .builtin .append,args:= #[s,x],argTypes:= #[210,210]})
  (base:Nat) (v:zY) (l:List Tr) (hs:a.eval s=v) (b:fT W base v l) (ys:List Tr) (c:Nat) (p:a.eval x=aJ (aA ⟨W.heap.size,0,aB⟩) ys.length c) (d:0<ys.length)
  (w:l.length+ys.length<=1000000) (m:base<=W.heap.size)
  (h:∀g cap w',fT w' base (aJ (aA ⟨g,0,aB⟩) (l.length+ys.length) cap) (l++ys)->W.grownBy w' v.ownBlock->wpList zq ops Q rest (a.put o.dst (aJ (aA ⟨g,0,aB⟩) (l.length+ys.length) cap)) w'):wpList zq ops Q (o::rest) a (W.alloc (aI (fO ys).toArray 209)):=by
 obtain⟨i,r,n,e,k⟩:=Ot
 refine wpList_append_lies _ f s x 210 q base 209 i _ 2 32 ((Qz.cO 210).trans Tryz.underlying210) r n e k rfl (by omega) v l.length (fO l) hs (World.ownsRow.alloc b _) ⟨W.heap.size,0,aB⟩ ys.length c (fO ys) p (FG ys) (λj y d=> ?_) (Tp ys) d (by simp only[maxLen];omega) (by omega) (by rw[size_alloc];omega) _ rfl (λg cap w' u t _ _=>h g cap w' ?_ (lC t))
 .rw[addr_add,zAv,(bB.new W 209 (fO ys).toArray).cell j];simpa using d
 .unfold fT;rw[FH,zAj];exact u
def nM {w0 w w':zW}{B base:Nat}{v:zY}{l:List Tr}(d:Below B w0 w)(h:fT w base v l)(c:w.grownBy w' v.ownBlock)(e:B<=base)(a:B<=w.heap.size):Below B w0 w':=
 d.grown c a λk b=>zBl e (h.lt k b).1
def lE (w:zW)(va:zO)(l:List Tr):Prop:=0<l.length->∃g o,va=aA ⟨g,o,aB⟩/\g<w.heap.size/\∀i x,l[i]? =aA x->w.cell? ⟨g,o+i*2,aB⟩=aA (aC aD (x.d:Int))/\w.cell? ⟨g,o+i*2+1,aB⟩=aA (aJ x.va x.us.length x.c)
def lE.below {w w':zW}{B:Nat}{va:zO}{l:List Tr}(h:lE w va l)(b:Below B w w')(c:w.heap.size<=B):lE w' va l:=λj=>by obtain⟨g,o,e,a,f⟩:=h j;refine⟨g,o,e,zAc a b.size,λi x d=> ?_⟩;rw[b.cell (p:=⟨g,o+i*2,aB⟩) (zAc a c),b.cell (p:=⟨g,o+i*2+1,aB⟩) (zAc a c)];exact f i x d
def fT.at {w:zW}{base:Nat}{v:zY}{l:List Tr}(h:fT w base v l):∃va c,v=aJ va l.length c/\lE w va l:=by
 obtain⟨rfl,b⟩|⟨g,cap,cur,rfl,hb,e,_⟩:=h.2
 .exact⟨aB,0,by rw[b],λm=>by omega⟩
 .refine⟨_,cap,rfl,λb=>⟨g,0,rfl,(zAb.1 e).1,λi x a=> ?_⟩⟩;have f:=(zAi.1 a).1;have k:=λj (d:j<2)=>(World.ownsRow.cellAt h (i*2+j) (by omega)).trans (QS l i x a j d);rw[zAv];exact⟨(k 0 (by decide)).trans rfl,(k 1 (by decide)).trans rfl⟩
def tP (d n c:Nat)(va:zO)(w:zW)(f:n<=1000000):
  Calls zq 167 #[.agg #[aC aD d,aJ va n c]] w λe a=>e=aL (.bool (decide (n<2)))/\zb w a:=by
 have b0:Hid (zb w (w.alloc (aI #[aC aD (d:Int),aJ va n c] 209))):=(zGp _ _).alloc (zAa _) _
 have k:=(bB.new w 209 #[aC aD (d:Int),aJ va n c])
 have g:(w.alloc (aI #[aC aD (d:Int),aJ va n c] 209)).cell? ⟨w.heap.size,1,aB⟩=aA (aJ va n c):=(k.cell 1).trans rfl
 clear k
 go_enter Qz.func167,Tryz.ntmps167
 go_upto_region 1 with(fail)
 generalize w.alloc (aI #[aC aD (d:Int),aJ va n c] 209)=w0 at*
 by_cases h:n<2
 .have b:(n:Int)<2:=by omega
  go_wp2;go_ret;exact⟨by rw[zEi h];rfl,b0.out⟩
 .have b:¬(n:Int)<2:=by omega
  go_wp2;go_ret;exact⟨by first|rfl|(rw[zCy h];rfl),b0.out⟩
def isNode (x:Tr):Bool:=decide (2<=x.us.length)
def BP {α:Type}(p:α->Bool)(l:List α)(t:Nat)(x:α)(h:l[t]? =aA x):(l.take (t+1)).filter p=(l.take t).filter p++(if p x then [x]else []):=by
 obtain⟨c,b⟩:=zAi.1 h;rw[zBv c,zEd,b];congr 1;by_cases a:p x=aE
 .rw[zAk a,zBj a];rfl
 .rw[zAh a,zAu a];rfl
def Ex (va:zO)(c:Nat)(l:List Tr)(w:zW)(I:lE w va l)(R:l.length<=1000)(hs:∀x∈l,x.us.length<=1000000):
  Calls zq 169 #[aJ va l.length c] w λe r=>∃F,e=aL F/\fT r w.heap.size F (l.filter isNode)/\zb w r:=by
 have O:Hid (lE w va l):=I
 have N:Hid (∀x∈l,x.us.length<=1000000):=hs
 clear I hs
 go_enter Qz.func169,Tryz.ntmps169
 go_wp2
 go_loopg [3,8] l.length (λq out i wr=>∃t:Nat,t+q=l.length/\i=aC aD (t:Int)/\zb w wr/\fT wr w.heap.size out ((l.take t).filter isNode))
 case atStart=>exact⟨0,by omega,rfl,zGp _ _,fT.nil _ _⟩
 case round=>
  obtain⟨t,Q,rfl,b1,L⟩:=hrel
  have B:Hid (zb w wr):=b1
  have p:Hid (fT wr w.heap.size u3 ((l.take t).filter isNode)):=L
  clear b1 L
  by_cases bU:t<l.length
  .have s:(t:Int)<(l.length:Int):=by omega
   obtain⟨g,o,rfl,S,G⟩:=O.out.below B.out (zAa _) (by omega);have M:=BP isNode l t l[t] (zAf bU);obtain⟨K,c1⟩:=G t l[t] (zAf bU);have j:=N.out l[t] (zCr _);clear G;generalize l[t]=x at*;obtain⟨d,b,a,us⟩:=x;dsimp only at K c1 j;go_upto_region 5 with(fail)
   have m:Hid (bB (wr.alloc (aI #[aC aD (d:Int),aJ b us.length a] 209)) wr.heap.size 209 #[aC aD (d:Int),aJ b us.length a]):=bB.new _ _ _
   have D:Hid (zb w (wr.alloc (aI #[aC aD (d:Int),aJ b us.length a] 209))):=B.out.alloc B.out.size _
   have P:Hid (fT (wr.alloc (aI #[aC aD (d:Int),aJ b us.length a] 209)) w.heap.size u3 ((l.take t).filter isNode)):=p.out.alloc _
   generalize wr.alloc (aI #[aC aD (d:Int),aJ b us.length a] 209)=w1 at*
   have f:Hid ((l.take (t+1)).filter isNode=(l.take t).filter isNode++(if isNode ⟨d,b,a,us⟩then [⟨d,b,a,us⟩]else [])):=M
   clear M B p K c1
   go_wp2_with (refine zGq rfl 209 _ rfl wr.heap.size rfl 209 _ (0,0) _ m.out ((Qz.cO 209).trans Tryz.underlying209) rfl (by kernel_rfl) ?_)
   refine(tP d us.length a b w1 j).mono ?_
   rintro e w2 ⟨rfl,h⟩
   have A:Hid (bB w2 wr.heap.size 209 #[aC aD (d:Int),aJ b us.length a]):=m.out.below h m.out.lt
   have H:Hid (zb w w2):=aV D.out h D.out.size
   have E:Hid (fT w2 w.heap.size u3 ((l.take t).filter isNode)):=P.out.below h (zAa _)
   clear h m D P
   by_cases u:us.length<2
   .have n:Hid ((l.take (t+1)).filter isNode=(l.take t).filter isNode):=by
     rw[f.out,zAh (by unfold isNode;simp;omega),zAy];exact rfl
    rw[zEi u];dsimp only;go_wp2_with fail;go_roundg (l.length-(t+1));case measure=>omega
    case rel=>
     go_light
     exact⟨t+1,by omega,by go_num,H.out,by rw[n.out];exact E.out⟩
   .have n:Hid ((l.take (t+1)).filter isNode=(l.take t).filter isNode++[⟨d,b,a,us⟩]):=by
     rw[f.out,zAk (by unfold isNode;simp;omega)];exact rfl
    rw[zCy u];have z:w.heap.size<=w2.heap.size:=H.out.size;have v:((l.take t).filter isNode).length+1<=1000000:=by have:=List.length_filter_le isNode (l.take t);rw[zAn]at this;omega
    have U:Hid (((l.take t).filter isNode).length+1=((l.take (t+1)).filter isNode).length):=by rw[n.out,zAj];exact rfl
    clear f N O u
    dsimp only
    go_wp2_with (first|(refine zGq rfl 209 _ rfl wr.heap.size rfl 209 _ (0,0) _ A.out ((Qz.cO 209).trans Tryz.underlying209) rfl (by kernel_rfl) ?_)|(at_builtin;refine JL rfl _ _ rfl w.heap.size _ _ rfl E.out [⟨d,b,a,us⟩] 1 rfl (zEj _) v z ?_;intro T J r k y))
    go_roundg (l.length-(t+1))
    case measure=>omega
    case rel=>
     go_light
     refine⟨t+1,by omega,by go_num,nM H.out E.out y (zAa _) H.out.size,?_⟩
     rw[n.out]
     exact k
  .have s:¬(t:Int)<(l.length:Int):=by omega
   obtain rfl:t=l.length:=by omega
   have C:Hid (fT wr w.heap.size u3 (l.filter isNode)):=by have:=p.out;rw[zEf]at this;exact this
   clear p
   go_wp2
   go_ret
   exact⟨u3,rfl,C.out,B.out⟩
structure iY (w:zW)(x:Tr):Prop where
 tN:bI w x.va x.us
 sub:Sub x.us x.d
 eV:∀u∈x.us,u.val.length<=100
 len:x.us.length<=1000000
 cap:x.us.length<=x.c
def iY.below {w w':zW}{B:Nat}{x:Tr}(h:iY w x)(a:Below B w w')(b:w.heap.size<=B):iY w' x:=⟨h.tN.below a b,h.sub,h.eV,h.len,h.cap⟩
structure Ni (x y z:Tr):Prop where
 d0:y.d=x.d+1
 d1:z.d=x.d+1
 u0:y.us=dW x.d 0 x.us
 u1:z.us=dW x.d 1 x.us
 b0:∀a,y.va=aA a->∃b,x.va=aA b/\b.block=a.block
 b1:∀a,z.va=aA a->∃b,x.va=aA b/\b.block=a.block
inductive iI:List Tr->List Tr->Prop where
 |nil:iI [] []
 |snoc {l m:List Tr} {x y z:Tr}:iI l m->Ni x y z->iI (l++[x]) (m++[y,z])
def iI.len {l m:List Tr}(h:iI l m):m.length=2*l.length:=by
 induction h with
 |nil=>rfl
 |snoc _ _ i=>simp;omega
def tZ {W:zW}{ops:zQ}{rest:List Oper}{o:Oper}{a:Act}{Q:zX}(e:o.guard=aB)(s x:Operand)
  (k:o.op= .call {callee:= .builtin .append,args:= #[s,x],argTypes:= #[210,210]})
  (base:Nat) (v:zY) (l:List Tr) (hs:a.eval s=v) (d:fT W base v l) (ys:List Tr) (n:Nat) (m:n=ys.length) (cs:zA) (f:cs=(fO ys).toArray) (c:Nat) (j:a.eval x=aJ (aA ⟨W.heap.size,0,aB⟩) n c) (i:0<ys.length)
  (p:l.length+ys.length<=1000000) (b:base<=W.heap.size)
  (h:∀g cap w',fT w' base (aJ (aA ⟨g,0,aB⟩) (l.length+n) cap) (l++ys)->W.grownBy w' v.ownBlock->wpList zq ops Q rest (a.put o.dst (aJ (aA ⟨g,0,aB⟩) (l.length+n) cap)) w'):wpList zq ops Q (o::rest) a (W.alloc (aI cs 209)):=by
 subst f
 subst m
 exact JL e s x k base v l hs d ys c j i p b h
def XK (va:zO)(c:Nat)(l:List Tr)(w:zW)(hA:lE w va l)(hl:l.length<=1000)(hs:∀x∈l,iY w x/\2<=x.us.length):
  Calls zq 173 #[aJ va l.length c] w λe Q=>∃v' m,e=aL v'/\iI l m/\(∀x∈m,iY w x)/\fT Q w.heap.size v' m/\zb w Q:=by
 have HA:Hid (lE w va l):=hA
 have HS:Hid (∀x∈l,iY w x/\2<=x.us.length):=hs
 clear hA hs
 go_enter Qz.func173,Tryz.ntmps173
 go_wp2
 go_loopg [3,10] l.length (λq out i wr=>∃t:Nat,t+q=l.length/\i=aC aD (t:Int)/\zb w wr/\∃m,iI (l.take t) m/\(∀x∈m,iY w x)/\fT wr w.heap.size out m)
 case atStart=>exact⟨0,by omega,rfl,zGp _ _,[],.nil,⟨λx r=>absurd r zAt,fT.nil _ _⟩⟩
 case round=>
  obtain⟨t,ht,rfl,b1,m,b2,b3,b4⟩:=hrel
  have O:Hid (zb w wr):=b1
  have N:Hid (iI (l.take t) m):=b2
  have B3:Hid (∀x∈m,iY w x):=b3
  have B4:Hid (fT wr w.heap.size u3 m):=b4
  clear b1 b2 b3 b4
  by_cases bU:t<l.length
  .have T:(t:Int)<(l.length:Int):=by omega
   obtain⟨g,o,rfl,hg,hc⟩:=HA.out.below O.out (zAa _) (by omega);have Hs:Hid (l.take (t+1)=l.take t++[l[t]]):=zBv bU;obtain⟨c0,c1⟩:=hc t l[t] (zAf bU);obtain⟨p,I⟩:=HS.out l[t] (zCr _);have E:Hid (iY w l[t]):=p;have F:=p.len;have G:=p.cap;have R:=p.sub.deep I;clear hc p;have U:m.length=2*t:=by rw[N.out.len,zAn];omega
   generalize l[t]=x at*
   obtain⟨d,f,h,us⟩:=x
   dsimp only at c0 c1 I F G R
   go_upto_region 5 with(fail)
   have Hk:Hid (bB (wr.alloc (aI #[aC aD (d:Int),aJ f us.length h] 209)) wr.heap.size 209 #[aC aD (d:Int),aJ f us.length h]):=bB.new _ _ _
   have P:Hid (zb w (wr.alloc (aI #[aC aD (d:Int),aJ f us.length h] 209))):=O.out.alloc O.out.size _
   have C1:Hid (fT (wr.alloc (aI #[aC aD (d:Int),aJ f us.length h] 209)) w.heap.size u3 m):=B4.out.alloc _
   generalize wr.alloc (aI #[aC aD (d:Int),aJ f us.length h] 209)=w1 at*
   clear O B4 c0 c1
   obtain⟨n,hcut,e0,e1⟩:=E.out.sub.cut
   have HH:=oL d n h f us w1 F G (by omega) ((E.out.below P.out (zAa _)).tN) E.out.sub.idx hcut
   have nk:n<=us.length:=hcut.le
   have E0:Hid (us.take n=dW d 0 us):=e0
   have Z:Hid (us.drop n=dW d 1 us):=e1
   clear hcut e0 e1
   go_wp2_with (refine zGq rfl 209 _ rfl wr.heap.size rfl 209 _ (0,0) _ Hk.out ((Qz.cO 209).trans Tryz.underlying209) rfl (by kernel_rfl) ?_)
   refine HH.mono ?_
   clear HH
   rintro e w2 ⟨j,k,rfl,jg,J,L,A⟩
   have D:Hid (zb w w2):=aV P.out A P.out.size
   have C2:Hid (fT w2 w.heap.size u3 m):=C1.out.below A (zAa _)
   have HV:Hid (n<us.length->j=Option.map (λx=>x.add (n*3)) f):=J
   have M:Hid (∀a,j=aA a->∃b,f=aA b/\b.block=a.block):=L
   clear A Hk P C1 J L
   dsimp only
   go_upto_region 6 with(fail)
   have s:∀(v:zW)(ob:Obj),(v.alloc ob).heap.size=v.heap.size+1:=λv ob=>zBb ..
   have B:Hid (zb w2 ((w2.alloc (aI #[aC aD ((d:Int)+1),aJ f n h] 209)).alloc (aI #[aC aD ((d:Int)+1),aJ j (us.length-n) k] 209))):=((zGp _ _).alloc (zAa _) _).alloc (by rw[s];omega) _
   have ka:Hid (bB ((w2.alloc (aI #[aC aD ((d:Int)+1),aJ f n h] 209)).alloc (aI #[aC aD ((d:Int)+1),aJ j (us.length-n) k] 209)) w2.heap.size 209 #[aC aD ((d:Int)+1),aJ f n h]):=(bB.new _ _ _).alloc _
   have kb:Hid (bB ((w2.alloc (aI #[aC aD ((d:Int)+1),aJ f n h] 209)).alloc (aI #[aC aD ((d:Int)+1),aJ j (us.length-n) k] 209)) (w2.heap.size+1) 209 #[aC aD ((d:Int)+1),aJ j (us.length-n) k]):=by have:=bB.new (w2.alloc (aI #[aC aD ((d:Int)+1),aJ f n h] 209)) 209 #[aC aD ((d:Int)+1),aJ j (us.length-n) k];rw[s]at this;exact this
   clear s
   generalize(w2.alloc (aI #[aC aD ((d:Int)+1),aJ f n h] 209)).alloc (aI #[aC aD ((d:Int)+1),aJ j (us.length-n) k] 209)=w3 at*
   have H:Hid (zb w w3):=aV D.out B.out D.out.size
   have C4:Hid (fT w3 w.heap.size u3 m):=C2.out.below B.out (zAa _)
   have ln:(us.take n).length=n:=by rw[zAn];omega
   have lz:(us.drop n).length=us.length-n:=zBa ..
   have HY:Hid (iY w ⟨d+1,f,h,us.take n⟩):=by have:=E.out;exact⟨this.tN.part n,by show Sub (us.take n) (d+1);rw[E0.out];exact this.sub.half 0,λu S=>this.eV u (zCg S),by show(us.take n).length<=_;omega,by show(us.take n).length<=h;omega⟩
   have HZ:Hid (iY w ⟨d+1,j,k,us.drop n⟩):=by have:=E.out;exact⟨this.tN.rest n HV.out,by show Sub (us.drop n) (d+1);rw[Z.out];exact this.sub.half 1,λu S=>this.eV u (zCb S),by show(us.drop n).length<=_;omega,by show(us.drop n).length<=k;omega⟩
   have HP:Hid (iI (l.take (t+1)) (m++[⟨d+1,f,h,us.take n⟩,⟨d+1,j,k,us.drop n⟩])):=by rw[Hs.out];exact .snoc N.out ⟨rfl,rfl,E0.out,Z.out,λa ha=>⟨a,ha,rfl⟩,M.out⟩
   have X:Hid ((#[aC aD ((d:Int)+1),aJ f n h,aC aD ((d:Int)+1),aJ j (us.length-n) k]:zA)=(fO [⟨d+1,f,h,us.take n⟩,⟨d+1,j,k,us.drop n⟩]).toArray):=by
    show _=(#[aC aD ((d:Int)+1),aJ f (us.take n).length h,aC aD ((d:Int)+1),aJ j (us.drop n).length k]:zA)
    rw[ln,lz]
   generalize(⟨d+1,f,h,us.take n⟩:Tr)=y at*
   generalize(⟨d+1,j,k,us.drop n⟩:Tr)=z at*
   have Y:w.heap.size<=w3.heap.size:=H.out.size
   have V:m.length+2<=1000000:=by omega
   clear HS HA E Hs ln lz E0 Z HV M B C2 D N
   go_wp2_with (first|(refine zGq rfl 209 _ rfl w2.heap.size rfl 209 _ (0,0) _ ka.out ((Qz.cO 209).trans Tryz.underlying209) rfl (by kernel_rfl) ?_)|(refine zGq rfl 209 _ rfl (w2.heap.size+1) rfl 209 _ (0,0) _ kb.out ((Qz.cO 209).trans Tryz.underlying209) rfl (by kernel_rfl) ?_)|(at_builtin;refine tZ rfl _ _ rfl w.heap.size _ _ rfl C4.out [y,z] 2 rfl _ X.out 2 rfl (zEj _) V Y ?_;intro g' Mk Q K W))
   go_roundg (l.length-(t+1))
   case measure=>omega
   case rel=>
    go_light
    refine⟨t+1,by omega,by go_num,nM H.out C4.out W (zAa _) H.out.size,_,HP.out,λx r=> ?_,by rw[<-U];exact K⟩
    obtain r|r:=zCh.1 r
    .exact B3.out x r
    .obtain rfl|r:=zAg.1 r
     .exact HY.out
     .rw[zAw.1 r];exact HZ.out
  .have T:¬(t:Int)<(l.length:Int):=by omega
   obtain rfl:t=l.length:=by omega
   have C:Hid (iI l m):=by have:=N.out;rw[zEf]at this;exact this
   clear N
   go_wp2
   go_ret
   exact⟨u3,rfl,m,C.out,B3.out,B4.out,O.out⟩
end Go.Proofs.Zq
