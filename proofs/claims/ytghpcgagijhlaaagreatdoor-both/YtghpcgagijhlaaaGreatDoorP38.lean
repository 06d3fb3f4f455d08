import Derived.Lib.SliceRun
import Derived.Test.YtghpcgagijhlaaaGreatDoorP37
set_option linter.all false
set_option maxRecDepth 100000
set_option maxHeartbeats 16000000
open Option renaming some->aA,none->aB
open Bool renaming true->aE,false->aF
open Or renaming inl->aG,inr->aH
open Go.Ending renaming returned->aL
open Go.Obj renaming cells->aI
open Go.IntKind renaming i64->aD
open Go.Value renaming slice->aJ,string->aK,int->aC
open Go.Lib renaming compareBytes->aDw,run_eql_slice_nil->aDQ
namespace Go.Proofs.Zq
open Go.RowKit Sha
def Fq:∀(f d c j:Nat)(va v:zO)(us cs:List bK)(w:zW),256-d=f->Sub us d->Sub cs d->us.length<=1000->cs.length<=1000->us.length<=c->cs.length<=j->bI w va us->bI w v cs->
  Calls zq 162 #[.agg #[aC aD d,aJ va us.length c],.agg #[aC aD d,aJ v cs.length j]] w λe s=>e=aL (aC aD (gS f us cs d))/\zb w s:=by
 have one:∀(f d c j:Nat)(va v:zO)(u:bK)(cs:List bK)(w:zW),JM cs->cs.length<=1000->bI w va [u]->bI w v cs->¬cs.length=0->
   Calls zq 162 #[.agg #[aC aD d,aJ va 1 c],.agg #[aC aD d,aJ v cs.length j]] w λe s=>e=aL (aC aD (gS f [u] cs d))/\zb w s:=by
  intro f d c j va v u cs w P B m o g
  rw[wQ f u cs d (by omega)]
  have:=Fp d c j cs.length va v u cs w m o P rfl (by omega) (by omega)
  refine this.mono λe s h=>⟨h.1.trans ?_,h.2⟩
  cases vD u.idx cs<;>rfl
 intro f
 induction f with
 |zero=>
  intro d c j va v us cs w Q k i B r C t m o;by_cases g:us.length=0\/cs.length=0
  .rw[iU _ _ _ _ g];exact IL d c j us.length cs.length va v w g
  .match us,k,m,g with
   |[],_,_,g=>exact absurd (aG rfl) g
   |[u],k,m,g=>exact one 0 d c j va v u cs w i.order r m o (λh=>g (aH h))
   |a::b::l,k,_,_=>have:=k.deep (by simp);omega
 |succ f I=>
  intro d c j va v us cs w Q k i B r C t m o;by_cases g:us.length=0\/cs.length=0
  .rw[iU _ _ _ _ g];exact IL d c j us.length cs.length va v w g
  .match us,k,m,g,B,C with
   |[],_,_,g,_,_=>exact absurd (aG rfl) g
   |[u],k,m,g,_,_=>exact one (f+1) d c j va v u cs w i.order r m o (λh=>g (aH h))
   |a::b::l,k,m,g,B,C=>
    have y:2<=(a::b::l).length:=by simp
    generalize a::b::l=us at*
    have X:=k.deep y
    obtain⟨p,hcut,M,L⟩:=k.cut
    obtain⟨q,n,A,z⟩:=i.cut
    have V:=hcut.le
    have U:=n.le
    have O:(us.take p).length=p:=by rw[zAn];omega
    have N:(us.drop p).length=us.length-p:=zBa ..
    have G:(cs.take q).length=q:=by rw[zAn];omega
    have F:(cs.drop q).length=cs.length-q:=zBa ..
    have J:=DO f us cs d y (by omega)
    rw[<-M,<-L,<-A,<-z]at J
    have b0:=BO f (us.take p) (cs.take q) (d+1)
    have b1:=BO f (us.drop p) (cs.drop q) (d+1)
    have K:f+1<=256:=by omega
    have T:(f+1)*(us.take p).length<=256*1000:=Nat.mul_le_mul K (by omega)
    have S:(f+1)*(us.drop p).length<=256*1000:=Nat.mul_le_mul K (by omega)
    have:=YP d c j us.length cs.length p q va v us cs w (by omega) y rfl rfl (by omega) (by omega) (by omega) C t k.idx i.idx hcut n m o (gS f (us.take p) (cs.take q) (d+1)) (gS f (us.drop p) (cs.drop q) (d+1)) (by omega) (by omega) (λW x=> ?_) (λE c' D H W Z y Y R x=> ?_)
    .refine this.mono λe s h=>⟨h.1.trans ?_,h.2⟩;rw[J];congr 2;omega
    .have:=I (d+1) c j va v (us.take p) (cs.take q) W (by omega) (by rw[M];exact k.half 0) (by rw[A];exact i.half 0) (by omega) (by omega) (by omega) (by omega) ((m.part p).below x (zAa _)) ((o.part q).below x (zAa _));rw[O,G]at this;exact this
    .have:=I (d+1) c' H E D (us.drop p) (cs.drop q) W (by omega) (by rw[L];exact k.half 1) (by rw[z];exact i.half 1) (by omega) (by omega) (by omega) (by omega) ((m.rest p y).below x (zAa _)) ((o.rest q R).below x (zAa _));rw[N,F]at this;exact this
def uF (va:zO)(n c:Nat)(w:zW):
  Calls zq 158 #[aJ va n c] w λe a=>e=aL (.agg #[aC aD 0,aJ va n c])/\zb w a:=by
 have b0:Hid (zb w (w.alloc (aI #[aC aD 0,aJ aB 0 0] 209))):=(zGp _ _).alloc (zAa _) _
 have k:Hid (bB (w.alloc (aI #[aC aD 0,aJ aB 0 0] 209)) w.heap.size 209 #[aC aD 0,aJ aB 0 0]):=bB.new _ _ _
 go_enter Qz.func158,Tryz.ntmps158
 go_upto_region 1 with(fail)
 generalize w.alloc (aI #[aC aD 0,aJ aB 0 0] 209)=w0 at*
 go_wp2_with (refine zGs rfl 209 _ _ rfl w.heap.size #[aC aD 0,aJ va n c] rfl rfl _ _ k.out (by kernel_rfl) rfl (by simp[Value.oneCell']) ?_)
 have k1:=k.out.cH #[aC aD 0,aJ va n c]
 refine zHb (zHj rfl _ _ w.heap.size _ _ _ _ rfl k1 ((Qz.cO 209).trans Tryz.underlying209) rfl (by kernel_rfl)) rfl ?_
 exact⟨rfl,bN b0.out (zAa _) _⟩
def TV (u:bK)(w:zW):
  Calls zq 174 #[.agg #[aK ⟨u.idx.toArray⟩,aK ⟨u.val.toArray⟩,.bool u.gone]] w λe a=>e=aL (.agg #[aK ⟨(gK u).idx.toArray⟩,aK ⟨(gK u).val.toArray⟩,.bool (gK u).gone])/\zb w a:=by
 have h:∀(v:zW)(o:Obj),(v.alloc o).heap.size=v.heap.size+1:=λv o=>zBb ..
 have b0:Hid (zb w ((w.alloc (aI #[aK ⟨u.idx.toArray⟩,aK ⟨u.val.toArray⟩,.bool u.gone] 53)).alloc (aI #[aK ⟨#[]⟩,aK ⟨#[]⟩,.bool aF] 53))):=((zGp _ _).alloc (zAa _) _).alloc (by rw[h];omega) _
 have k:Hid (bB ((w.alloc (aI #[aK ⟨u.idx.toArray⟩,aK ⟨u.val.toArray⟩,.bool u.gone] 53)).alloc (aI #[aK ⟨#[]⟩,aK ⟨#[]⟩,.bool aF] 53)) w.heap.size 53 #[aK ⟨u.idx.toArray⟩,aK ⟨u.val.toArray⟩,.bool u.gone]):=(bB.new _ _ _).alloc _
 have k1:Hid (bB ((w.alloc (aI #[aK ⟨u.idx.toArray⟩,aK ⟨u.val.toArray⟩,.bool u.gone] 53)).alloc (aI #[aK ⟨#[]⟩,aK ⟨#[]⟩,.bool aF] 53)) (w.heap.size+1) 53 #[aK ⟨#[]⟩,aK ⟨#[]⟩,.bool aF]):=by have:=bB.new (w.alloc (aI #[aK ⟨u.idx.toArray⟩,aK ⟨u.val.toArray⟩,.bool u.gone] 53)) 53 #[aK ⟨#[]⟩,aK ⟨#[]⟩,.bool aF];rw[h]at this;exact this
 clear h
 go_enter Qz.func174,Tryz.ntmps174
 go_upto_region 1 with(fail)
 generalize(w.alloc (aI #[aK ⟨u.idx.toArray⟩,aK ⟨u.val.toArray⟩,.bool u.gone] 53)).alloc (aI #[aK ⟨#[]⟩,aK ⟨#[]⟩,.bool aF] 53)=w0 at*
 have f0:w0.cell? ⟨w.heap.size,0,aB⟩=aA (aK ⟨u.idx.toArray⟩):=(k.out.cell 0).trans rfl
 go_wp2_with (refine zGs rfl 53 _ _ rfl (w.heap.size+1) #[aK ⟨u.idx.toArray⟩,aK ⟨#[]⟩,.bool aE] rfl rfl _ _ k1.out (by kernel_rfl) rfl (by simp[Value.oneCell']) ?_)
 have k2:=k1.out.cH #[aK ⟨u.idx.toArray⟩,aK ⟨#[]⟩,.bool aE]
 refine zHb (zHj rfl _ _ (w.heap.size+1) _ _ _ _ rfl k2 ((Qz.cO 53).trans Tryz.underlying53) rfl (by kernel_rfl)) rfl ?_
 exact⟨rfl,bN b0.out (by omega) _⟩
def VE (w:zW)(o:Obj)(t:zD)(cs:zA)(r:Nat)(h:r=w.heap.size+1:=by rfl):bB ((w.alloc o).alloc (aI cs t)).drew r t cs:=by subst h;have:=bB.new (w.alloc o) t cs;rw[show(w.alloc o).heap.size=w.heap.size+1 from zBb ..]at this;exact this
def JJ (w:zW)(o a:Obj):zb w ((w.alloc o).alloc a).drew:=by have h:zb w ((w.alloc o).alloc a):=((zGp _ _).alloc (zAa _) _).alloc (by rw[show(w.alloc o).heap.size=w.heap.size+1 from zBb ..];omega) _;exact⟨h.os,h.tape,h.output,h.size,h.block⟩
def eX {B:Nat}{w w':zW}(h:Below B w w'):Below B w w'.drew:=⟨h.os,h.tape,h.output,h.size,h.block⟩
def yN:∀a b:zB,Op.bytesLess a b=decide (aDw a b= -1)
 |[],[]=>rfl
 |[],_::_=>rfl
 |_::_,[]=>rfl
 |x::a,y::b=>by
  rw[Op.bytesLess,aDw,yN a b];by_cases c:x<y
  .simp[c]
  .by_cases h:y<x
   .have:(x==y)=aF:=zCf.2 λe=>by rw[e]at h;exact UInt8.lt_irrefl _ h
    simp[c,h,this]
   .have e:x=y:=zFy (zEr.1 h) (zEr.1 c);subst e;simp[c]
def Gf {a n:List bK}(h:a=[]\/n=[]):cP a n=a.map gK++n:=by
 obtain rfl|rfl:=h
 .rw[Gg];rfl
 .rw[Gh,zAy]
def sC {P:zZ}(w:zW)(t ty e:zD)(i:TypeInfo)(h:P.underlying t=aA (.slice e))(d:P.info? e=aA i)(b va:zO)(n cap c:Nat)(a:n<=cap):
  (Builtin.append_ #[t,t] ty #[aJ b n cap,aJ va 0 c]).run P w= .ok (aJ b n cap) w:=by
 cases b<;>cases va<;>simp[Builtin.append_,run_underlying h,sizeOf,typeInfo,d,Builtin.lenOf,Builtin.firstCells,loadCells,loadCellsFrom,storeCells,a]
def wV {W:zW}{ops:zQ}{rest:List Oper}{o:Oper}{a:Act}{Q:zX}(k:o.guard=aB)(s x:Operand)
  (w:o.op= .call {callee:= .builtin .append,args:= #[s,x],argTypes:= #[48,48]})
  (base:Nat) (v:zY) (l us:List bK) (va:zO) (c:Nat) (hs:a.eval s=v) (d:cI W base v l) (r:a.eval x=aJ va us.length c) (H:bI W va us)
  (L:l.length<=1000000) (t:us.length<=1000000) (f:base<=W.heap.size)
  (h:∀v' w',cI w' base v' (l++us)->W.grownBy w' v.ownBlock->wpList zq ops Q rest (a.put o.dst v') w'):wpList zq ops Q (o::rest) a W:=by
 obtain⟨i,z,C,p,q⟩:=FD
 by_cases J:us.length=0
 .have e:us=[]:=zBr J;subst e;have E:∃b cap,v=aJ b l.length cap/\l.length<=cap:=by
   obtain⟨rfl,n⟩|⟨g,cap,cur,rfl,_,_,n,_⟩:=d.2
   .exact⟨aB,0,by rw[n],by omega⟩
   .exact⟨_,cap,rfl,n⟩
  obtain⟨b,cap,rfl,m⟩:=E;refine wpList_append_run k s x _ _ w _ _ hs r (sC W _ _ _ i ((Qz.cO 48).trans Tryz.underlying48) z b va _ cap c m) ?_;exact h _ _ (by rw[zAy];exact d) ⟨rfl,rfl,rfl,zAa _,λ_ _ _=>rfl⟩
 .obtain⟨g,B,rfl,K,G⟩:=H (by omega);refine wpList_append_lies _ k s x 48 w base 53 i _ 3 40 ((Qz.cO 48).trans Tryz.underlying48) z C p q rfl (by omega) v l.length (bH l) hs d ⟨g,B,aB⟩ us.length c (bH us) r (cY us) (λj u F=>by rw[addr_add];exact G j u F) (λu t=> ?_) (by omega) (by simp only[maxLen];omega) (by omega) f _ rfl ?_
  .obtain⟨y,_,D⟩:=List.mem_flatMap.1 t;exact EH y u D
  .intro M A w' n I _ _;refine h _ _ ?_ I;unfold cI;rw[zAj,show bH (l++us)=bH l++bH us from by simp[bH]];exact n
def bI.tail {w:zW}{va vb:zO}{x:bK}{us:List bK}(h:bI w va (x::us))(a:1<(x::us).length->vb=va.map λy=>y.add (1*3)):bI w vb us:=h.rest (us:=x::us) 1 a
def IY (va vb:zO)(a n:List bK)(ca cb:Nat)(w:zW)(hA:bI w va a)(hB:bI w vb n)(wz:a.length<=1000)(wx:n.length<=1000)(yk:a.length<=ca)(jg:n.length<=cb):
  Calls zq 163 #[aJ va a.length ca,aJ vb n.length cb] w λe w'=>∃v,e=aL v/\cI w' w.heap.size v (cP a n)/\zb w w':=by
 have HA:Hid (bI w va a):=hA
 have HB:Hid (bI w vb n):=hB
 clear hA hB
 go_enter Qz.func163,Tryz.ntmps163
 go_upto_region 2 with(fail)
 go_loopg [0,1,5] (a.length+n.length) (λq x y out wr=>∃(F s:zO)(b f:List bK)(K J:Nat)(o:List bK),b.length+f.length<=q/\x=aJ F b.length K/\y=aJ s f.length J/\b.length<=K/\f.length<=J/\b.length<=1000/\f.length<=1000/\o.length+b.length+f.length<=2000/\zb w wr/\bI w F b/\bI w s f/\cI wr w.heap.size out o/\o++cP b f=cP a n)
 case atStart=>exact⟨va,vb,a,n,ca,cb,[],zAa _,rfl,rfl,yk,jg,wz,wx,by simp;omega,zGp _ _,HA.out,HB.out,cI.nil _ _,rfl⟩
 case round=>
  obtain⟨F,s,b,f,K,J,o,hq,rfl,rfl,h1,h2,h3,h4,h5,b1,e1,e2,o1,d1⟩:=hrel
  clear HA HB
  by_cases Q:0<b.length/\0<f.length
  .match b,f,Q with
   |x::b,y::f,_=>
    obtain⟨g,og,rfl,hg,c0,c1,c2⟩:=(e1.below b1 (zAa _)).idx 0 x rfl;obtain⟨gb,ob,rfl,hgb,d0,qm,d2⟩:=(e2.below b1 (zAa _)).idx 0 y rfl;rw[zEs,zEv]at c0 c1 c2 d0 qm d2;have X:Hid (zb w wr):=b1;have U:Hid (bI w (aA ⟨g,og,aB⟩) (x::b)):=e1;have T:Hid (bI w (aA ⟨gb,ob,aB⟩) (y::f)):=e2;have O1:Hid (cI wr w.heap.size u5 o):=o1;have DD:Hid (o++cP (x::b) (y::f)=cP a n):=d1;simp only[zAe]at hq;have h1':b.length+1<=K:=h1;have h2':f.length+1<=J:=h2;have ki:b.length+1<=1000:=h3;have kh:f.length+1<=1000:=h4;have h5':o.length+(b.length+1)+(f.length+1)<=2000:=h5;clear b1 e1 e2 o1 d1 h1 h2 h3 h4 h5;go_wp2_with fail;go_region;all_goals clear c0 c1 c2 d0 qm d2
    all_goals
     first
     |(have I:Hid (bB ((wr.alloc (aI #[aK ⟨x.idx.toArray⟩,aK ⟨x.val.toArray⟩,.bool x.gone] 53)).alloc (aI #[aK ⟨y.idx.toArray⟩,aK ⟨y.val.toArray⟩,.bool y.gone] 53)).drew wr.heap.size 53 #[aK ⟨x.idx.toArray⟩,aK ⟨x.val.toArray⟩,.bool x.gone]):=(bB.new _ _ _).alloc _
       have G:Hid (bB ((wr.alloc (aI #[aK ⟨x.idx.toArray⟩,aK ⟨x.val.toArray⟩,.bool x.gone] 53)).alloc (aI #[aK ⟨y.idx.toArray⟩,aK ⟨y.val.toArray⟩,.bool y.gone] 53)).drew (wr.heap.size+1) 53 #[aK ⟨y.idx.toArray⟩,aK ⟨y.val.toArray⟩,.bool y.gone]):=VE _ _ _ _ _
       have V:Hid (zb wr ((wr.alloc (aI #[aK ⟨x.idx.toArray⟩,aK ⟨x.val.toArray⟩,.bool x.gone] 53)).alloc (aI #[aK ⟨y.idx.toArray⟩,aK ⟨y.val.toArray⟩,.bool y.gone] 53)).drew):=JJ _ _ _
       obtain⟨w1,A⟩:∃w1,w1=((wr.alloc (aI #[aK ⟨x.idx.toArray⟩,aK ⟨x.val.toArray⟩,.bool x.gone] 53)).alloc (aI #[aK ⟨y.idx.toArray⟩,aK ⟨y.val.toArray⟩,.bool y.gone] 53)).drew:=⟨_,rfl⟩
       rw[<-A]at I G V⊢
       clear A
       generalize wr.heap.size+1=By at G⊢
       generalize wr.heap.size=Bx at I⊢)
     |(have I:Hid (bB ((wr.alloc (aI #[aK ⟨y.idx.toArray⟩,aK ⟨y.val.toArray⟩,.bool y.gone] 53)).alloc (aI #[aK ⟨x.idx.toArray⟩,aK ⟨x.val.toArray⟩,.bool x.gone] 53)).drew (wr.heap.size+1) 53 #[aK ⟨x.idx.toArray⟩,aK ⟨x.val.toArray⟩,.bool x.gone]):=VE _ _ _ _ _
       have G:Hid (bB ((wr.alloc (aI #[aK ⟨y.idx.toArray⟩,aK ⟨y.val.toArray⟩,.bool y.gone] 53)).alloc (aI #[aK ⟨x.idx.toArray⟩,aK ⟨x.val.toArray⟩,.bool x.gone] 53)).drew wr.heap.size 53 #[aK ⟨y.idx.toArray⟩,aK ⟨y.val.toArray⟩,.bool y.gone]):=(bB.new _ _ _).alloc _
       have V:Hid (zb wr ((wr.alloc (aI #[aK ⟨y.idx.toArray⟩,aK ⟨y.val.toArray⟩,.bool y.gone] 53)).alloc (aI #[aK ⟨x.idx.toArray⟩,aK ⟨x.val.toArray⟩,.bool x.gone] 53)).drew):=JJ _ _ _
       obtain⟨w1,A⟩:∃w1,w1=((wr.alloc (aI #[aK ⟨y.idx.toArray⟩,aK ⟨y.val.toArray⟩,.bool y.gone] 53)).alloc (aI #[aK ⟨x.idx.toArray⟩,aK ⟨x.val.toArray⟩,.bool x.gone] 53)).drew:=⟨_,rfl⟩
       rw[<-A]at I G V⊢
       clear A
       generalize wr.heap.size+1=Bx at I⊢
       generalize wr.heap.size=By at G⊢)
    all_goals
     have x0:w1.cell? ⟨Bx,0,aB⟩=aA (aK ⟨x.idx.toArray⟩):=(I.out.cell 0).trans rfl
     have x1:w1.cell? ⟨Bx,1,aB⟩=aA (aK ⟨x.val.toArray⟩):=(I.out.cell 1).trans rfl
     have x2:w1.cell? ⟨Bx,2,aB⟩=aA (.bool x.gone):=(I.out.cell 2).trans rfl
     have y0:w1.cell? ⟨By,0,aB⟩=aA (aK ⟨y.idx.toArray⟩):=(G.out.cell 0).trans rfl
     have y1:w1.cell? ⟨By,1,aB⟩=aA (aK ⟨y.val.toArray⟩):=(G.out.cell 1).trans rfl
     have y2:w1.cell? ⟨By,2,aB⟩=aA (.bool y.gone):=(G.out.cell 2).trans rfl
     have B:Hid (zb w w1):=aV X.out V.out X.out.size
     have O:Hid (cI w1 w.heap.size u5 o):=O1.out.below V.out (zAa _)
     have z:w.heap.size<=w1.heap.size:=B.out.size
     have p:o.length<=1000000:=by omega
     clear X O1 V
     obtain r|r|r:=iA x.idx y.idx
     .have C:Op.bytesLess x.idx y.idx=aE:=by rw[yN,r];rfl
      have H:Hid ((o++[gK x])++cP b (y::f)=cP a n):=by rw[<-DD.out,cP,zAk r,zBu];rfl
      go_wp2_with fail
      refine(TV x w1).mono ?_
      rintro e w2 ⟨rfl,S⟩
      have W:Hid (zb w w2):=aV B.out S z
      have O3:Hid (cI w2 w.heap.size u5 o):=O.out.below S (zAa _)
      have k:w.heap.size<=w2.heap.size:=W.out.size
      clear S B O x0 x1 x2 y0 y1 y2 DD I G z
      dsimp only
      go_wp2_with (at_builtin;refine iX rfl _ _ rfl w.heap.size _ _ rfl O3.out (gK x) 1 rfl p k ?_;intro g' E w3 c j)
      all_goals
       have d:w2.grownBy w3 u5.ownBlock:=j
       have P:Hid (zb w w3):=dN W.out O3.out d (zAa _) k
       go_roundg (b.length+(f.length+1))
       case measure=>omega
       case rel=>
        go_light
        refine⟨_,_,b,y::f,_,_,o++[gK x],by simp,rfl,rfl,by omega,h2',by omega,kh,by simp;omega,P.out,?_,T.out,c,H.out⟩
        refine U.out.tail λbU=> ?_
        first
         |(exfalso;simp only[zAe]at bU;omega)
         |rfl
     .have D:x.idx=y.idx:=mU r;have C:Op.bytesLess x.idx y.idx=aF:=by rw[yN,r];rfl
      have jo:(x.idx==y.idx)=aE:=by rw[D];exact zEp _
      by_cases m:x.val=y.val
      .have H:Hid (o++cP b f=cP a n):=by
        show _=_
        rw[<-DD.out,cP,zAh (by rw[r];decide),zAh (by rw[r];decide),zAh (by simpa using m)]
       have Yk:(x.val==y.val)=aE:=by rw[m];exact zEp _
       clear D m
       go_wp2_with fail
       clear x0 x1 x2 y0 y1 y2
       go_region
       all_goals go_wp2
       all_goals
        go_roundg (b.length+f.length)
        case measure=>omega
        case rel=>
         go_light
         refine⟨_,_,b,f,_,_,o,zAa _,rfl,rfl,by omega,by omega,by omega,by omega,by omega,eX B.out,?_,?_,O.out.kept λ_ _=>rfl,H.out⟩
         .refine U.out.tail λbU=> ?_;simp only[zAe]at bU;first
           |(exfalso;omega)
           |rfl
           |(rw[zAh (by omega)];rfl)
         .refine T.out.tail λbU=> ?_;simp only[zAe]at bU;first
           |(exfalso;omega)
           |rfl
           |(rw[zAh (by omega)];rfl)
      .have H:Hid ((o++[y])++cP b f=cP a n):=by
        rw[<-DD.out,cP,zAh (by rw[r];decide),zAh (by rw[r];decide),zAk (by simpa using m),zBu];rfl
       have Yk:(x.val==y.val)=aF:=zCf.2 m;clear D m;go_wp2_with (at_builtin;refine iX rfl _ _ rfl w.heap.size _ _ rfl O.out y 1 rfl p z ?_;intro g' E w3 c j);have d:w1.grownBy w3 u5.ownBlock:=j;have P:Hid (zb w w3):=dN B.out O.out d (zAa _) z;have HO:Hid _:=c;clear x0 x1 x2 y0 y1 y2 c j d;go_region;all_goals go_wp2
       all_goals
        go_roundg (b.length+f.length)
        case measure=>omega
        case rel=>
         go_light
         refine⟨_,_,b,f,_,_,o++[y],zAa _,rfl,rfl,by omega,by omega,by omega,by omega,by simp;omega,eX P.out,?_,?_,cI.kept HO.out λ_ _=>rfl,H.out⟩
         .refine U.out.tail λbU=> ?_;simp only[zAe]at bU;first
           |(exfalso;omega)
           |rfl
           |(rw[zAh (by omega)];rfl)
         .refine T.out.tail λbU=> ?_;simp only[zAe]at bU;first
           |(exfalso;omega)
           |rfl
           |(rw[zAh (by omega)];rfl)
     .have C:Op.bytesLess x.idx y.idx=aF:=by rw[yN,r];rfl
      have jo:(x.idx==y.idx)=aF:=zCf.2 λe=>by rw[e,eD]at r;cases r
      have H:Hid ((o++[y])++cP (x::b) f=cP a n):=by rw[<-DD.out,cP,zAh (by rw[r];decide),zAk r,zBu];rfl
      go_wp2_with (at_builtin;refine iX rfl _ _ rfl w.heap.size _ _ rfl O.out y 1 rfl p z ?_;intro g' E w3 c j)
      all_goals
       have d:w1.grownBy w3 u5.ownBlock:=j
       have P:Hid (zb w w3):=dN B.out O.out d (zAa _) z
       go_roundg (b.length+1+f.length)
       case measure=>omega
       case rel=>
        go_light
        refine⟨_,_,x::b,f,_,_,o++[y],by simp,rfl,rfl,h1',by omega,ki,by omega,by simp;omega,P.out,U.out,?_,c,H.out⟩
        refine T.out.tail λbU=> ?_
        first
         |(exfalso;simp only[zAe]at bU;omega)
         |rfl
  .have bg:b=[]\/f=[]:=by
    obtain h|h:=zEu b.length
    .exact aG (zBr h)
    .exact aH (zBr (by omega))
   rw[Gf bg]at d1;have H:Hid (o++(b.map gK++f)=cP a n):=d1;have U:Hid (bI w F b):=e1;have T:Hid (bI w s f):=e2;have O1:Hid (cI wr w.heap.size u5 o):=o1;have X:Hid (zb w wr):=b1;clear d1 e1 e2 o1 b1;have HN:Hid (∀t,t<b.length->(b.take (t+1)).map gK=(b.take t).map gK++[gK (b.getD t ⟨[],[],aF⟩)]):=λt ht=>by rw[vJ b gK t ht,zAq,zAf ht];rfl
   have Z:b=[]\/(f=[]/\0<b.length):=by
    obtain h|h:=zEu b.length
    .exact aG (zBr h)
    .exact aH ⟨zBr (by omega),h⟩
   clear bg
   obtain rfl|⟨rfl,hz⟩:=Z
   .clear HN U;go_upto_region 14 with(fail)
    go_loopg [5,64] 0 (λq out i Y=>i=aC aD 0/\zb w Y/\cI Y w.heap.size out o);case atStart=>exact⟨rfl,X.out,O1.out⟩
    case round=>
     obtain⟨rfl,N,L⟩:=hrel
     have B:Hid (zb w wr):=N
     have O:Hid (cI wr w.heap.size u5 o):=L
     have k:w.heap.size<=wr.heap.size:=N.size
     have p:o.length<=1000000:=by omega
     clear N L
     have E3:Hid (bI wr s f):=T.out.below B.out (zAa _)
     go_wp2_with (at_builtin;refine wV rfl _ _ rfl w.heap.size _ _ f _ _ rfl O.out rfl E3.out p (by omega) k ?_;intro v' w5 c j)
     have d:wr.grownBy w5 u5.ownBlock:=j
     have B5:Hid (zb w w5):=dN B.out O.out d (zAa _) k
     have HO:Hid _:=c
     clear c j d
     go_ret
     exact⟨v',rfl,by rw[<-H.out];exact HO.out,B5.out⟩
   .have HD':Hid (o++b.map gK=cP a n):=by show _=_;rw[<-H.out,zAy]
    clear T H;have hzi:(0:Int)<(b.length:Int):=by omega
    go_upto_region 14 with(fail)
    go_loopg [5,64] b.length (λq out i Y=>∃t:Nat,t+q=b.length/\i=aC aD (t:Int)/\zb w Y/\cI Y w.heap.size out (o++(b.take t).map gK))
    case atStart=>exact⟨0,by omega,rfl,X.out,by rw[zEy,zGg,zAy];exact O1.out⟩
    case round=>
     obtain⟨t,ht,rfl,N,L⟩:=hrel
     have B:Hid (zb w wr):=N
     have p:(o++(b.take t).map gK).length<=1000000:=by rw[zAj,zDd,zAn];omega
     have k:w.heap.size<=wr.heap.size:=N.size
     by_cases bU:t<b.length
     .have ij:t<b.length:=bU;have hu:=zAf (l:=b) (i:=t) ij;have Hs:=HN.out t bU;rw[zAq,hu]at Hs;generalize b[t]=u at*;have HS:Hid ((o++(b.take (t+1)).map gK)=(o++(b.take t).map gK)++[gK u]):=by show _=_;rw[Hs,zBu];rfl
      obtain⟨g,og,rfl,hg,c0,c1,c2⟩:=(U.out.below B.out (zAa _)).idx t u hu;have Qt:¬((t:Int)<0):=by omega
      have Qs:(t:Int)<(b.length:Int):=by omega
      clear hu Hs
      generalize o++(b.take t).map gK=OT at*
      have O:Hid (cI wr w.heap.size u5 OT):=L
      clear N L
      go_upto_region 16 with(fail)
      have k3:Hid (bB (wr.alloc (aI #[aK ⟨u.idx.toArray⟩,aK ⟨u.val.toArray⟩,.bool u.gone] 53)) wr.heap.size 53 #[aK ⟨u.idx.toArray⟩,aK ⟨u.val.toArray⟩,.bool u.gone]):=bB.new _ _ _
      have b3:Hid (zb wr (wr.alloc (aI #[aK ⟨u.idx.toArray⟩,aK ⟨u.val.toArray⟩,.bool u.gone] 53))):=(zGp _ _).alloc (zAa _) _
      generalize wr.alloc (aI #[aK ⟨u.idx.toArray⟩,aK ⟨u.val.toArray⟩,.bool u.gone] 53)=w3 at*
      have W:Hid (zb w w3):=aV B.out b3.out k
      have O3:Hid (cI w3 w.heap.size u5 OT):=O.out.below b3.out (zAa _)
      have jk:w.heap.size<=w3.heap.size:=W.out.size
      clear c0 c1 c2 B O b3
      go_wp2_with (refine zGq rfl 53 _ rfl wr.heap.size rfl 53 _ (0,0) _ k3.out ((Qz.cO 53).trans Tryz.underlying53) rfl (by kernel_rfl) ?_)
      refine(TV u w3).mono ?_
      rintro e w4 ⟨rfl,R⟩
      have P:Hid (zb w w4):=aV W.out R jk
      have O4:Hid (cI w4 w.heap.size u5 OT):=O3.out.below R (zAa _)
      have M:w.heap.size<=w4.heap.size:=P.out.size
      clear R W O3 k3
      dsimp only
      go_wp2_with (at_builtin;refine iX rfl _ _ rfl w.heap.size _ _ rfl O4.out (gK u) 1 rfl p M ?_;intro g' E w5 c j)
      have d:w4.grownBy w5 u5.ownBlock:=j
      have B5:Hid (zb w w5):=dN P.out O4.out d (zAa _) M
      go_roundg (b.length-(t+1))
      case measure=>omega
      case rel=>
       go_light
       exact⟨t+1,by omega,by go_num,B5.out,by rw[HS.out];exact c⟩
     .have e:b.take t=b:=zBg (by omega);rw[e]at p L;have O:Hid (cI wr w.heap.size u5 (o++b.map gK)):=L;obtain rfl:t=b.length:=by omega
      have E3:Hid (bI wr s []):=λh=>absurd h (zEt _);generalize o++b.map gK=OT at*;clear N L;go_wp2_with (at_builtin;refine wV rfl _ _ rfl w.heap.size _ _ [] _ _ rfl O.out rfl E3.out p (by simp) k ?_;intro v' w5 c j);have d:wr.grownBy w5 u5.ownBlock:=j;have B5:Hid (zb w w5):=dN B.out O.out d (zAa _) k;have HO:Hid _:=c;clear c j d;go_ret;exact⟨v',rfl,by rw[<-HD'.out,<-zAy OT];exact HO.out,B5.out⟩
open Go Go.RowKit Sha
def wA (x:zY):Prop:=(∃s,x=aK s)\/∃b,x= .bool b
def tM:∀x,wA x->x.oneCell'=aE:=λx h=>by obtain⟨s,rfl⟩|⟨b,rfl⟩:=h<;>rfl
def uQ:∀x∈(Value.cells (.agg #[aK ⟨#[]⟩,aK ⟨#[]⟩,.bool aF])).toList,wA x:=λx h=>by
 simp[Value.cells]at h;obtain rfl|rfl:=h
 .exact aG ⟨_,rfl⟩
 .exact aH ⟨_,rfl⟩
def tL (u:bK):∀x∈u.cells,wA x:=λx h=>by
 simp only[bK.cells,zAg,zAt,zCp]at h;obtain rfl|rfl|rfl:=h
 .exact aG ⟨_,rfl⟩
 .exact aG ⟨_,rfl⟩
 .exact aH ⟨_,rfl⟩
def MO (l:List bK):∀x∈bH l,wA x:=λx h=>by obtain⟨u,_,a⟩:=List.mem_flatMap.1 h;exact tL u x a
def jW (l m:List bK):bH (l++m)=bH l++bH m:=by simp[bH]
def vF (l:List bK)(p:Nat):(bH l).take (p*3)=bH (l.take p):=by
 by_cases h:p<=l.length
 .have e:bH l=bH (l.take p)++bH (l.drop p):=by rw[<-jW,zDr]
  rw[e,zCn (by rw[cY,zAn];omega),zBg (by rw[cY,zAn];omega)]
 .rw[zBg (by rw[cY];omega),zBg (by omega)]
def vI (l:List bK)(p:Nat):(bH l).drop (p*3)=bH (l.drop p):=by
 have e:bH l=bH (l.take p)++bH (l.drop p):=by rw[<-jW,zDr]
 by_cases h:p<=l.length
 .rw[e,zDq (by rw[cY,zAn];omega),zEo (by rw[cY,zAn];omega),zCl]
 .rw[zEo (by rw[cY];omega),zEo (show l.length<=p by omega)];rfl
def gT (w:zW)(base:Nat)(v:zY)(l:List bK):Prop:=cT wA w base 53 3 v l.length (bH l)
def gT.below {w w':zW}{B base:Nat}{v:zY}{l:List bK}(h:gT w base v l)(a:Below B w w')(b:w.heap.size<=B):gT w' base v l:=cT.below h a b
def gT.tN {w:zW}{base:Nat}{v:zY}{l:List bK}(h:gT w base v l):∃va c,v=aJ va l.length c/\l.length<=c/\bI w va l/\∀a,va=aA a->∃g,a=⟨g,0,aB⟩/\base<=g/\g<w.heap.size/\∃cs,w.heap[g]? =aA (aI cs 53 (0,0))/\∀x∈cs.toList,wA x:=by
 obtain⟨rfl,f⟩|⟨g,cap,cur,rfl,hb,e,k,n,m,i⟩:=h.1.2
 .exact⟨aB,0,by rw[f],by omega,λh=>by omega,λa b=>by cases b⟩
 .have bU:=(zAb.1 e).1;refine⟨aA ⟨g,0,aB⟩,cap,rfl,k,λf=>⟨g,0,rfl,bU,λj u d=> ?_⟩,λa b=> ?_⟩
  .rw[zAv,zGy w g j cur 53 (0,0) e];rw[<-i,zBy]at d;split at d
   .rw[<-zBo];exact d
   .cases d
  .injection b with b;subst b;exact⟨g,rfl,hb,bU,cur,e,h.2 g rfl cur _ _ e⟩
def ZG (va:zO)(us:List bK)(c:Nat)(w:zW)(p:bI w va us)(S:us.length<=100000):
  Calls zq 60 #[aJ va us.length c] w λe A=>∃v,e=aL v/\gT A w.heap.size v us/\zb w A:=by
 obtain⟨it,ti,q,t,f⟩:=NJ
 cases va with
 |none=>
  have y:us=[]:=by
   obtain h|h:=zEu us.length
   .exact zBr h
   .obtain⟨g,o,e,_⟩:=p h;cases e
  subst y
  clear p ti q t f
  have r:∀W n c,(binOp .eql 48 (aJ aB n c) (aJ aB 0 0)).run zq W= .ok (.bool aE) W:=λW n c=>aDQ W 48 53 aB n c 0 0 ((Qz.cO 48).trans Tryz.underlying48)
  go_enter Qz.func60,Tryz.ntmps60
  go_wp2
  go_ret
  exact⟨_,rfl,⟨World.ownsRow_nil _ _ _ _,oU.nil _ _⟩,zGp _ _⟩
 |some z=>
  obtain⟨b,a⟩:∃b,b=w.alloc (aI #[] 53):=⟨_,rfl⟩;have i:b.heap[w.heap.size]? =aA (aI #[] 53 (0,0)):=by rw[a];exact zHh w _
  have b1:zb w b:=by rw[a];exact(zGp _ _).alloc (zAa _) _
  have l:cT wA b w.heap.size 53 3 (aJ (aA ⟨w.heap.size,0,aB⟩) 0 0) 0 []:=cT.of #[] i (zAa _) (zAa _) (zBp _) rfl rfl (λx I=>by cases I)
  have m:∃v d,(∀ty,(Builtin.append_ #[48,48] ty #[aJ (aA ⟨w.heap.size,0,aB⟩) 0 0,aJ (aA z) us.length c]).run zq b= .ok v d)/\gT d w.heap.size v us/\zb w d:=by
   by_cases y:us.length=0
   .have e:us=[]:=zBr y;subst e;exact⟨_,b,λty=>sC b _ _ _ it ((Qz.cO 48).trans Tryz.underlying48) ti _ _ 0 0 c (zAa _),l,b1⟩
   .have s:=p.below b1 (zAa _);obtain⟨g,o,e,T,N⟩:=s (by omega);injection e with e;subst e;have H:=λty=>kU (P:=zq) b wA w.heap.size 48 ty 53 it _ 3 40 ((Qz.cO 48).trans Tryz.underlying48) ti q t f rfl (by omega) uQ _ 0 [] l.1 l.2 ⟨g,o,aB⟩ us.length c (bH us) (cY us) (λj u M=>by rw[addr_add];exact N j u M) (λu J=>tM u (MO us u J)) (MO us) (by omega) (by simp only[maxLen];omega) (by omega) b1.size;obtain⟨U,G,d,F,E,O,_,D⟩:=H 0;rw[zAv]at F E D;refine⟨_,d,λty=> ?_,⟨E,D⟩,?_⟩
    .exact F
    .exact b1.grown O b1.size λk L=>by have K:w.heap.size=k:=zAm L;omega
  obtain⟨v,d,m,B,C⟩:=m
  have Q:Hid (gT d w.heap.size v us):=B
  have R:Hid (zb w d):=C
  rw[a]at m
  clear p ti q t f a i b1 l B C
  generalize us.length=n at*
  have r:∀W n c,(binOp .eql 48 (aJ (aA z) n c) (aJ aB 0 0)).run zq W= .ok (.bool aF) W:=λW n c=>aDQ W 48 53 (aA z) n c 0 0 ((Qz.cO 48).trans Tryz.underlying48)
  go_enter Qz.func60,Tryz.ntmps60
  go_wp2_with (at_builtin;refine wpList_append_run rfl _ _ _ _ rfl _ _ rfl rfl (m _) ?_)
  go_ret
  exact⟨v,rfl,Q.out,R.out⟩
def Ma (base g cap p:Nat)(l:List bK)(w:zW)(c:gT w base (aJ (aA ⟨g,0,aB⟩) l.length cap) l)(i:l.length<=100000)(h:p<l.length):
  Calls zq 165 #[aJ (aA ⟨g,0,aB⟩) l.length cap,aC aD p,aC aD ((p:Int)+1)] w λe a=>∃v,e=aL v/\gT a base v (l.take p++l.drop (p+1))/\w.grownBy a (aA g):=by
 refine(Lw tM uQ base g l.length cap p (bH l) w c (by omega) h).mono ?_
 rintro e a ⟨rfl,f,d⟩
 refine⟨_,rfl,?_,d⟩
 have b:(l.take p++l.drop (p+1)).length=l.length-1:=by rw[zAj,zAn,zBa];omega
 unfold gT
 rw[b,jW,<-vF,<-vI]
 exact f
def Kq (base vb vc:Nat)(v:zY)(l:List bK)(u:bK)(w:zW)(i:gT w base v l)(G:l.length<=100000)(q:w.heap[vb]? =aA (aI u.cells.toArray 53 (0,0)))(b:base<=w.heap.size):
  Calls zq 166 #[v,aC aD l.length,aJ (aA ⟨vb,0,aB⟩) 1 vc] w λe m=>∃o,e=aL o/\gT m base o (l++[u])/\w.grownBy m v.ownBlock:=by
 obtain⟨it,ti,p,t,d⟩:=NJ
 have f:∀j x,u.cells[j]? =aA x->w.cell? ((⟨vb,0,aB⟩:Addr).add j)=aA x:=λj x k=>by rw[addr_add,zAv,zGy w vb j u.cells.toArray 53 (0,0) q];simpa using k
 have H:=λty=>kU (P:=zq) w wA base 48 ty 53 it _ 3 40 ((Qz.cO 48).trans Tryz.underlying48) ti p t d rfl (by omega) uQ v l.length (bH l) i.1 i.2 ⟨vb,0,aB⟩ 1 vc u.cells rfl f (λx k=>tM x (tL u x k)) (tL u) (zEj _) (by simp only[maxLen];omega) (by omega) b
 obtain⟨C,c,W,B,A,z,_,y⟩:=H 0
 have r:∀ty,(Builtin.append_ #[48,48] ty #[v,aJ (aA ⟨vb,0,aB⟩) 1 vc]).run zq w= .ok (aJ (aA ⟨C,0,aB⟩) (l.length+1) c) W:=λty=>B
 have D:Hid (gT W base (aJ (aA ⟨C,0,aB⟩) (l.length+1) c) (l++[u])):=by
  show gT _ _ _ _
  unfold gT
  rw[zAj,vH]
  exact⟨A,y⟩
 have E:Hid (w.grownBy W v.ownBlock):=z
 have a:(v=aJ aB 0 0/\l.length=0)\/∃g cap,v=aJ (aA ⟨g,0,aB⟩) l.length cap/\l.length<=cap:=by
  obtain h|⟨g,cap,cur,h,_,_,F,_⟩:=i.1.2
  .exact aG h
  .exact aH ⟨g,cap,h,F⟩
 clear ti p t d f H B A z y i q
 generalize l.length=n at*
 obtain⟨rfl,rfl⟩|⟨g,cap,rfl,s⟩:=a
 .go_enter Qz.func166,Tryz.ntmps166;go_wp2_with (at_builtin;refine wpList_append_run rfl _ _ _ _ rfl _ _ rfl rfl (r _) ?_);go_ret;exact⟨_,rfl,D.out,E.out⟩
 .have i1:(n:Int)<=(cap:Int):=by omega
  go_enter Qz.func166,Tryz.ntmps166;go_wp2_with (at_builtin;refine wpList_append_run rfl _ _ _ _ rfl _ _ rfl rfl (r _) ?_);all_goals
   go_ret
   exact⟨_,rfl,D.out,E.out⟩
def TQ (base vb vc p:Nat)(v:zY)(l:List bK)(u:bK)(w:zW)(i:gT w base v l)(q:l.length<=100000)(r:p<=l.length)(j:w.heap[vb]? =aA (aI u.cells.toArray 53 (0,0)))(k:∀g,v.ownBlock=aA g->vb≠g)(a:base<=w.heap.size):
  Calls zq 166 #[v,aC aD p,aJ (aA ⟨vb,0,aB⟩) 1 vc] w λe f=>∃o,e=aL o/\gT f base o (l.take p++u::l.drop p)/\w.grownBy f v.ownBlock:=by
 by_cases h:p=l.length
 .subst h;rw[zEf,List.drop_length];exact Kq base vb vc v l u w i q j a
 .obtain⟨g,cap,rfl⟩:=cT.form i (by omega);have d:bH (l.take p++u::l.drop p)=(bH l).take (p*3)++u.cells++(bH l).drop (p*3):=by
   rw[vF,vI,jW,pL,zBu]
  have c:(l.take p++u::l.drop p).length=l.length+1:=by rw[zAj,zAe,zAn,zBa];omega
  by_cases b:l.length+1<=cap
  .refine(Km tM i (by omega) (by omega) b j rfl (tL u) (k g rfl)).mono ?_;rintro e f ⟨rfl,n,m⟩;refine⟨_,rfl,?_,m⟩;unfold gT;rw[c,d];exact n
  .refine(Kn tM uQ i (by omega) (by omega) (by omega) j rfl (tL u) a).mono ?_;rintro e f ⟨G,rfl,n,m⟩;refine⟨_,rfl,?_,m⟩;unfold gT;rw[c,d];exact n
end Go.Proofs.Zq
