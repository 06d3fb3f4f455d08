import Derived.Deep.Onto
import Derived.Maps.AppendAt
import Derived.Laws.CopyRow
import Derived.Test.YtghpcgagijhlaaaGreatDoorP33
set_option linter.all false
set_option maxRecDepth 100000
set_option maxHeartbeats 16000000
open Option renaming some->aA,none->aB
open Bool renaming true->aE,false->aF
open Or renaming inl->aG,inr->aH
open Go.Ending renaming returned->aL
open Go.Obj renaming cells->aI
open Go.IntKind renaming i64->aD
open Go.Value renaming slice->aJ,string->aK,pointer->aN,int->aC
open Nat renaming min->aDM,min_eq_left->aDN
namespace Go.Proofs.Zq
open Go.RowKit Sha Go.Ga Go.Ren Go.Tr
def pJ (I:zB)(us:List bK)(x:Tr)(S:List Tr):Prop:=∀k,dY k I 256 (bF us) 0={dY k I (256-x.d) (bF x.us) x.d with bM:=S.map (gF k)++(dY k I (256-x.d) (bF x.us) x.d).bM}
def pJ.start (I:zB)(us:List bK)(va:zO)(c:Nat):pJ I us ⟨0,va,c,us⟩ []:=λ_=>rfl
def pJ.step {I:zB}{us:List bK}{x y z:Tr}{S:List Tr}(h:pJ I us x S)(i:2<=x.us.length)(o:x.d<256)(f:y.us=dW x.d (bQ I x.d) x.us)(c:z.us=dW x.d (1-bQ I x.d) x.us)(n:y.d=x.d+1)(m:z.d=x.d+1):pJ I us y (S++[z]):=λk=>by
 rw[h k];have e:dY k I (256-x.d) (bF x.us) x.d={dY k I (256-(x.d+1)) (cL (bF x.us) x.d (bQ I x.d)) (x.d+1)with
   bM:=dR k (cL (bF x.us) x.d (1-bQ I x.d)) (x.d+1)::(dY k I (256-(x.d+1)) (cL (bF x.us) x.d (bQ I x.d)) (x.d+1)).bM}:=by
  rw[show 256-x.d=(256-(x.d+1))+1 by omega]
  have g:2<=(bF x.us).length:=by rw[fY];exact i
  match he:bF x.us,g with
  |a::b::l,_=>rfl
 rw[e,f,n,<-fX]
 have j:gF k z=dR k (cL (bF x.us) x.d (1-bQ I x.d)) (x.d+1):=by unfold gF;rw[c,m,fX]
 simp only[zFa,zEh,zGg,zBu,zCs,zCl,j]
def pJ.ends {I:zB}{us:List bK}{x:Tr}{S:List Tr}(h:pJ I us x S)(b:x.us.length<2)(k:Nat):dY k I 256 (bF us) 0={vE k I (bF x.us)with bM:=S.map (gF k)}:=by
 rw[h k];have e:dY k I (256-x.d) (bF x.us) x.d=vE k I (bF x.us):=by
  have a:(bF x.us).length<2:=by rw[fY];exact b
  match he:bF x.us,a with
  |[],_=>cases 256-x.d<;>rfl
  |[e],_=>cases 256-x.d<;>rfl
 rw[e]
 have c:(vE k I (bF x.us)).bM=[]:=by
  cases bF x.us with
  |nil=>rfl
  |cons e l=>exact(jI k I e l).2
 rw[c,zAy]
def DY {fn:Func}{p q:Tmp}{ty:zD}(h:fn.results= #[.cell p ty,.tmp q])(tmps:zA)(w:zW)(g:Nat)(t:zD)(c:zA)(f1:Nat×Nat)(d:TypeDesc)
  (i:tmps.getD p undef=aN (aA ⟨g,0,aB⟩)) (e:w.heap[g]? =aA (aI c t f1))
  (f:zq.underlying ty=aA d) (j:(∃x,d= .struct x)\/∃n x,d= .array n x) (b:(zq.info? ty).map (·.size)=aA c.size):
  (results fn tmps).run zq w= .ok (.tuple #[.agg c,tmps.getD q undef]) w:=by
 have a:tmps[p]?.getD undef=aN (aA ⟨g,0,aB⟩):=by simpa using i
 have l:=run_loadVar_row (P:=zq) w g t ty c f1 d e f (by obtain⟨x,rfl⟩|⟨n,x,rfl⟩:=j<;>rfl) b
 simp[results,h,a,asAddr,l]
def Oh (I:zB)(c:Nat)(va:zO)(j:List bK)(w:zW)(hI:I.length=32)(bd:iY w ⟨0,va,c,j⟩):
  Calls zq 159 #[.agg #[aC aD 0,aJ va j.length c],aK ⟨I.toArray⟩] w λe A=>∃v x S,e=aL (.tuple #[.agg x.cells.toArray,v])/\fT A w.heap.size v S/\x.us.length<2/\S.length<=256/\(∀y∈x::S,iY w y/\∀a,y.va=aA a->∃b,va=aA b/\b.block=a.block)/\(∀k,dY k I 256 (bF j) 0={vE k I (bF x.us)with bM:=S.map (gF k)})/\zb w A:=by
 have rb:Hid (iY w ⟨0,va,c,j⟩):=bd
 have Qr:(⟨I.toArray⟩:ByteArray).size=32:=by show I.toArray.size=32;simpa using hI
 clear bd
 have hs:∀(v:zW)(Z:Obj),(v.alloc Z).heap.size=v.heap.size+1:=λv Z=>zBb ..
 have b3:Hid (zb w ((w.alloc (aI #[aC aD 0,aJ va j.length c] 209)).alloc (aI #[aC aD 0,aJ aB 0 0] 209))):=
  ((zGp _ _).alloc (zAa _) _).alloc (by rw[hs];omega) _
 have k0:Hid (bB ((w.alloc (aI #[aC aD 0,aJ va j.length c] 209)).alloc (aI #[aC aD 0,aJ aB 0 0] 209)) w.heap.size 209 #[aC aD 0,aJ va j.length c]):=(bB.new w _ _).alloc _
 have k1:Hid (bB ((w.alloc (aI #[aC aD 0,aJ va j.length c] 209)).alloc (aI #[aC aD 0,aJ aB 0 0] 209)) (w.heap.size+1) 209 #[aC aD 0,aJ aB 0 0]):=by have:=bB.new (w.alloc (aI #[aC aD 0,aJ va j.length c] 209)) 209 #[aC aD 0,aJ aB 0 0];rw[hs]at this;exact this
 clear hs
 go_enter Qz.func159,Tryz.ntmps159
 go_wp2
 go_loopg [6] 257 (λq out wr=>∃(x:Tr)(S:List Tr),q+x.d=257/\x.d<=256/\S.length=x.d/\zb w wr/\bB wr w.heap.size 209 x.cells.toArray/\bB wr (w.heap.size+1) 209 #[aC aD 0,aJ aB 0 0]/\fT wr (w.heap.size+2) out S/\(∀y∈x::S,iY w y/\∀a,y.va=aA a->∃b,va=aA b/\b.block=a.block)/\pJ I j x S)
 case atStart=>exact⟨⟨0,va,c,j⟩,[],rfl,zBp _,rfl,b3.out,k0.out,k1.out,fT.nil _ _,λy hy=>by rw[zAw.1 hy];exact⟨rb.out,λa ha=>⟨a,ha,rfl⟩⟩,pJ.start I j va c⟩
 case round=>
  obtain⟨x,S,hq,ye,Q,b1,b2,qp,b4,b5,b6⟩:=hrel
  have B1:Hid (zb w wr):=b1
  have B2:Hid (bB wr w.heap.size 209 x.cells.toArray):=b2
  have B3:Hid (bB wr (w.heap.size+1) 209 #[aC aD 0,aJ aB 0 0]):=qp
  have B4:Hid (fT wr (w.heap.size+2) u6 S):=b4
  have B5:Hid (∀y∈x::S,iY w y/\∀a,y.va=aA a->∃b,va=aA b/\b.block=a.block):=b5
  have B6:Hid (pJ I j x S):=b6
  have K:Hid (iY w x):=(b5 x (by simp)).1
  have T:Hid (∀a,x.va=aA a->∃b,va=aA b/\b.block=a.block):=(b5 x (by simp)).2
  have M:=K.out.len
  have Wh:=K.out.cap
  clear b1 b2 qp b4 b5 b6 b3 k0 k1 rb
  obtain⟨d,f,i,us⟩:=x
  dsimp only at hq ye Q M Wh
  go_wp2_with (refine zGq rfl 209 _ rfl w.heap.size rfl 209 _ (0,0) _ B2.out ((Qz.cO 209).trans Tryz.underlying209) rfl (by kernel_rfl) ?_)
  refine(tP d us.length i f wr M).mono ?_
  rintro e w1 ⟨rfl,E⟩
  have C1:Hid (zb w w1):=aV B1.out E B1.out.size
  have C2:Hid (bB w1 w.heap.size 209 #[aC aD (d:Int),aJ f us.length i]):=B2.out.below E B2.out.lt
  have C3:Hid (bB w1 (w.heap.size+1) 209 #[aC aD 0,aJ aB 0 0]):=B3.out.below E B3.out.lt
  have C4:Hid (fT w1 (w.heap.size+2) u6 S):=B4.out.below E (zAa _)
  clear E B1 B2 B3 B4
  by_cases hn:us.length<2
  .rw[zEi hn];dsimp only;go_wp2_with (first|(refine zGq rfl 209 _ rfl w.heap.size rfl 209 _ (0,0) _ C2.out ((Qz.cO 209).trans Tryz.underlying209) rfl (by kernel_rfl) ?_)|(refine zGs rfl 209 _ _ rfl (w.heap.size+1) _ rfl rfl _ _ C3.out (by kernel_rfl) rfl (by kernel_rfl) ?_));have hC:=C3.out.cH #[aC aD (d:Int),aJ f us.length i];refine zHb (DY rfl _ _ (w.heap.size+1) 209 _ (0,0) _ rfl hC ((Qz.cO 209).trans Tryz.underlying209) (aG ⟨_,rfl⟩) (by kernel_rfl)) rfl ?_;refine⟨u6,⟨d,f,i,us⟩,S,rfl,?_,hn,by omega,B5.out,λk=>B6.out.ends hn k,bN C1.out (by omega) _⟩;exact World.ownsRow.mono (C4.out.kept λg C=>dS _ _ _ _ (by have:=(C4.out.lt g C).1;omega)) (by omega)
  .have O:2<=us.length:=by omega
   have Yy:d<256:=K.out.sub.deep O;obtain⟨n,hcut,e0,e1⟩:=K.out.sub.cut;have HH:=oL d n i f us w1 M Wh (by omega) ((K.out.below C1.out (zAa _)).tN) K.out.sub.idx hcut;have nk:n<=us.length:=hcut.le;have E0:Hid (us.take n=dW d 0 us):=e0;have E1:Hid (us.drop n=dW d 1 us):=e1;clear hcut e0 e1;rw[zCy hn];dsimp only;go_wp2_with (refine zGq rfl 209 _ rfl w.heap.size rfl 209 _ (0,0) _ C2.out ((Qz.cO 209).trans Tryz.underlying209) rfl (by kernel_rfl) ?_);refine HH.mono ?_;clear HH;rintro e w2 ⟨l,m,rfl,jg,Yk,pf,D⟩;have D1:Hid (zb w w2):=aV C1.out D C1.out.size;have D2:Hid (bB w2 w.heap.size 209 #[aC aD (d:Int),aJ f us.length i]):=C2.out.below D C2.out.lt;have D3:Hid (bB w2 (w.heap.size+1) 209 #[aC aD 0,aJ aB 0 0]):=C3.out.below D C3.out.lt;have D4:Hid (fT w2 (w.heap.size+2) u6 S):=C4.out.below D (zAa _);have HV:Hid (n<us.length->l=Option.map (λx=>x.add (n*3)) f):=Yk;have sn:Hid (∀a,l=aA a->∃b,f=aA b/\b.block=a.block):=pf;clear D C1 C2 C3 C4 Yk pf;dsimp only;go_upto_region 4 with(fail)
   have N:∀(v:zW)(Z:Obj),(v.alloc Z).heap.size=v.heap.size+1:=λv Z=>zBb ..
   have B:Hid (zb w2 ((w2.alloc (aI #[aC aD ((d:Int)+1),aJ f n i] 209)).alloc (aI #[aC aD ((d:Int)+1),aJ l (us.length-n) m] 209))):=((zGp _ _).alloc (zAa _) _).alloc (by rw[N];omega) _
   have ka:Hid (bB ((w2.alloc (aI #[aC aD ((d:Int)+1),aJ f n i] 209)).alloc (aI #[aC aD ((d:Int)+1),aJ l (us.length-n) m] 209)) w2.heap.size 209 #[aC aD ((d:Int)+1),aJ f n i]):=(bB.new _ _ _).alloc _
   have kb:Hid (bB ((w2.alloc (aI #[aC aD ((d:Int)+1),aJ f n i] 209)).alloc (aI #[aC aD ((d:Int)+1),aJ l (us.length-n) m] 209)) (w2.heap.size+1) 209 #[aC aD ((d:Int)+1),aJ l (us.length-n) m]):=by have:=bB.new (w2.alloc (aI #[aC aD ((d:Int)+1),aJ f n i] 209)) 209 #[aC aD ((d:Int)+1),aJ l (us.length-n) m];rw[N]at this;exact this
   clear N
   generalize(w2.alloc (aI #[aC aD ((d:Int)+1),aJ f n i] 209)).alloc (aI #[aC aD ((d:Int)+1),aJ l (us.length-n) m] 209)=w3 at*
   have F1:Hid (zb w w3):=aV D1.out B.out D1.out.size
   have F2:Hid (bB w3 w.heap.size 209 #[aC aD (d:Int),aJ f us.length i]):=D2.out.below B.out D2.out.lt
   have F3:Hid (bB w3 (w.heap.size+1) 209 #[aC aD 0,aJ aB 0 0]):=D3.out.below B.out D3.out.lt
   have Y:Hid (fT w3 (w.heap.size+2) u6 S):=D4.out.below B.out (zAa _)
   have hlo:w.heap.size+2<=w2.heap.size:=by have:=D3.out.lt;omega
   have X:Hid (∀g,u6.ownBlock=aA g->g<w2.heap.size):=λg C=>(D4.out.lt g C).2
   have ln:(us.take n).length=n:=by rw[zAn];omega
   have lz:(us.drop n).length=us.length-n:=zBa ..
   have HY:Hid (iY w ⟨d+1,f,i,us.take n⟩):=by have:=K.out;exact⟨this.tN.part n,by show Sub (us.take n) (d+1);rw[E0.out];exact this.sub.half 0,λu s=>this.eV u (zCg s),by show(us.take n).length<=_;omega,by show(us.take n).length<=i;omega⟩
   have HZ:Hid (iY w ⟨d+1,l,m,us.drop n⟩):=by have:=K.out;exact⟨this.tN.rest n HV.out,by show Sub (us.drop n) (d+1);rw[E1.out];exact this.sub.half 1,λu s=>this.eV u (zCb s),by show(us.drop n).length<=_;omega,by show(us.drop n).length<=m;omega⟩
   have ra:Hid (∀a,(⟨d+1,f,i,us.take n⟩:Tr).va=aA a->∃b,va=aA b/\b.block=a.block):=T.out
   have qy:Hid (∀a,(⟨d+1,l,m,us.drop n⟩:Tr).va=aA a->∃b,va=aA b/\b.block=a.block):=λa ha=>by obtain⟨b,hb,e⟩:=sn.out a ha;obtain⟨b',Us,e'⟩:=T.out b hb;exact⟨b',Us,e'.trans e⟩
   have qz:Hid ((⟨d+1,f,i,us.take n⟩:Tr).cells.toArray= #[aC aD ((d:Int)+1),aJ f n i]):=by
    show(#[aC aD ((d:Int)+1),aJ f (us.take n).length i]:zA)=_
    rw[ln]
   have qx:Hid ((⟨d+1,l,m,us.drop n⟩:Tr).cells.toArray= #[aC aD ((d:Int)+1),aJ l (us.length-n) m]):=by
    show(#[aC aD ((d:Int)+1),aJ l (us.drop n).length m]:zA)=_
    rw[lz]
   have W:Hid (bQ I d=0->pJ I j ⟨d+1,f,i,us.take n⟩ (S++[⟨d+1,l,m,us.drop n⟩])):=λh0=>B6.out.step O Yy (by show us.take n=dW d (bQ I d) us;rw[h0];exact E0.out) (by show us.drop n=dW d (1-bQ I d) us;rw[h0];exact E1.out) rfl rfl
   have V:Hid (bQ I d=1->pJ I j ⟨d+1,l,m,us.drop n⟩ (S++[⟨d+1,f,i,us.take n⟩])):=λh0=>B6.out.step O Yy (by show us.drop n=dW d (bQ I d) us;rw[h0];exact E1.out) (by show us.take n=dW d (1-bQ I d) us;rw[h0];exact E0.out) rfl rfl
   have sk:(⟨d+1,f,i,us.take n⟩:Tr).d=d+1:=rfl
   have sj:(⟨d+1,l,m,us.drop n⟩:Tr).d=d+1:=rfl
   generalize(⟨d+1,f,i,us.take n⟩:Tr)=y at*
   generalize(⟨d+1,l,m,us.drop n⟩:Tr)=z at*
   have J:Hid (y.d=d+1):=sk
   have G:Hid (z.d=d+1):=sj
   have su:Hid (∀y∈S,iY w y/\∀a,y.va=aA a->∃b,va=aA b/\b.block=a.block):=λy hy=>B5.out y (zBe _ hy)
   have c0:w3.cell? ⟨w.heap.size,0,aB⟩=aA (aC aD (d:Int)):=(F2.out.cell 0).trans rfl
   have P:w.heap.size+2<=w3.heap.size:=by have:=B.out.size;omega
   have Nw:S.length+1<=1000000:=by omega
   have aAN:Hid (w2.heap.size+1<w3.heap.size):=kb.out.lt
   have rl:Hid (S.length=d):=Q
   clear sk sj ln lz E0 E1 HV sn K T B D1 D2 D3 D4 B5 B6 Q
   go_wp2_with fail
   refine(oG ⟨I.toArray⟩ d w3 (by rw[Qr];omega) (by rw[Qr];omega) (by omega)).mono ?_
   rintro e w4 ⟨rfl,Yj⟩
   obtain rfl:w3=w4:=Yj.symm
   clear Yj
   rw[show bQ (⟨I.toArray⟩:ByteArray).data.toList d=bQ I d by simp]
   obtain t|t:=mF I d
   .rw[t];rw[show decide ((0:Nat)=1)=aF from rfl];have HW:=W.out t;have U:Hid (pJ I j y (S++[z])):=HW;clear HW W V t;have H:Hid ((#[aC aD ((d:Int)+1),aJ l (us.length-n) m]:zA)=(fO [z]).toArray):=by show _=z.cells.toArray;exact qx.out.symm
    dsimp only;go_upto_region 7 with(first|(refine zGq rfl 209 _ rfl (w2.heap.size+1) rfl 209 _ (0,0) _ kb.out ((Qz.cO 209).trans Tryz.underlying209) rfl (by kernel_rfl) ?_)|(at_builtin;refine tZ rfl _ _ rfl (w.heap.size+2) _ _ rfl Y.out [z] 1 rfl _ H.out 1 rfl (zEj _) Nw P ?_;intro R F A p r))
    have G1:Hid (zb w A):=nM F1.out Y.out r (by omega) F1.out.size
    have o:∀g,g<w.heap.size+2->aA g≠u6.ownBlock:=λg C h=>by have:=(Y.out.lt g h.symm).1;omega
    have G2:Hid (bB A w.heap.size 209 #[aC aD (d:Int),aJ f us.length i]):=F2.out.grown r (o _ (by omega))
    have G3:Hid (bB A (w.heap.size+1) 209 #[aC aD 0,aJ aB 0 0]):=F3.out.grown r (o _ (by omega))
    have G5:Hid (bB A w2.heap.size 209 #[aC aD ((d:Int)+1),aJ f n i]):=ka.out.grown r (λh=>by have:=X.out _ h.symm;omega)
    have G4:Hid (fT A (w.heap.size+2) (aJ (aA ⟨R,0,aB⟩) (S.length+1) F) (S++[z])):=p
    have HG4:Hid (w.heap.size+2<=R):=(p.lt R rfl).1
    clear p r o F1 F2 F3 Y ka kb c0
    go_wp2_with (first|(refine zGq rfl 209 _ rfl w2.heap.size rfl 209 _ (0,0) _ G5.out ((Qz.cO 209).trans Tryz.underlying209) rfl (by kernel_rfl) ?_)|(refine zGs rfl 209 _ _ rfl w.heap.size _ rfl rfl _ _ G2.out (by kernel_rfl) rfl (by kernel_rfl) ?_))
    go_roundg (257-(d+1))
    case measure=>omega
    case rel=>
     go_light
     refine⟨y,S++[z],by rw[J.out];omega,by rw[J.out];omega,by rw[J.out,zAj,rl.out];rfl,bN G1.out (zAa _) _,?_,G3.out.fW _ (by omega),?_,λu s=> ?_,U.out⟩
     .rw[qz.out];exact G2.out.cH _
     .exact G4.out.kept λg C=>dS _ _ _ _ (by have:=(G4.out.lt g C).1;omega)
     .obtain rfl|s:=zAg.1 s
      .exact⟨HY.out,ra.out⟩
      .obtain s|s:=zCh.1 s
       .exact su.out u s
       .rw[zAw.1 s];exact⟨HZ.out,qy.out⟩
   .rw[t];rw[show decide ((1:Nat)=1)=aE from rfl];have HW:=V.out t;have U:Hid (pJ I j z (S++[y])):=HW;clear HW W V t;have H:Hid ((#[aC aD ((d:Int)+1),aJ f n i]:zA)=(fO [y]).toArray):=by show _=y.cells.toArray;exact qz.out.symm
    have L:Hid (bB (w3.setRow w2.heap.size #[aC aD ((d:Int)+1),aJ l (us.length-n) m]) (w2.heap.size+1) 209 #[aC aD ((d:Int)+1),aJ l (us.length-n) m]):=kb.out.fW _ (by omega);dsimp only;go_upto_region 6 with(first|(refine zGq rfl 209 _ rfl (w2.heap.size+1) rfl 209 _ (0,0) _ kb.out ((Qz.cO 209).trans Tryz.underlying209) rfl (by kernel_rfl) ?_)|(refine zGq rfl 209 _ rfl w2.heap.size rfl 209 _ (0,0) _ ka.out ((Qz.cO 209).trans Tryz.underlying209) rfl (by kernel_rfl) ?_)|(refine zGs rfl 209 _ _ rfl w2.heap.size _ rfl rfl _ _ ka.out (by kernel_rfl) rfl (by kernel_rfl) ?_)|(refine zGs rfl 209 _ _ rfl (w2.heap.size+1) _ rfl rfl _ _ L.out (by kernel_rfl) rfl (by kernel_rfl) ?_))
    have M1:Hid (zb w ((w3.setRow w2.heap.size #[aC aD ((d:Int)+1),aJ l (us.length-n) m]).setRow (w2.heap.size+1) #[aC aD ((d:Int)+1),aJ f n i])):=bN (bN F1.out (by omega) _) (by omega) _
    have M2:Hid (bB ((w3.setRow w2.heap.size #[aC aD ((d:Int)+1),aJ l (us.length-n) m]).setRow (w2.heap.size+1) #[aC aD ((d:Int)+1),aJ f n i]) w.heap.size 209 #[aC aD (d:Int),aJ f us.length i]):=(F2.out.fW _ (by omega)).fW _ (by omega)
    have M3:Hid (bB ((w3.setRow w2.heap.size #[aC aD ((d:Int)+1),aJ l (us.length-n) m]).setRow (w2.heap.size+1) #[aC aD ((d:Int)+1),aJ f n i]) (w.heap.size+1) 209 #[aC aD 0,aJ aB 0 0]):=(F3.out.fW _ (by omega)).fW _ (by omega)
    have M4:Hid (fT ((w3.setRow w2.heap.size #[aC aD ((d:Int)+1),aJ l (us.length-n) m]).setRow (w2.heap.size+1) #[aC aD ((d:Int)+1),aJ f n i]) (w.heap.size+2) u6 S):=Y.out.kept λg C=>by have:=X.out g C;rw[dS _ _ _ _ (by omega),dS _ _ _ _ (by omega)]
    have ma:Hid (bB ((w3.setRow w2.heap.size #[aC aD ((d:Int)+1),aJ l (us.length-n) m]).setRow (w2.heap.size+1) #[aC aD ((d:Int)+1),aJ f n i]) w2.heap.size 209 #[aC aD ((d:Int)+1),aJ l (us.length-n) m]):=(ka.out.cH _).fW _ (by omega)
    have mb:Hid (bB ((w3.setRow w2.heap.size #[aC aD ((d:Int)+1),aJ l (us.length-n) m]).setRow (w2.heap.size+1) #[aC aD ((d:Int)+1),aJ f n i]) (w2.heap.size+1) 209 #[aC aD ((d:Int)+1),aJ f n i]):=L.out.cH _
    have VS:((w3.setRow w2.heap.size #[aC aD ((d:Int)+1),aJ l (us.length-n) m]).setRow (w2.heap.size+1) #[aC aD ((d:Int)+1),aJ f n i]).heap.size=w3.heap.size:=by rw[size_setRow,size_setRow]
    rw[<-VS]at P
    clear VS L F1 F2 F3 Y ka kb
    generalize(w3.setRow w2.heap.size #[aC aD ((d:Int)+1),aJ l (us.length-n) m]).setRow (w2.heap.size+1) #[aC aD ((d:Int)+1),aJ f n i]=w4 at*
    go_upto_region 7 with(first|(refine zGq rfl 209 _ rfl (w2.heap.size+1) rfl 209 _ (0,0) _ mb.out ((Qz.cO 209).trans Tryz.underlying209) rfl (by kernel_rfl) ?_)|(at_builtin;refine tZ rfl _ _ rfl (w.heap.size+2) _ _ rfl M4.out [y] 1 rfl _ H.out 1 rfl (zEj _) Nw P ?_;intro R F A p r))
    have G1:Hid (zb w A):=nM M1.out M4.out r (by omega) M1.out.size
    have o:∀g,g<w.heap.size+2->aA g≠u6.ownBlock:=λg C h=>by have:=(M4.out.lt g h.symm).1;omega
    have G2:Hid (bB A w.heap.size 209 #[aC aD (d:Int),aJ f us.length i]):=M2.out.grown r (o _ (by omega))
    have G3:Hid (bB A (w.heap.size+1) 209 #[aC aD 0,aJ aB 0 0]):=M3.out.grown r (o _ (by omega))
    have G5:Hid (bB A w2.heap.size 209 #[aC aD ((d:Int)+1),aJ l (us.length-n) m]):=ma.out.grown r (λh=>by have:=X.out _ h.symm;omega)
    have G4:Hid (fT A (w.heap.size+2) (aJ (aA ⟨R,0,aB⟩) (S.length+1) F) (S++[y])):=p
    have HG4:Hid (w.heap.size+2<=R):=(p.lt R rfl).1
    clear p r o M1 M2 M3 M4 ma mb c0
    go_wp2_with (first|(refine zGq rfl 209 _ rfl w2.heap.size rfl 209 _ (0,0) _ G5.out ((Qz.cO 209).trans Tryz.underlying209) rfl (by kernel_rfl) ?_)|(refine zGs rfl 209 _ _ rfl w.heap.size _ rfl rfl _ _ G2.out (by kernel_rfl) rfl (by kernel_rfl) ?_))
    go_roundg (257-(d+1))
    case measure=>omega
    case rel=>
     go_light
     refine⟨z,S++[y],by rw[G.out];omega,by rw[G.out];omega,by rw[G.out,zAj,rl.out];rfl,bN G1.out (zAa _) _,?_,G3.out.fW _ (by omega),?_,λu s=> ?_,U.out⟩
     .rw[qx.out];exact G2.out.cH _
     .exact G4.out.kept λg C=>dS _ _ _ _ (by have:=(G4.out.lt g C).1;omega)
     .obtain rfl|s:=zAg.1 s
      .exact⟨HZ.out,qy.out⟩
      .obtain s|s:=zCh.1 s
       .exact su.out u s
       .rw[zAw.1 s];exact⟨HY.out,ra.out⟩
open Go Go.RowKit
def oU (S:zY->Prop)(w:zW)(v:zY):Prop:=∀g,v.ownBlock=aA g->∀cs e f,w.heap[g]? =aA (aI cs e f)->∀x∈cs.toList,S x
def oU.nil (S:zY->Prop)(w:zW):oU S w (aJ aB 0 0):=λ_ h=>by cases h
def oU.of {S:zY->Prop}{w:zW}{v:zY}{g:Nat}{cs:zA}{e:zD}{fr:Nat×Nat}(d:v.ownBlock=aA g)(f:w.heap[g]? =aA (aI cs e fr))(h:∀x∈cs.toList,S x):oU S w v:=λl c k m j b=>by rw[d]at c;injection c with c;subst c;rw[f]at b;injection b with b;injection b with i;subst i;exact h
def oU.kept {S:zY->Prop}{w w':zW}{v:zY}(h:oU S w v)(c:∀g,v.ownBlock=aA g->w'.heap[g]? =w.heap[g]?):oU S w' v:=λg b cs e f d=>h g b cs e f (by rw[<-c g b];exact d)
def gH {S:zY->Prop}{z:zA}(h:∀x∈z.toList,S x)(n:Nat):∀x∈(Builtin.zeroCells z n).toList,S x:=by
 intro x c;simp only[Builtin.zeroCells,zGb,Array.toList_range,zDb,zBw]at c;obtain⟨i,d,rfl⟩:=c;have b:0<z.size:=by
  obtain b|b:=zEu z.size
  .rw[b,Nat.mul_zero]at d;omega
  .exact b
 have bU:=zFu i b
 rw[zGe z _ bU]
 exact h _ (by simp)
section
variable {P:zZ}(w:zW)
def kU (S:zY->Prop)(base:Nat)(t ty e:zD)(i:TypeInfo)(z:zY)(size bytes:Nat)(U:P.underlying t=aA (.slice e))(V:P.info? e=aA i)(hz:i.zero=aA z)
  (A:i.size=size) (Y:i.bytes=bytes) (O:z.cells.size=size) (VS:0<size) (R:∀x∈z.cells.toList,S x)
  (v:zY) (n:Nat) (xs:zV) (h:w.ownsRow base e size v n xs) (y:oU S w v)
  (a:Addr) (m c:Nat) (b:zV) (F:b.length=m*size) (q:∀j u,b[j]? =aA u->w.cell? (a.add j)=aA u) (h1:∀u∈b,u.oneCell'=aE) (H:∀u∈b,S u)
  (hm:0<m) (J:n+m<=maxLen) (s:(n+m)*bytes<=140737488355328) (D:base<=w.heap.size):
  ∃g cap L,(Builtin.append_ #[t,t] ty #[v,aJ (aA a) m c]).run P w= .ok (aJ (aA ⟨g,0,aB⟩) (n+m) cap) L/\L.ownsRow base e size (aJ (aA ⟨g,0,aB⟩) (n+m) cap) (n+m) (xs++b)/\w.grownBy L v.ownBlock/\
   (v.ownBlock=aA g\/g=w.heap.size)/\oU S L (aJ (aA ⟨g,0,aB⟩) (n+m) cap):=by
 subst A
 subst Y
 have M:n+m<=9223372036854775807:=by simp only[maxLen]at J;omega
 have r:(xs++b).length=(n+m)*i.size:=by rw[zAj,h.1,F,zFd]
 have T:∀x∈xs,S x:=by
  intro x d;obtain⟨_,h0⟩|⟨g,cap,cur,rfl,_,B,_,_,_,l⟩:=h.2
  .have:=h.1;rw[h0,zEs]at this;rw[zBr this]at d;cases d
  .rw[<-l]at d;exact y g rfl cur e (0,0) B x (zCg d)
 have grown:∀(old:Nat),old<n+m->∀(row:Option Nat),
   (w.drew.alloc (aI (xs.toArray++b.toArray++Builtin.zeroCells z.cells (grownCap w (n+m) old e-(n+m))) e)).ownsRow base e i.size
    (aJ (aA ⟨w.heap.size,0,aB⟩) (n+m) (grownCap w (n+m) old e)) (n+m) (xs++b)/\
   w.grownBy (w.drew.alloc (aI (xs.toArray++b.toArray++Builtin.zeroCells z.cells (grownCap w (n+m) old e-(n+m))) e)) row/\
   oU S (w.drew.alloc (aI (xs.toArray++b.toArray++Builtin.zeroCells z.cells (grownCap w (n+m) old e-(n+m))) e)) (aJ (aA ⟨w.heap.size,0,aB⟩) (n+m) (grownCap w (n+m) old e)):=by
  intro old ho row
  have W:=grownCap_ge w (n+m) old e
  have C:grownCap w (n+m) old e<=maxLen:=grownCap_le_maxLen w (n+m) old e J
  refine⟨⟨r,aH ⟨w.heap.size,_,_,rfl,D,zHh w.drew _,W,C,?_,?_⟩⟩,⟨rfl,rfl,rfl,by simp,λk N _=>(by first|exact heap_alloc_old w.drew _ k N|exact heap_alloc_old w.drew _ N)⟩,oU.of rfl (zHh w.drew _) ?_⟩
  .simp only[zEb,zAl,zHl,O,h.1,F,<-zFd];congr 1;omega
  .simp only[zEa,zBu];rw[<-zBu,<-r];exact zGi
  .intro x d;simp only[zEa,zCh]at d;obtain(d|d)|d:=d
   .exact T x d
   .exact H x d
   .exact gH R _ x d
 obtain⟨rfl,rfl⟩|⟨g,cap,cur,rfl,Z,B,vy,C,X,l⟩:=h.2
 .have d:xs=[]:=zBr (by simpa using h.1);subst d;have G:=run_append_nil (P:=P) w t ty e i z U V hz a m c b F q (by omega) (by omega) (by have hb:=s;simp only[zAv]at hb;omega);have f:=grown 0 (by omega) (Value.ownBlock (aJ aB 0 0));simp only[zAv,zCl,zCm]at f⊢;exact⟨_,_,_,G,f.1,f.2.1,aH rfl,f.2.2⟩
 .by_cases p:n+m<=cap
  .have I:n*i.size+b.length<=cur.size:=by rw[F,X,<-zFd];exact zCi _ p
   have G:=run_append_room (P:=P) w t ty e i U V g n cap cur B a m c b F q h1 p I;refine⟨_,_,_,G,⟨r,aH ⟨g,cap,_,rfl,Z,zHf w g cur _ e _ B,p,C,?_,?_⟩⟩,⟨rfl,rfl,rfl,by simp,λk _ N=>setRow_other w g k _ (λe=>N (by simp[Value.ownBlock,e]))⟩,aG rfl,oU.of rfl (zHf w g cur _ e _ B) ?_⟩
   .simp only[zAl,zAj,zAn,zBa,zBn];omega
   .rw[l,<-r];exact zGi
   .intro x d;simp only[zCh]at d;obtain(d|d)|d:=d
    .exact y g rfl cur e (0,0) B x (zCg d)
    .exact H x d
    .exact y g rfl cur e (0,0) B x (zCb d)
  .have holds:∀j u,xs[j]? =aA u->w.cell? ((⟨g,0,aB⟩:Addr).add j)=aA u:=h.cells (g:=g) rfl;have G:=run_append_grow (P:=P) w t ty e i z U V hz ⟨g,0,aB⟩ n cap xs h.1 holds a m c b F q (by omega) (by omega) (growslice_fits (by omega) s);have f:=grown cap (by omega) (Value.ownBlock (aJ (aA ⟨g,0,aB⟩) n cap));exact⟨_,_,_,G,f.1,f.2.1,aH rfl,f.2.2⟩
def nH (l m ty elem:zD)(i:TypeInfo)(g o d f:Nat)(a:Addr)(s b:Nat)(c:zA)(t:zD)(cs:zV)
  (n:P.underlying l=aA (.slice elem)) (r:P.info? elem=aA i)
  (u:w.heap[g]? =aA (aI c t (0,0))) (p:cs.length=aDM s d*i.size)
  (h:∀j v,cs[j]? =aA v->w.cell? (a.add j)=aA v) (e:o+cs.length<=c.size) (x:∀v∈cs,v.oneCell'=aE):
  (Builtin.copy_ #[l,m] ty #[aJ (aA ⟨g,o,aB⟩) d f,aJ (aA a) s b]).run P w=
   .ok (goInt (aDM s d)) (w.setRow g (c.toList.take o++cs++c.toList.drop (o+cs.length)).toArray):=by
 have q:=run_loadCells_list (P:=P) w a cs h
 have k:=run_storeCells_at P g o t cs 0 c w u (by simpa using e) x
 simp[Builtin.copy_,run_underlying n,Builtin.lenOf,Builtin.firstCells,sizeOf,typeInfo,r,<-p,q,k]
def pQ (s ty elem:zD)(i:TypeInfo)(z:zY)(g o n cap:Nat)(c:zA)(t:zD)
  (e:P.underlying s=aA (.slice elem)) (f:P.info? elem=aA i) (d:i.zero=aA z) (l:0<n)
  (j:w.heap[g]? =aA (aI c t (0,0))) (h:o+n*z.cells.size<=c.size) (k:∀v∈z.cells.toList,v.oneCell'=aE):
  (Builtin.clear_ #[s] ty #[aJ (aA ⟨g,o,aB⟩) n cap]).run P w=
   .ok (.tuple #[]) (w.setRow g (c.toList.take o++(Builtin.zeroCells z.cells n).toList++c.toList.drop (o+n*z.cells.size)).toArray):=by
 have b:=run_storeCells_at P g o t (Builtin.zeroCells z.cells n).toList 0 c w j (by simpa [zHl]using h) (gH k n)
 obtain⟨m,rfl⟩:∃m,n=m+1:=⟨n-1,by omega⟩
 simp[Builtin.clear_,run_underlying e,zeroValue,typeInfo,f,d,b,zHl]
end
section
variable {P:zZ}{w:zW}{ops:zQ}{rest:List Oper}{o:Oper}{a:Act}{K:Act->zW->Prop}{Q:zX}{E:Prop}
def wp_append_run (s x:Operand)(t b:zD)(e:o.op= .call {callee:= .builtin .append,args:= #[s,x],argTypes:= #[t,b]})(v u:zY)(hs:a.eval s=v)(c:a.eval x=u){v':zY}{w':zW}
  (d:(Builtin.append_ #[t,b] o.type #[v,u]).run P w= .ok v' w') (h:K (a.put o.dst v') w'):o.wp P a w K Q:=by
 unfold Oper.wp execOp
 simp only[e,resolve,invoke,builtin,Sem.run_bind,Sem.run_pure,zHi,zFe,zEh,zGg,hs,c,d]
 exact h
def CJ (s x:Operand)(t b:zD)(e:o.op= .call {callee:= .builtin .copy,args:= #[s,x],argTypes:= #[t,b]})(v u:zY)(hs:a.eval s=v)(c:a.eval x=u){v':zY}{w':zW}
  (d:(Builtin.copy_ #[t,b] o.type #[v,u]).run P w= .ok v' w') (h:K (a.put o.dst v') w'):o.wp P a w K Q:=by
 unfold Oper.wp execOp
 simp only[e,resolve,invoke,builtin,Sem.run_bind,Sem.run_pure,zHi,zFe,zEh,zGg,hs,c,d]
 exact h
def wpList_append_run (c:o.guard=aB)(s x:Operand)(t b:zD)(f:o.op= .call {callee:= .builtin .append,args:= #[s,x],argTypes:= #[t,b]})(v u:zY)(hs:a.eval s=v)(d:a.eval x=u){v':zY}{w':zW}
  (e:(Builtin.append_ #[t,b] o.type #[v,u]).run P w= .ok v' w') (h:wpList P ops Q rest (a.put o.dst v') w'):wpList P ops Q (o::rest) a w:=
 wpList_plain c λ_ g=>wp_append_run s x t b f v u hs d e (g _ _ h)
def rY (c:o.guard=aB)(s x:Operand)(t b:zD)(f:o.op= .call {callee:= .builtin .copy,args:= #[s,x],argTypes:= #[t,b]})(v u:zY)(hs:a.eval s=v)(d:a.eval x=u){v':zY}{w':zW}
  (e:(Builtin.copy_ #[t,b] o.type #[v,u]).run P w= .ok v' w') (h:wpList P ops Q rest (a.put o.dst v') w'):wpList P ops Q (o::rest) a w:=
 wpList_plain c λ_ g=>CJ s x t b f v u hs d e (g _ _ h)
def jX (c:o.guard=aB)(s x:Operand)(t b:zD)(g:o.op= .call {callee:= .builtin .append,args:= #[s,x],argTypes:= #[t,b]})(v u:zY)(hs:a.eval s=v)(d:a.eval x=u){v':zY}{w':zW}
  (f:(Builtin.append_ #[t,b] o.type #[v,u]).run P w= .ok v' w') (h:K (a.put o.dst v') w'):if Region.wanted o (yielded ops a.tmps)=aE then Oper.wp P o a w K Q else E:=by
 have e:Region.wanted o (yielded ops a.tmps)=aE:=by simp[Region.wanted,c]
 rw[zAk e]
 exact wp_append_run s x t b g v u hs d f h
def vN (c:o.guard=aB)(s x:Operand)(t b:zD)(g:o.op= .call {callee:= .builtin .copy,args:= #[s,x],argTypes:= #[t,b]})(v u:zY)(hs:a.eval s=v)(d:a.eval x=u){v':zY}{w':zW}
  (f:(Builtin.copy_ #[t,b] o.type #[v,u]).run P w= .ok v' w') (h:K (a.put o.dst v') w'):if Region.wanted o (yielded ops a.tmps)=aE then Oper.wp P o a w K Q else E:=by
 have e:Region.wanted o (yielded ops a.tmps)=aE:=by simp[Region.wanted,c]
 rw[zAk e]
 exact CJ s x t b g v u hs d f h
end
def over (c:zV)(o:Nat)(a:zV):zV:=c.take o++a++c.drop (o+a.length)
def bY {c:zV}{o:Nat}{a:zV}(h:o+a.length<=c.length):(over c o a).length=c.length:=by unfold over;simp only[zAj,zAn,zBa];omega
def SQ {c:zV}{o:Nat}{a:zV}(h:o+a.length<=c.length){m:Nat}(b:m<=o):(over c o a).take m=c.take m:=by unfold over;rw[zBu,zCn (by rw[zAn];omega),List.take_take,aDN b]
def BG {c:zV}{o:Nat}{a:zV}(h:o+a.length<=c.length){m:Nat}(b:m=o+a.length):(over c o a).take m=c.take o++a:=by unfold over;rw[zCn (by rw[zAj,zAn];omega),zBg (by rw[zAj,zAn];omega)]
def Eo {c:zV}{o:Nat}{a:zV}(h:o+a.length<=c.length):(over c o a).drop o=a++c.drop (o+a.length):=by unfold over;rw[zBu,zDq (by rw[zAn];omega),zEo (by rw[zAn];omega),zCl]
def jR {c:zV}{o:Nat}{a:zV}{x:zY}(h:x∈over c o a):x∈c\/x∈a:=by
 unfold over at h;obtain h|h:=zCh.1 h
 .obtain h|h:=zCh.1 h
  .exact aG (zCg h)
  .exact aH h
 .exact aG (zCb h)
def SR {c xs vs:zV}{p q m:Nat}(a:c.take m=xs)(f:p<=m)(d:vs.length=q)(k:m+q<=c.length):
  (over (over c (p+q) (xs.drop p)) p vs).take (m+q)=xs.take p++vs++xs.drop p:=by
 have b:xs.length=m:=by rw[<-a,zAn];omega
 have h:p+q+(xs.drop p).length<=c.length:=by rw[zBa];omega
 have l:p+vs.length<=(over c (p+q) (xs.drop p)).length:=by rw[bY h];omega
 have j:(over c (p+q) (xs.drop p)).take p=xs.take p:=by rw[SQ h (by omega),<-a,List.take_take,aDN f]
 have i:(over c (p+q) (xs.drop p)).drop (p+q)=xs.drop p++c.drop (p+q+(xs.drop p).length):=Eo h
 rw[over,j,d,i,<-zBu]
 rw[zCn (by simp only[zAj,zAn,zBa];omega),zBg (by simp only[zAj,zAn,zBa];omega)]
def Jp {c xs vs:zV}{p q m:Nat}(b:c.take p=xs.take p)(a:xs.length=m)(i:p<=m)(f:vs.length=q)(j:m+q<=c.length):
  (over (over c p vs) (p+q) (xs.drop p)).take (m+q)=xs.take p++vs++xs.drop p:=by
 have h:p+vs.length<=c.length:=by omega
 have d:p+q+(xs.drop p).length<=(over c p vs).length:=by rw[bY h,zBa];omega
 rw[BG d (by rw[zBa];omega),BG h (by omega),b]
def tC {c xs zs:zV}{p q m:Nat}(h:c.take m=xs)(i:p+q<=m)(j:m<=c.length)(f:zs.length=q):
  (over (over c p (xs.drop (p+q))) (m-q) zs).take (m-q)=xs.take p++xs.drop (p+q):=by
 have b:xs.length=m:=by rw[<-h,zAn];omega
 have a:p+(xs.drop (p+q)).length<=c.length:=by rw[zBa];omega
 have d:m-q+zs.length<=(over c p (xs.drop (p+q))).length:=by rw[bY a];omega
 rw[SQ d (zAa _),BG a (by rw[zBa];omega)]
 congr 1
 rw[<-h,List.take_take,aDN (by omega)]
def cT (S:zY->Prop)(w:zW)(base:Nat)(e:zD)(size:Nat)(v:zY)(n:Nat)(xs:zV):Prop:=w.ownsRow base e size v n xs/\oU S w v
section
variable {S:zY->Prop}{w w':zW}{base:Nat}{e:zD}{size:Nat}{v:zY}{n g cap:Nat}{xs:zV}
def cT.kept (h:cT S w base e size v n xs)(b:∀g,v.ownBlock=aA g->w'.heap[g]? =w.heap[g]?):cT S w' base e size v n xs:=by
 refine⟨?_,h.2.kept b⟩;obtain⟨⟨d,a⟩,_⟩:=h;refine⟨d,?_⟩;obtain a|⟨g,cap,cur,rfl,hb,c,r⟩:=a
 .exact aG a
 .exact aH ⟨g,cap,cur,rfl,hb,by rw[b g rfl];exact c,r⟩
def cT.lt (h:cT S w base e size v n xs):∀k,v.ownBlock=aA k->base<=k/\k<w.heap.size:=World.ownsRow.lt h.1
def cT.below {B:Nat}(h:cT S w base e size v n xs)(b:Below B w w')(c:w.heap.size<=B):cT S w' base e size v n xs:=
 h.kept λg a=>b.block g (zAc (h.lt g a).2 c)
def cT.alloc (h:cT S w base e size v n xs)(o:Obj):cT S (w.alloc o) base e size v n xs:=h.kept λg a=>by first|exact heap_alloc_old w o g (h.lt g a).2|exact heap_alloc_old w o (h.lt g a).2
def cT.row (h:cT S w base e size (aJ (aA ⟨g,0,aB⟩) n cap) n xs):
  ∃c:zA,w.heap[g]? =aA (aI c e (0,0))/\base<=g/\n<=cap/\cap<=maxLen/\c.size=cap*size/\c.toList.take (n*size)=xs/\∀x∈c.toList,S x:=by
 obtain⟨e,_⟩|⟨m,d,c,e,hb,b,k,j,i,f⟩:=h.1.2
 .cases e
 .injection e with a _ l;iterate 2 (injection a with a)
  subst a l;exact⟨c,b,hb,k,j,i,f,h.2 g rfl c _ _ b⟩
def cT.form (h:cT S w base e size v n xs)(a:0<n):∃g cap,v=aJ (aA ⟨g,0,aB⟩) n cap:=by obtain⟨g,cap,e,_⟩:=World.ownsRow.form h.1 a;exact⟨g,cap,e⟩
def cT.of (c:zA)(hh:w.heap[g]? =aA (aI c e (0,0)))(d:base<=g)(b:n<=cap)(i:cap<=maxLen)(a:c.size=cap*size)(h:c.toList.take (n*size)=xs)(f:∀x∈c.toList,S x):
  cT S w base e size (aJ (aA ⟨g,0,aB⟩) n cap) n xs:=
 ⟨⟨by rw[<-h,zAn,zBn,a];exact aDN (zCi _ b),aH ⟨g,cap,c,rfl,d,hh,b,i,a,h⟩⟩,oU.of rfl hh f⟩
end
end Go.Proofs.Zq
