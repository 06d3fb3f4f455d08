import Derived.Test.YtghpcgagijhlaaaGreatDoorP38
set_option linter.all false
set_option maxRecDepth 100000
set_option maxHeartbeats 16000000
open Option renaming some->aA,none->aB
open Bool renaming true->aE,false->aF
open Or renaming inl->aG,inr->aH
open Go.Ending renaming returned->aL
open Go.Obj renaming cells->aI
open Go.IntKind renaming i64->aD,u8->aP
open Go.Value renaming slice->aJ,string->aK,pointer->aN,int->aC
namespace Go.Proofs.Zq
open Go Go.RowKit Sha
def Fl {l:List bK}(I:zB)(c:JM l):(vD I l=aE/\∃x,l=jH I l++x::iH I l)\/(vD I l=aF/\l=jH I l++iH I l):=by
 obtain⟨x,a,e⟩|⟨e,b⟩:=AW I l c
 .refine aG ⟨zFq.2 ⟨x,by rw[e];simp,by rw[a];exact zEp _⟩,x,e⟩
 .refine aH ⟨?_,e⟩;rw[zFm];intro h;obtain⟨x,a,d⟩:=zFq.1 h;exact b x a (zCk.1 d)
def pM {w w':zW}(h:Below w.drew.heap.size w.drew w'):zb w w':=⟨h.os,h.tape,h.output,h.size,h.block⟩
def gT.grown {w w':zW}{base:Nat}{v:zY}{l:List bK}{B:Nat}{w0:zW}(d:Below B w0 w)(h:gT w base v l)(c:w.grownBy w' v.ownBlock)(e:B<=base)(a:B<=w.heap.size):Below B w0 w':=
 d.grown c a λk b=>zBl e (cT.lt h k b).1
def SK (us cs:List bK)(t:Nat)(h:t<cs.length):bS us (cs.take (t+1))=sZ (bS us (cs.take t)) (cs.getD t ⟨[],[],aF⟩):=by unfold bS;rw[zBv h,List.foldl_append,zAq,zAf h];rfl
def GQ (us:List bK):∀cs l:List bK,(bS l cs).length<=l.length+cs.length
 |[],l=>zAa _
 |c::cs,l=>by
  have a:=GQ us cs (sZ l c);have h:=Jl l c;show(bS (sZ l c) cs).length<=_
  rw[zAe]
  omega
def UT (va vb:zO)(us cs:List bK)(c cc:Nat)(w:zW)(hE:bI w va us)(hC:bI w vb cs)(hs:uB us)(bw:∀u∈cs,u.idx.length=32/\u.val.length<=100)(hl:us.length<=10000)(bq:cs.length<=1000):
  Calls zq 157 #[aJ va us.length c,aJ vb cs.length cc] w λe K=>∃v,e=aL v/\gT K w.heap.size v (bS us cs)/\zb w K:=by
 have HC:Hid (bI w vb cs):=hC
 have sm:=ZG va us c w hE (by omega)
 have HS:Hid (∀t,uB (bS us (cs.take t))):=λt=>hs.kX λu hu=>bw u (zCg hu)
 have HI:Hid (∀u∈cs,u.idx.length=32/\u.val.length<=100):=bw
 have HP:Hid (∀t,t<cs.length->bS us (cs.take (t+1))=sZ (bS us (cs.take t)) (cs.getD t ⟨[],[],aF⟩)):=SK us cs
 have HL:Hid (∀t,(bS us (cs.take t)).length<=11000):=λt=>by
  have:=GQ us (cs.take t) us;have h2:(cs.take t).length<=cs.length:=by rw[zAn];omega
  omega
 have HZ:Hid (bS us (cs.take cs.length)=bS us cs):=by show _=_;rw[zEf]
 clear hE hC hs bw
 generalize us.length=n at*
 obtain⟨m,hm⟩:∃m,m=cs.length:=⟨_,rfl⟩
 have HM:Hid (m=cs.length):=hm
 rw[<-hm]at bq⊢
 clear hm
 go_enter Qz.func157,Tryz.ntmps157
 go_wp2_with fail
 refine sm.mono ?_
 clear sm
 rintro e w1 ⟨v0,rfl,V,hB⟩
 have B1:Hid (zb w w1):=hB
 have O1:Hid (gT w1 w.heap.size v0 us):=V
 clear V hB
 dsimp only
 go_upto_region 3 with(fail)
 go_loopg [5,14] m (λq x i wr=>∃t:Nat,t+q=m/\i=aC aD (t:Int)/\zb w wr/\gT wr w.heap.size x (bS us (cs.take t)))
 case atStart=>exact⟨0,by omega,rfl,B1.out,O1.out⟩
 case round=>
  obtain⟨t,ht,rfl,b2,o2⟩:=hrel
  have B2:Hid (zb w wr):=b2
  have U:=b2.size
  by_cases bU:t<m
  .have Q:t<cs.length:=by have:=HM.out;omega
   have hu:=zAf (l:=cs) (i:=t) Q;have HQ:=HP.out t Q;rw[zAq,hu]at HQ;have uj:=HI.out cs[t] (zCr _);have Hlt:=HL.out t;have qs:=HS.out t;generalize cs[t]=u at*;have B:Hid (bS us (cs.take (t+1))=sZ (bS us (cs.take t)) u):=HQ;generalize bS us (cs.take t)=l at*;obtain⟨g,o,rfl,hg,c0,c1,c2⟩:=(HC.out.below B2.out (zAa _)).idx t u hu;have Qt:¬((t:Int)<0):=by omega
   have Qs:(t:Int)<(m:Int):=by omega
   have O2:Hid (gT wr w.heap.size u5 l):=o2
   have rn:Hid (uB l):=qs
   have HF:Hid (∀k,u5.ownBlock=aA k->k<wr.heap.size):=λk hk=>(cT.lt O2.out k hk).2
   clear hu HQ b2 o2 qs
   go_upto_region 5 with(fail)
   have k3:Hid (bB (wr.alloc (aI #[aK ⟨u.idx.toArray⟩,aK ⟨u.val.toArray⟩,.bool u.gone] 53)) wr.heap.size 53 #[aK ⟨u.idx.toArray⟩,aK ⟨u.val.toArray⟩,.bool u.gone]):=bB.new _ _ _
   have b3:Hid (zb wr (wr.alloc (aI #[aK ⟨u.idx.toArray⟩,aK ⟨u.val.toArray⟩,.bool u.gone] 53))):=(zGp _ _).alloc (zAa _) _
   generalize wr.alloc (aI #[aK ⟨u.idx.toArray⟩,aK ⟨u.val.toArray⟩,.bool u.gone] 53)=w3 at*
   have B3:Hid (zb w w3):=aV B2.out b3.out U
   have O3:Hid (gT w3 w.heap.size u5 l):=O2.out.below b3.out (zAa _)
   have T:w.heap.size<=w3.heap.size:=B3.out.size
   have hB0:w.heap.size<=wr.heap.size:=U
   have e0:w3.cell? ⟨wr.heap.size,0,aB⟩=aA (aK ⟨u.idx.toArray⟩):=(k3.out.cell 0).trans rfl
   clear c0 c1 c2 B2 O2 b3
   obtain⟨vx,cx,rfl,bu,hex,xw⟩:=O3.out.tN
   go_wp2_with fail
   refine(UD u.idx l vx cx w3 hex rn.out.sub.order (by omega)).mono ?_
   rintro e w4 ⟨rfl,O⟩
   have B4:Hid (zb w w4):=aV B3.out O T
   have O4:Hid (gT w4 w.heap.size (aJ vx l.length cx) l):=O3.out.below O (zAa _)
   have k4:Hid (bB w4 wr.heap.size 53 #[aK ⟨u.idx.toArray⟩,aK ⟨u.val.toArray⟩,.bool u.gone]):=k3.out.below O k3.out.lt
   have ji:w.heap.size<=w4.heap.size:=B4.out.size
   clear O B3 O3 k3 e0 hex T
   dsimp only
   have N:=Fl u.idx rn.out.sub.order
   obtain⟨L,z⟩:∃L,L=jH u.idx l++iH u.idx l:=⟨_,rfl⟩
   obtain⟨p,hp⟩:∃p,p=(jH u.idx l).length:=⟨_,rfl⟩
   have X:L.length<=11000/\p<=L.length:=by
    have:L.length<=l.length:=by
     rw[z];obtain⟨_,x,e⟩|⟨_,e⟩:=N
     .have:=congrArg List.length e;rw[zAj,zAe]at this;rw[zAj];omega
     .rw[<-e];exact zAa _
    refine⟨by omega,?_⟩
    rw[z,zAj,hp]
    omega
   have HT:Hid (L.take p=jH u.idx l/\L.drop p=iH u.idx l):=by rw[z,hp];exact⟨zGi,List.drop_left⟩
   have C:Hid (sZ l u=if u.gone then L else L.take p++qF u::L.drop p):=by
    show _=_
    rw[HT.out.1,HT.out.2,z]
    unfold sZ
    cases u.gone<;>rfl
   have HD:Hid (vD u.idx l=aE->p<l.length/\l.take p++l.drop (p+1)=L):=λh=>by
    obtain⟨_,x,e⟩|⟨h',_⟩:=N
    .have ik:=congrArg List.length e;rw[zAj,zAe]at ik;refine⟨by omega,?_⟩;rw[z,hp];conv=>lhs;rw[e]
     congr 1
     .rw[show jH u.idx (jH u.idx l++x::iH u.idx l)=jH u.idx l from by rw[<-e]];exact zGi
     .rw[show jH u.idx (jH u.idx l++x::iH u.idx l)=jH u.idx l from by rw[<-e],<-zGj,List.drop_left];rfl
    .rw[h]at h';cases h'
   have HN:Hid (vD u.idx l=aF->l=L):=λh=>by
    obtain⟨h',_⟩|⟨_,e⟩:=N
    .rw[h]at h';cases h'
    .rw[z];exact e
   rw[<-hp]
   clear N z hp HT
   have hlen:=HL.out t
   have Qn:(⟨u.idx.toArray⟩:ByteArray).size<=1000:=by show u.idx.toArray.size<=_;simp;omega
   have Nu:(⟨u.val.toArray⟩:ByteArray).size<=1000:=by show u.val.toArray.size<=_;simp;omega
   cases R:vD u.idx l
   rotate_left
   .obtain⟨vp,S⟩:=HD.out R;obtain⟨gx,aAE,ug⟩:=cT.form O4.out (by omega);injection ug with h1 _ h3;subst h1 h3;have HX:=Ma w.heap.size gx cx p l w4 O4.out (by omega) vp;rw[S]at HX;have hp0:(p:Int)<9223372036854775807:=by omega
    go_wp2_with fail;refine HX.mono ?_;clear HX;rintro e w5 ⟨v2,rfl,ng,iz⟩;have P:Hid (zb w w5):=gT.grown B4.out O4.out iz (zAa _) ji;have O5:Hid (gT w5 w.heap.size v2 L):=ng;have r:Hid (bB w5 wr.heap.size 53 #[aK ⟨u.idx.toArray⟩,aK ⟨u.val.toArray⟩,.bool u.gone]):=k4.out.grown iz (λe=>by have h1:=HF.out gx rfl;injection e with e;omega);clear ng iz B4 O4 k4 S HF HD HN;dsimp only;go_upto_region 8 with(fail)
    have q2:w5.cell? ⟨wr.heap.size,2,aB⟩=aA (.bool u.gone):=(r.out.cell 2).trans rfl
    have E:w.heap.size<=w5.heap.size:=P.out.size
    cases j:u.gone with
    |true=>
     have a:bS us (cs.take (t+1))=L:=by rw[B.out,C.out,j];rfl
     have f:Hid (bS us (cs.take (t+1))=L):=a
     rw[j]at q2
     clear a
     go_wp2_with fail
     go_roundg (m-(t+1))
     case measure=>omega
     case rel=>
      go_light
      exact⟨t+1,by omega,by go_num,P.out,by rw[f.out];exact O5.out⟩
    |false=>
     have a:bS us (cs.take (t+1))=L.take p++qF u::L.drop p:=by rw[B.out,C.out,j];rfl
     have f:Hid (bS us (cs.take (t+1))=L.take p++qF u::L.drop p):=a
     rw[j]at q2
     clear a
     have H:Hid (∀W Y,zb w5 W->Calls zq 166 #[v2,aC aD p,aJ (aA ⟨W.heap.size,0,aB⟩) 1 Y] (W.alloc (aI #[aK ⟨u.idx.toArray⟩,aK ⟨u.val.toArray⟩,.bool aF] 53)) λe K=>∃M,e=aL M/\gT K w.heap.size M (L.take p++qF u::L.drop p)/\zb w K):=λW Y G=>by have V:=O5.out.below G (zAa _);have J:=aV P.out G E;have I:gT (W.alloc (aI #[aK ⟨u.idx.toArray⟩,aK ⟨u.val.toArray⟩,.bool aF] 53)) w.heap.size v2 L:=cT.alloc V _;have A:zb w (W.alloc (aI #[aK ⟨u.idx.toArray⟩,aK ⟨u.val.toArray⟩,.bool aF] 53)):=J.out.alloc J.out.size _;refine(TQ w.heap.size W.heap.size Y p v2 L (qF u) _ I (by omega) X.2 (zHh W _) (λg hg e=>by have:=(cT.lt V g hg).2;omega) A.size).mono ?_;rintro e K ⟨M,h1,h2,h3⟩;exact⟨M,h1,h2,gT.grown A I h3 (zAa _) A.size⟩
     have HK:Hid (∀W,zb w5 W->W.cell? ⟨wr.heap.size,0,aB⟩=aA (aK ⟨u.idx.toArray⟩)/\W.cell? ⟨wr.heap.size,1,aB⟩=aA (aK ⟨u.val.toArray⟩)):=λW G=>⟨((r.out.below G r.out.lt).cell 0).trans rfl,((r.out.below G r.out.lt).cell 1).trans rfl⟩
     have q0:w5.cell? ⟨wr.heap.size,0,aB⟩=aA (aK ⟨u.idx.toArray⟩):=(r.out.cell 0).trans rfl
     have q1:w5.cell? ⟨wr.heap.size,1,aB⟩=aA (aK ⟨u.val.toArray⟩):=(r.out.cell 1).trans rfl
     clear P O5 r C B
     go_upto_region 9 with(fail)
     clear q2
     go_region_with (first
      |(go_at_call_of 85 (Value.string {data:=u.idx.toArray});refine(qO _ _ Qn).mono ?_;rintro e wi ⟨rfl,y⟩;
        have d:Hid (zb w5 wi):=by first|exact pM y|exact(aV b.out y b.out.size).out;
        obtain⟨ew,er⟩:=HK.out wi d.out;clear y;dsimp only)
      |(go_at_call_of 85 (Value.string {data:=u.val.toArray});refine(qO _ _ Nu).mono ?_;rintro e wv ⟨rfl,s⟩;
        have b:Hid (zb w5 wv):=by first|exact pM s|exact(aV d.out s d.out.size).out;
        obtain⟨ed,Z⟩:=HK.out wv b.out;clear s;dsimp only)
      |(go_at_call 166;
        first|refine(H.out _ _ b.out).mono ?_|refine(H.out _ _ d.out).mono ?_;
        rintro e w9 ⟨v9,rfl,D,F⟩;dsimp only))
     all_goals
      have O9:Hid (gT w9 w.heap.size v9 (L.take p++qF u::L.drop p)):=D
      have B9:Hid (zb w w9):=F
      clear D F q0 q1 ew er ed Z HK H d b
      go_wp2_with fail
      go_roundg (m-(t+1))
      case measure=>omega
      case rel=>
       go_light
       exact⟨t+1,by omega,by go_num,B9.out,by rw[f.out];exact O9.out⟩
   .have e5:=HN.out R;have P:Hid (zb w w4):=B4.out;have O5:Hid (gT w4 w.heap.size (aJ vx l.length cx) L):=by
     have:=O4.out;rw[<-e5];exact this
    have r:Hid (bB w4 wr.heap.size 53 #[aK ⟨u.idx.toArray⟩,aK ⟨u.val.toArray⟩,.bool u.gone]):=k4.out;clear B4 O4 k4 e5 HF HD HN xw bu;generalize Value.slice vx l.length cx=v2 at*;generalize w4=w5 at*;go_upto_region 8 with(fail)
    have q2:w5.cell? ⟨wr.heap.size,2,aB⟩=aA (.bool u.gone):=(r.out.cell 2).trans rfl
    have E:w.heap.size<=w5.heap.size:=P.out.size
    cases j:u.gone with
    |true=>
     have a:bS us (cs.take (t+1))=L:=by rw[B.out,C.out,j];rfl
     have f:Hid (bS us (cs.take (t+1))=L):=a
     rw[j]at q2
     clear a
     go_wp2_with fail
     go_roundg (m-(t+1))
     case measure=>omega
     case rel=>
      go_light
      exact⟨t+1,by omega,by go_num,P.out,by rw[f.out];exact O5.out⟩
    |false=>
     have a:bS us (cs.take (t+1))=L.take p++qF u::L.drop p:=by rw[B.out,C.out,j];rfl
     have f:Hid (bS us (cs.take (t+1))=L.take p++qF u::L.drop p):=a
     rw[j]at q2
     clear a
     have H:Hid (∀W Y,zb w5 W->Calls zq 166 #[v2,aC aD p,aJ (aA ⟨W.heap.size,0,aB⟩) 1 Y] (W.alloc (aI #[aK ⟨u.idx.toArray⟩,aK ⟨u.val.toArray⟩,.bool aF] 53)) λe K=>∃M,e=aL M/\gT K w.heap.size M (L.take p++qF u::L.drop p)/\zb w K):=λW Y G=>by have V:=O5.out.below G (zAa _);have J:=aV P.out G E;have I:gT (W.alloc (aI #[aK ⟨u.idx.toArray⟩,aK ⟨u.val.toArray⟩,.bool aF] 53)) w.heap.size v2 L:=cT.alloc V _;have A:zb w (W.alloc (aI #[aK ⟨u.idx.toArray⟩,aK ⟨u.val.toArray⟩,.bool aF] 53)):=J.out.alloc J.out.size _;refine(TQ w.heap.size W.heap.size Y p v2 L (qF u) _ I (by omega) X.2 (zHh W _) (λg hg e=>by have:=(cT.lt V g hg).2;omega) A.size).mono ?_;rintro e K ⟨M,h1,h2,h3⟩;exact⟨M,h1,h2,gT.grown A I h3 (zAa _) A.size⟩
     have HK:Hid (∀W,zb w5 W->W.cell? ⟨wr.heap.size,0,aB⟩=aA (aK ⟨u.idx.toArray⟩)/\W.cell? ⟨wr.heap.size,1,aB⟩=aA (aK ⟨u.val.toArray⟩)):=λW G=>⟨((r.out.below G r.out.lt).cell 0).trans rfl,((r.out.below G r.out.lt).cell 1).trans rfl⟩
     have q0:w5.cell? ⟨wr.heap.size,0,aB⟩=aA (aK ⟨u.idx.toArray⟩):=(r.out.cell 0).trans rfl
     have q1:w5.cell? ⟨wr.heap.size,1,aB⟩=aA (aK ⟨u.val.toArray⟩):=(r.out.cell 1).trans rfl
     clear P O5 r C B
     go_upto_region 9 with(fail)
     clear q2
     go_region_with (first
      |(go_at_call_of 85 (Value.string {data:=u.idx.toArray});refine(qO _ _ Qn).mono ?_;rintro e wi ⟨rfl,y⟩;
        have d:Hid (zb w5 wi):=by first|exact pM y|exact(aV b.out y b.out.size).out;
        obtain⟨ew,er⟩:=HK.out wi d.out;clear y;dsimp only)
      |(go_at_call_of 85 (Value.string {data:=u.val.toArray});refine(qO _ _ Nu).mono ?_;rintro e wv ⟨rfl,s⟩;
        have b:Hid (zb w5 wv):=by first|exact pM s|exact(aV d.out s d.out.size).out;
        obtain⟨ed,Z⟩:=HK.out wv b.out;clear s;dsimp only)
      |(go_at_call 166;
        first|refine(H.out _ _ b.out).mono ?_|refine(H.out _ _ d.out).mono ?_;
        rintro e w9 ⟨v9,rfl,D,F⟩;dsimp only))
     all_goals
      have O9:Hid (gT w9 w.heap.size v9 (L.take p++qF u::L.drop p)):=D
      have B9:Hid (zb w w9):=F
      clear D F q0 q1 ew er ed Z HK H d b
      go_wp2_with fail
      go_roundg (m-(t+1))
      case measure=>omega
      case rel=>
       go_light
       exact⟨t+1,by omega,by go_num,B9.out,by rw[f.out];exact O9.out⟩
  .have e:cs.take t=cs:=zBg (by have:=HM.out;omega);rw[e]at o2;have O2:Hid (gT wr w.heap.size u5 (bS us cs)):=o2;obtain rfl:t=m:=by omega
   clear b2 o2;go_wp2;go_ret;exact⟨_,rfl,O2.out,B2.out⟩
def jG (a n:List bK):Nat:=gS 256 n (cP a n) 0
def Qc {a n:List bK}(b:uB a)(h:uB n):jG a n<=oJ (bF n) (bF a):=by have:=TZ 256 n (cP a n) (bF a) 0 rfl h.sub (zEz.2 b.sub.order) (qM a n b.sub.order h.sub.order).2;exact this
def cI.tN {w:zW}{base:Nat}{v:zY}{l:List bK}(h:cI w base v l):∃va c,v=aJ va l.length c/\l.length<=c/\bI w va l:=by
 obtain⟨rfl,f⟩|⟨g,cap,cur,rfl,hb,b,e,k,i,d⟩:=h.2
 .exact⟨aB,0,by rw[f],by omega,λh=>by omega⟩
 .refine⟨aA ⟨g,0,aB⟩,cap,rfl,e,λ_=>⟨g,0,rfl,(zAb.1 b).1,λj u a=> ?_⟩⟩;rw[zAv,zGy w g j cur 53 (0,0) b];rw[<-d,zBy]at a;split at a
  .rw[<-zBo];exact a
  .cases a
def yI (va vb:zO)(a n:List bK)(o d:Nat)(w:zW)(t:bI w va a)(m:bI w vb n)(sa:uB a)(s:uB n)(D:a.length<=400)(C:n.length<=400)(r:a.length<=o)(g:n.length<=d):
  Calls zq 155 #[aJ va a.length o,aJ vb n.length d] w λe f=>e=aL (aC aD (jG a n))/\zb w f:=by
 have O:Hid (bI w va a):=t
 have N:Hid (bI w vb n):=m
 have J:Hid (∀W,zb w W->Calls zq 163 #[aJ va a.length o,aJ vb n.length d] W λe f=>∃v,e=aL v/\cI f W.heap.size v (cP a n)/\zb W f):=λW l=>IY va vb a n o d W (t.below l (zAa _)) (m.below l (zAa _)) (by omega) (by omega) r g
 have F:=uT a n
 have I:Hid (∀W b c,bI W b (cP a n)->(cP a n).length<=c->zb w W->Calls zq 162 #[.agg #[aC aD 0,aJ vb n.length d],.agg #[aC aD 0,aJ b (cP a n).length c]] W λe f=>e=aL (aC aD (jG a n))/\zb W f):=λW b c H G l=>
  Fq 256 0 d c vb b n (cP a n) W rfl s.sub (Ge sa.sub s.sub) (by omega) (by omega) g G (m.below l (zAa _)) H
 clear t m sa s
 generalize jG a n=R at*
 generalize cP a n=L at*
 generalize a.length=M at*
 generalize n.length=A at*
 go_enter Qz.func155,Tryz.ntmps155
 go_wp2_with fail
 refine(uF vb A d w).mono ?_
 rintro e w1 ⟨rfl,k⟩
 have p:Hid (zb w w1):=k
 clear k
 dsimp only
 go_wp2_with fail
 refine(J.out w1 p.out).mono ?_
 rintro e w2 ⟨v,rfl,x,j⟩
 obtain⟨b,c,rfl,q,y⟩:=x.tN
 have u:Hid (zb w w2):=aV p.out j p.out.size
 have z:Hid (bI w2 b L):=y
 clear j x y p
 dsimp only
 go_wp2_with fail
 refine(uF b L.length c w2).mono ?_
 rintro e w3 ⟨rfl,h⟩
 have B:Hid (zb w w3):=aV u.out h u.out.size
 have E:Hid (bI w3 b L):=z.out.below h (zAa _)
 clear h u z
 dsimp only
 go_wp2_with fail
 refine(I.out w3 b c E.out q B.out).mono ?_
 rintro e w4 ⟨rfl,i⟩
 have K:Hid (zb w w4):=aV B.out i B.out.size
 clear i B E
 dsimp only
 go_wp2
 go_ret
 exact⟨rfl,K.out⟩
open Go Go.RowKit Sha Go.Ga Go.Ren
def iJ (w:zW)(g:Nat):Prop:=∃cs,w.heap[g]? =aA (aI cs 53 (0,0))/\∀x∈cs.toList,wA x
def wW (w:zW)(x:zY):Prop:=∃va n c,x=aJ va n c/\∀a,va=aA a->iJ w a.block
def JP (w:zW):Prop:=∀b,b<=zq.globals.size->(∃c t f,w.heap[b]? =aA (aI c t f)/\(∀D:zP,(∀x,x<=zq.globals.size->D x)->aW Qw.Al (dE D) c c)/\(∀(i:Nat) m,c[i]?≠aA (aC aP m))/\f.2<=c.size)\/∃o,w.heap[b]? =aA o/\EG o
structure gI (F:zP)(w w':zW):Prop where
 os:w'.os=w.os
 tape:w'.tape=w.tape
 output:w'.output=w.output
 size:w.heap.size<=w'.heap.size
 block:∀k,k<w.heap.size->¬F k->w'.heap[k]? =w.heap[k]?
section
variable {F F':zP}{w w1 w':zW}
def gI.of {B:Nat}(h:Below B w w')(c:w.heap.size<=B):gI F w w':=⟨h.os,h.tape,h.output,h.size,λk a _=>h.block k (zAc a c)⟩
def gI.trans (h:gI F w w1)(a:gI F w1 w'):gI F w w':=⟨a.os.trans h.os,a.tape.trans h.tape,a.output.trans h.output,zBl h.size a.size,λk c hF=>(a.block k (zAc c h.size) hF).trans (h.block k c hF)⟩
def gI.then (h:gI F w w1)(a:gI F' w1 w')(hF:∀x,F' x->x<w.heap.size->F x):gI F w w':=⟨a.os.trans h.os,a.tape.trans h.tape,a.output.trans h.output,zBl h.size a.size,λk c d=>(a.block k (zAc c h.size) (λe=>d (hF k e c))).trans (h.block k c d)⟩
def gI.mono (h:gI F w w')(hF:∀x,F x->F' x):gI F' w w':=⟨h.os,h.tape,h.output,h.size,λk c a=>h.block k c λd=>a (hF k d)⟩
def gI.grown {x:Nat}(h:w.grownBy w' (aA x))(a:F x):gI F w w':=⟨h.os,h.tape,h.output,h.size,λk d c=>h.block k d λe=>c (by injection e with e;rw[e];exact a)⟩
end
structure cC (w:zW)(t k room b cap:Nat)(S:List (List bK)):Prop where
 k1:1<=k
 k2:k<=32
 nB:JP w
 mZ:dO w
 QT:zq.globals.size<t
 Mq:zq.globals.size<b
 at':w.heap[t]? =aA (aI #[aC aD k,aC aD room,aK ⟨(dg k [0]).toArray⟩,aJ (aA ⟨b,0,aB⟩) S.length cap] 165 (0,0))
 row:∃cur:zA,w.heap[b]? =aA (aI cur 48 (0,0))/\S.length<=cap/\cap<=maxLen/\cur.size=cap/\(∀x∈cur.toList,wW w x)/\∀(i:Nat) us,S[i]? =aA us->∃va c,cur[i]? =aA (Value.slice va us.length c)/\us.length<=c/\bI w va us
 st:∀us∈S,uB us/\us.length<=400
 len:S.length<=1000
 one:0<S.length
def II:0<=zq.globals.size/\2<=zq.globals.size:=by have:zq.globals.size=zq.globals.size:=rfl;rw[this];exact⟨by decide+kernel,by decide+kernel⟩
section
variable {w w':zW}{t k room b cap:Nat}{S:List (List bK)}
def JP.kept (h:JP w)(c:∀x,x<=zq.globals.size->w'.heap[x]? =w.heap[x]?):JP w':=λx a=>by rw[c x a];exact h x a
def iJ.kept {g:Nat}(h:iJ w g)(a:w'.heap[g]? =w.heap[g]?):iJ w' g:=by obtain⟨cs,d,c⟩:=h;exact⟨cs,by rw[a];exact d,c⟩
def iJ.lt {g:Nat}(h:iJ w g):g<w.heap.size:=by obtain⟨cs,a,_⟩:=h;exact(zAb.1 a).1
def bI.kept {va:zO}{us:List bK}(h:bI w va us)(hs:w.heap.size<=w'.heap.size)(c:∀a,va=aA a->w'.heap[a.block]? =w.heap[a.block]?):bI w' va us:=λl=>by obtain⟨g,o,e,f,i⟩:=h l;subst e;refine⟨g,o,rfl,zAc f hs,λj u d=> ?_⟩;rw[World.cell?_of_block (a:=⟨g,o+j,aB⟩) (c ⟨g,o,aB⟩ rfl)];exact i j u d
def dO.kept (h:dO w)(hs:w.heap.size<=w'.heap.size)(c:∀x,x<=zq.globals.size->w'.heap[x]? =w.heap[x]?):dO w':=by
 obtain⟨g,f⟩:=II;refine⟨⟨zAc h.qN.1 hs,λj e=> ?_⟩,zAc h.lt hs,λj v d=> ?_⟩
 .rw[World.cell?_of_block (a:=⟨_,j,aB⟩) (c _ f)];exact h.qN.2 j e
 .rw[World.cell?_of_block (a:=⟨_,_,aB⟩) (c _ g)];exact h.lZ j v d
def cC.WC (h:cC w t k room b cap S):t<w.heap.size:=(zAb.1 h.at').1
def cC.blt (h:cC w t k room b cap S):b<w.heap.size:=by obtain⟨c,a,_⟩:=h.row;exact(zAb.1 a).1
def cC.tb (h:cC w t k room b cap S):t≠b:=λe=>by obtain⟨f,d,_⟩:=h.row;have a:=h.at';rw[e,d]at a;injection a with a;injection a with _ c;revert c;decide
def cC.kept (h:cC w t k room b cap S)(hs:w.heap.size<=w'.heap.size)(d:∀x,x<=zq.globals.size\/x=t\/x=b\/iJ w x->w'.heap[x]? =w.heap[x]?):cC w' t k room b cap S:=by
 obtain⟨l,c1,c2,c3,c4,c5,c6⟩:=h.row;refine⟨h.k1,h.k2,h.nB.kept λx f=>d x (aG f),h.mZ.kept hs λx f=>d x (aG f),h.QT,h.Mq,by rw[d t (aH (aG rfl))];exact h.at',⟨l,by rw[d b (aH (aH (aG rfl)))];exact c1,c2,c3,c4,λx f=> ?_,λi us m=> ?_⟩,h.st,h.len,h.one⟩
 .obtain⟨va,n,c,rfl,g⟩:=c5 x f;exact⟨va,n,c,rfl,λa j=>(g a j).kept (d _ (aH (aH (aH (g a j)))))⟩
 .obtain⟨va,c,d1,p,d3⟩:=c6 i us m;refine⟨va,c,d1,p,d3.kept hs λa j=> ?_⟩;obtain⟨v,q,c',e,g⟩:=c5 _ (by rw[zDl];exact zBc d1);injection e with o;subst o;exact d _ (aH (aH (aH (g a j))))
def cC.below {B:Nat}(h:cC w t k room b cap S)(c:Below B w w')(d:w.heap.size<=B):cC w' t k room b cap S:=
 h.kept c.size λx a=>c.block x (zAc (by
  obtain a|rfl|rfl|a:=a
  .have:=h.QT;have:=h.WC;omega
  .exact h.WC
  .exact h.blt
  .exact a.lt) d)
def cC.other {x:Nat}{cs:zA}{ty:zD}{fr:Nat×Nat}(h:cC w t k room b cap S)(d:w.grownBy w' (aA x))(i:w.heap[x]? =aA (aI cs ty fr))(a:ty≠53/\ty≠165/\ty≠48)(l:zq.globals.size<x):cC w' t k room b cap S:=
 h.kept d.size λy c=>by
  obtain c|rfl|rfl|c:=c
  .exact d.block y (by have:=h.QT;have:=h.WC;omega) (λe=>by injection e with e;omega)
  .refine d.block _ h.WC (λe=> ?_);injection e with e;subst e;have g:=h.at';rw[i]at g;injection g with g;injection g with _ f;exact a.2.1 f
  .refine d.block _ h.blt (λe=> ?_);injection e with e;subst e;obtain⟨j,c1,_⟩:=h.row;rw[i]at c1;injection c1 with c1;injection c1 with _ f;exact a.2.2 f
  .refine d.block _ c.lt (λe=> ?_);injection e with e;subst e;obtain⟨j,c1,_⟩:=c;rw[i]at c1;injection c1 with c1;injection c1 with _ f;exact a.1 f
def UH (w:zW)(t b:Nat):zP:=λx=>x<=zq.globals.size\/x=t\/x=b\/iJ w x
def Hf {D:zP}{a:Addr}(h:D a.block):bV (dE D) a a:=⟨⟨rfl,h⟩,rfl,rfl⟩
def FN {D:zP}{va:zO}(h:∀a,va=aA a->D a.block)(n c:Nat):bG Qw.Al (dE D) (aJ va n c) (aJ va n c):=by
 cases va with
 |none=>exact .slice .none n c
 |some a=>exact .slice (.some (Hf (h a rfl))) n c
def NH {D:zP}{cs:zA}(h:∀x∈cs.toList,bG Qw.Al (dE D) x x):aW Qw.Al (dE D) cs cs:=⟨rfl,λi v d c a=>by rw[c]at a;injection a with a;subst a;exact h v (by rw[zDl];exact zBc c)⟩
def cC.plain (h:cC w t k room b cap S):Plain zq Qw.Al (UH w t b) w:=by
 have q:∀x,x<=zq.globals.size->UH w t b x:=λx d=>aG d;refine⟨⟨λf p=>by rw[f.1,p.1],λf _=>f.1,λx d=>⟨rfl,q x d⟩⟩,by have:=h.QT;have:=h.WC;omega,λx d=> ?_⟩;obtain⟨B,c1,c2,c3,c4,c5,c6⟩:=h.row;by_cases yQ:x<=zq.globals.size
 .obtain⟨c,ty,A,f,p,z,v⟩|⟨o,f,p⟩:=h.nB x yQ
  .exact aG ⟨c,ty,A,f,p _ q,z,v⟩
  .exact aH ⟨yQ,o,f,p⟩
 .left;obtain d|rfl|rfl|d:=d
  .exact absurd d yQ
  .refine⟨_,_,_,h.at',NH λy g=> ?_,λi m j=> ?_,zBp _⟩
   .simp only[zAg,zAt,zCp]at g;obtain rfl|rfl|rfl|rfl:=g
    .exact .int _ _
    .exact .int _ _
    .exact .string _
    .exact FN (λa l=>by injection l with l;subst l;exact aH (aH (aG rfl))) _ _
   .have:=zBc j;simp at this
  .refine⟨_,_,_,c1,NH λy g=> ?_,λi m j=> ?_,zBp _⟩
   .obtain⟨va,n,c,rfl,u⟩:=c5 y g;exact FN (λa l=>aH (aH (aH (u a l)))) _ _
   .obtain⟨va,n,c,e,_⟩:=c5 _ (by rw[zDl];exact zBc j);cases e
  .obtain⟨cs,d1,r⟩:=d;refine⟨_,_,_,d1,NH λy g=> ?_,λi m j=> ?_,zBp _⟩
   .obtain⟨s,rfl⟩|⟨C,rfl⟩:=r y g
    .exact .string _
    .exact .bool _
   .obtain⟨s,e⟩|⟨C,e⟩:=r _ (by rw[zDl];exact zBc j)<;>cases e
def cC.cell (h:cC w t k room b cap S)(i:Nat):w.cell? ⟨t,i,aB⟩=(#[aC aD k,aC aD room,aK ⟨(dg k [0]).toArray⟩,aJ (aA ⟨b,0,aB⟩) S.length cap]:zA)[i]? :=zGy w t i _ _ (0,0) h.at'
def cC.EC (h:cC w t k room b cap S):Nj (UH w t b) t k w:=
 ⟨h.k1,h.k2,h.plain,aG II.1,aG II.2,aH (aG rfl),h.mZ,⟨h.WC,h.cell 0,h.cell 2⟩⟩
def cC.at (h:cC w t k room b cap S){i:Nat}{us:List bK}(f:S[i]? =aA us):∃va c,w.cell? ⟨b,i,aB⟩=aA (aJ va us.length c)/\us.length<=c/\bI w va us/\(∀a,va=aA a->iJ w a.block):=by obtain⟨d,c1,c2,c3,c4,c5,c6⟩:=h.row;obtain⟨va,c,d1,l,d3⟩:=c6 i us f;obtain⟨v,n,c',e,g⟩:=c5 _ (by rw[zDl];exact zBc d1);injection e with j;subst j;exact⟨va,c,by rw[zGy w b i d _ (0,0) c1];exact d1,l,d3,g⟩
end
def eM:List bK->List (List bK)->Nat
 |_,[]=>0
 |w,l::E=>jG w l+eM l E
def XV {a n:List bK}(h:n.length<=400):jG a n<=102800:=by have c:=BO 256 n (cP a n) 0;have b:(256+1)*n.length<=257*400:=Nat.mul_le_mul (zAa _) h;unfold jG;omega
def pB (w:List bK)(S:List (List bK))(t:Nat):List bK:=if t=0 then w else S.getD (t-1) []
def JA:∀(S:List (List bK))(w:List bK)(t:Nat),t<S.length->eM w (S.take (t+1))=eM w (S.take t)+jG (pB w S t) (S.getD t [])
 |[],_,_,h=>by simp at h
 |l::S,w,0,_=>by
  show jG w l+0=0+jG w l
  omega
 |l::S,w,t+1,h=>by
  have i:=JA S l t (by simpa using h);rw[zEm,zEm];show jG w l+eM l (S.take (t+1))=jG w l+eM l (S.take t)+_
  rw[i]
  have e:pB l S t=pB w (l::S) (t+1):=by
   unfold pB;cases t with
   |zero=>simp
   |succ t=>rw[zAh (by omega),zAh (by omega)];simp
  rw[e]
  show jG w l+(eM l (S.take t)+jG _ (S.getD t []))=jG w l+eM l (S.take t)+jG _ (S.getD t [])
  omega
def UU:∀(S:List (List bK))(w:List bK),(∀us∈S,us.length<=400)->eM w S<=102800*S.length
 |[],_,_=>zBp _
 |l::S,w,h=>by
  have d:=UU S l λus b=>h us (zBe _ b);have c:=XV (a:=w) (h l (zAz ..));show jG w l+eM l S<=102800*(S.length+1)
  omega
def JC:∀(S:List (List bK))(w:List bK),uB w->(∀us∈S,uB us)->eM w S<=iB (bF w) (S.map bF)
 |[],_,_,_=>zBp _
 |l::S,w,hw,h=>by
  have c:=JC S l (h l (zAz ..)) λus a=>h us (zBe _ a);have b:=Qc hw (h l (zAz ..));show jG w l+eM l S<=oJ (bF l) (bF w)+iB (bF l) (S.map bF)
  omega
def Gj {t k r b cap:Nat}{S:List (List bK)}(w:zW)(h:cC w t k r b cap S):
  Calls zq 149 #[aN (aA ⟨t,0,aB⟩)] w λe L=>e=aL (aC aD (eM [] S))/\zb w L:=by
 have c3:w.cell? ⟨t,3,aB⟩=aA (aJ (aA ⟨b,0,aB⟩) S.length cap):=h.cell 3
 have u:Hid (cC w t k r b cap S):=h
 obtain⟨n,g⟩:∃n,n=S.length:=⟨_,rfl⟩
 have M:n<=1000:=by rw[g];exact h.len
 have W:Hid (n=S.length):=g
 have R:Hid (eM [] (S.take n)=eM [] S):=by show _=_;rw[g,zEf]
 have J:Hid (∀i,i<=n->eM [] (S.take i)<=102800000):=λi hi=>by
  have h1:=UU (S.take i) [] λus f=>(h.st us (zCg f)).2;have h2:(S.take i).length<=1000:=by rw[zAn];have:=h.len;omega
  omega
 rw[<-g]at c3
 clear h g
 go_enter Qz.func149,Tryz.ntmps149
 go_upto_region 4 with(fail)
 clear c3
 go_loopg [3,4,12] n (λq x y i wr=>∃(j:Nat)(va:zO)(c:Nat),j+q=n/\i=aC aD (j:Int)/\x=aC aD (eM [] (S.take j):Nat)/\y=aJ va (pB [] S j).length c/\(pB [] S j).length<=c/\bI w va (pB [] S j)/\zb w wr)
 case atStart=>exact⟨0,aB,0,by omega,rfl,rfl,rfl,zAa _,λh=>absurd h (zEt _),zGp _ _⟩
 case round=>
  obtain⟨j,va,c,hj,rfl,rfl,rfl,P,G,b1⟩:=hrel
  have B:Hid (zb w wr):=b1
  have Z:Hid (bI w va (pB [] S j)):=G
  have C:=b1.size
  clear G b1
  by_cases bU:j<n
  .have m:j<S.length:=by have:=W.out;omega
   have f:=zAf (l:=S) (i:=j) m;have a:=u.out.st S[j] (zCr _);have s:=JA S [] j m;rw[zAq,f,zCc]at s;have D:=J.out (j+1) (by omega);have Q:=J.out j (by omega);have F:Hid (pB [] S (j+1)=S[j]):=by
    show _=_
    unfold pB
    rw[zAh (by omega),Nat.add_sub_cancel,zAq,f]
    rfl
   have d:uB (pB [] S j)/\(pB [] S j).length<=400:=by
    unfold pB;split
    .exact⟨uB.nil,zBp _⟩
    .rw[zAq,zAf (by omega)];exact u.out.st _ (zCr _)
   obtain⟨v,E,d1,I,d3,_⟩:=u.out.at f
   generalize S[j]=us at*
   generalize pB [] S j=pu at*
   have V:Hid (uB pu):=d.1
   have A:=d.2
   have T:Hid (uB us):=a.1
   have z:=a.2
   have q0:wr.cell? ⟨b,j,aB⟩=aA (aJ v us.length E):=by rw[B.out.cell (p:=⟨b,j,aB⟩) u.out.blt];exact d1
   have K:Hid (bI w v us):=d3
   have U:Hid (eM [] (S.take (j+1))=eM [] (S.take j)+jG pu us):=s
   rw[s]at D
   have O:¬((j:Int)<0):=by omega
   have N:(j:Int)<(n:Int):=by omega
   have H:=yI va v pu us c E wr (Z.out.below B.out (zAa _)) (K.out.below B.out (zAa _)) V.out T.out A z P I
   clear f a d d1 d3 s
   generalize eM [] (S.take j)=X at*
   generalize jG pu us=Y at*
   go_wp2_with fail
   refine H.mono ?_
   clear H
   rintro e w2 ⟨rfl,o⟩
   have B2:Hid (zb w w2):=aV B.out o C
   clear o B
   dsimp only
   go_wp2_with fail
   go_roundg (n-(j+1))
   case measure=>omega
   case rel=>
    go_light
    refine⟨j+1,v,E,by omega,by go_num,?_,?_,?_,?_,B2.out⟩
    .rw[U.out];go_num
    .rw[F.out]
    .rw[F.out];exact I
    .rw[F.out];exact K.out
  .obtain rfl:j=n:=by omega
   rw[R.out];go_wp2;go_ret;exact⟨rfl,B.out⟩
end Go.Proofs.Zq
