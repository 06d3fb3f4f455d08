import Derived.Laws.Rows
import Derived.Deep.RegionHeld2
import Derived.OrdersHeld
import Derived.Deep.RegionHeld
import Derived.Test.YtghpcgagijhlaaaGreatDoorP41
set_option linter.all false
set_option maxRecDepth 100000
set_option maxHeartbeats 16000000
open Option renaming some->aA,none->aB
open Bool renaming true->aE,false->aF
open Or renaming inl->aG,inr->aH
open Go.Ending renaming returned->aL
open Go.Obj renaming cells->aI
open Go.IntKind renaming i64->aD
open Go.Value renaming slice->aJ,string->aK,pointer->aN,int->aC
namespace Go.Proofs.Zq
open Go Go.RowKit Sha Go.Ga Go.Ren
def KL (i wo:Int)(k b:Nat)(w:zW)(h:Base w)(P: -9223372036854775808<=i)(O:i<=9223372036854775807)(N: -9223372036854775808<=wo)(M:wo<=9223372036854775807)(A:(k:Int)=1+eF i 32)(v:(b:Int)=1+eF wo 20):
  Calls zq 14 #[aC aD 1,aC aD i,aC aD wo] w λe j=>∃d f t g,e=aL (aN (aA ⟨d,0,aB⟩))/\cV j d k b 0 f 1 t 100000 g 1 [[]]/\w.heap.size<=d/\w.heap.size<=f/\w.heap.size<=t/\w.heap.size<=g/\zb w j:=by
 obtain⟨a,E,K⟩:=gO i 32 (by omega)
 obtain⟨c,D,J⟩:=gO wo 20 (by omega)
 have p:eF i 32=(a:Int):=E
 have n:eF wo 20=(c:Int):=D
 have q:=λW=>oF i 32 W P O (by omega) (by omega)
 have H:=λW=>oF wo 20 W N M (by omega) (by omega)
 rw[p]at q A
 rw[n]at H v
 have z:k=a+1:=by omega
 have u:b=c+1:=by omega
 have y:1<=k:=by omega
 have x:k<=32:=by omega
 have s:1<=b:=by omega
 have r:b<=50:=by omega
 have T:Hid (Base w):=h
 have C:(1:Int)+(a:Int)=(k:Int):=A.symm
 have B:(1:Int)+(c:Int)=(b:Int):=v.symm
 have I:Hid ((1:Int)+(a:Int)=(k:Int)):=C
 have G:Hid ((1:Int)+(c:Int)=(b:Int)):=B
 clear h E D p n A v z u C B
 have S:Hid (∀W,W=w->Calls zq 35 #[.agg #[aC aD 1,aC aD k,aC aD b,aC aD 100000]] W λe j=>∃d f t g,e=aL (.tuple #[aN (aA ⟨d,0,aB⟩),aC aD 0])/\cV j d k b 0 f 1 t 100000 g 1 [[]]/\W.heap.size<=d/\W.heap.size<=f/\W.heap.size<=t/\W.heap.size<=g/\zb W j):=λW L=>by subst L;exact YX k b 100000 W T.out y x s r (by omega) (by omega)
 go_enter Qz.func14,Tryz.ntmps14
 go_wp2_with fail
 refine(q _).mono ?_
 rintro e w1 ⟨rfl,m⟩
 subst m
 dsimp only
 go_wp2_with fail
 refine(H _).mono ?_
 rintro e w2 ⟨rfl,l⟩
 subst l
 dsimp only
 have Q:IntKind.i64.wrap ((1:Int)+(a:Int))=(k:Int):=by rw[zGw,I.out];omega
 have R:IntKind.i64.wrap ((1:Int)+(c:Int))=(b:Int):=by rw[zGw,G.out];omega
 have C:=I.out
 have B:=G.out
 go_wp2_with fail
 refine(S.out _ rfl).mono ?_
 rintro e w3 ⟨d,f,t,g,rfl,F,g1,g2,g3,g4,o⟩
 have U:Hid (zb w2 w3):=o
 have D3:Hid (cV w3 d k b 0 f 1 t 100000 g 1 [[]]):=F
 clear o F
 dsimp only
 go_wp2
 go_ret
 exact⟨d,f,t,g,rfl,D3.out,g1,g2,g3,g4,U.out⟩
open Go Go.RowKit Sha
def jJ (s:St):List bK:=(bL s).map tO
def pZ (s:St):bF (jJ s)=bL s:=by
 unfold jJ bF;rw[zFc];conv=>rhs;rw[<-List.map_id (bL s)]
 apply zFs
 intro e _
 rfl
def Om (s:St):(jJ s).length<=64:=by unfold jJ;rw[zDd,<-GN];exact Ax s 64
def VO (s:St):Prop:=∀k v,s k=aA v->v.length<=100
def VZ {s:St}(h:VO s):uB (jJ s):=by
 have d:JM (jJ s):=by have a:fJ (bL s):=RD s;rw[<-pZ]at a;exact zEz.1 a
 refine⟨Sub.zero d λu b=> ?_,λu b=> ?_,λu b=> ?_⟩
 .obtain⟨e,c,rfl⟩:=zDb.1 b;obtain⟨k,_,a,_⟩:=wI c;show e.1.length=32
  rw[a];exact qG k
 .obtain⟨e,c,rfl⟩:=zDb.1 b;obtain⟨k,_,_,a⟩:=wI c;exact h k e.2 a
 .obtain⟨e,c,rfl⟩:=zDb.1 b;rfl
def GD {s:St}(h:VO s)(l:zII):VO (s.with l):=Hu h l
def XD (r:Int×Int):(cZ r).idx.length=32/\(cZ r).val.length<=100/\((cZ r).gone=aE->(cZ r).val=[]):=by
 unfold cZ;split
 .exact⟨lB _,zBp _,λ_=>rfl⟩
 .refine⟨lB _,?_,λh=>by cases h⟩;show(valOf r.2).length<=100
  have:=xA r.2;omega
def Hz {s:St}(h:VO s)(l:zII):bS (jJ s) (dU ((l.take 20).map cZ))=jJ (s.with l):=by
 refine uB.same ((VZ h).kX λu a=> ?_) (VZ (GD h l)) ?_
 .have b:=qZ a;obtain⟨r,_,rfl⟩:=zDb.1 b;exact⟨(XD r).1,(XD r).2.1⟩
 .rw[CZ,pZ,pZ,OD (RD s),Cu]
def lL (rs:Nat->zII)(f:Nat):Nat->List (List bK)
 |0=>[]
 |n+1=>jJ (eZ rs f)::lL rs (f+1) n
def yV (rs:Nat->zII):∀n f,(lL rs f n).length=n
 |0,_=>rfl
 |n+1,f=>by rw[lL,zAe,yV rs n]
def IP (rs:Nat->zII):∀n f i,i<n->(lL rs f n)[i]? =aA (jJ (eZ rs (f+i)))
 |n+1,f,0,_=>rfl
 |n+1,f,i+1,h=>by rw[lL,List.getElem?_cons_succ,IP rs n (f+1) i (by omega),show f+1+i=f+(i+1) by omega]
def qL (rs:Nat->zII):∀n f,lL rs f (n+1)=lL rs f n++[jJ (eZ rs (f+n))]
 |0,f=>rfl
 |n+1,f=>by rw[lL,qL rs n (f+1),lL,zCs,show f+1+n=f+(n+1) by omega]
def MR (rs:Nat->zII):∀n f,(lL rs f n).map bF=mE rs f n
 |0,_=>rfl
 |n+1,f=>by rw[lL,mE,zEh,MR rs n,pZ]
def AH (rs:Nat->zII):∀j,VO (eZ rs j)
 |0=>λ_ _ h=>by cases h
 |j+1=>GD (AH rs j) (rs j)
def JB:∀(S:List (List bK))(w last x:List bK),eM w (S++[last]++[x])=eM w (S++[last])+jG last x
 |[],w,last,x=>by
  show jG w last+(jG last x+0)=jG w last+0+jG last x
  omega
 |l::S,w,last,x=>by
  have i:=JB S l last x;show jG w l+eM l (S++[last]++[x])=jG w l+eM l (S++[last])+jG last x
  omega
def Ln (rs:Nat->zII)(f n:Nat)(h:f+(n+2)<=21):eM [] (lL rs f n++[jJ (eZ rs (f+n))])+jG (jJ (eZ rs (f+n))) (jJ (eZ rs (f+n+1)))<=100000:=by
 rw[<-JB,<-qL,show f+n+1=f+(n+1) by omega,<-qL];have b:=JC (lL rs f (n+2)) [] uB.nil (λus c=>by obtain⟨i,a⟩:=List.getElem?_of_mem c;have bU:=(zAi.1 a).1;rw[yV]at bU;rw[IP rs (n+2) f i bU]at a;injection a with a;rw[<-a];exact VZ (AH rs _))
 rw[MR]at b
 exact zBl b (UW rs f (n+2) h)
open Go Go.RowKit
section
variable {P:zZ}
def run_loadVar_mid (w:zW)(g o:Nat)(t ty:zD)(c cs:zA)(fr:Nat×Nat)(d:TypeDesc)(n:w.heap[g]? =aA (aI c t fr))(p:∀j v,cs.toList[j]? =aA v->c[o+j]? =aA v)
  (l:P.underlying ty=aA d) (q:(match d with| .struct _| .array _ _=>aE|_=>aF)=aE) (f:(P.info? ty).map (·.size)=aA cs.size):
  (loadVar ty ⟨g,o,aB⟩).run P w= .ok (.agg cs) w:=by
 have e:(loadCells ⟨g,o,aB⟩ cs.toList.length).run P w= .ok cs.toList.toArray w:=
  run_loadCells_list (P:=P) w ⟨g,o,aB⟩ cs.toList (λj v k=>by rw[Addr.add_lit,zGy w g _ c t fr n];exact p j v k)
 cases b:P.info? ty with
 |none=>simp[b]at f
 |some i=>
  have m:i.size=cs.size:=by simpa [b]using f
  have h:(isAgg ty).run P w= .ok aE w:=by unfold isAgg;rw[Sem.run_bind,run_underlying l w];cases d<;>simp_all
  simp only[zBn,Array.toArray_toList]at e
  simp[loadVar,Sem.run_bind,h,sizeOf,typeInfo,b,m,e]
def run_storeVar_mid (w:zW)(g o:Nat)(t ty:zD)(c cells:zA)(f:w.heap[g]? =aA (aI c t (0,0)))(b:(P.info? ty).map (·.size)=aA cells.size)
  (e:o+cells.size<=c.size) (j:∀v∈cells.toList,v.oneCell'=aE):
  (storeVar ty ⟨g,o,aB⟩ (.agg cells)).run P w= .ok () (w.setRow g (over c.toList o cells.toList).toArray):=by
 have:=run_storeCells_at P g o t cells.toList 0 c w f (by simpa using e) j
 simp only[zEv]at this
 cases h:P.info? ty with
 |none=>simp[h]at b
 |some i=>
  have d:cells.size=i.size:=by simp[h]at b;omega
  simp[storeVar,sizeOf,typeInfo,h,Value.cells,d,this,over]
variable {ops:zQ}{rest:List Oper}{o:Oper}{a:Act}{w:zW}{K:Act->zW->Prop}{Q:zX}{E:Prop}
def wp_load_mid (ty:zD)(x:Operand)(f:o.op= .load ty x)(g p:Nat)(b:a.eval x=aN (aA ⟨g,p,aB⟩))(t:zD)(c cs:zA)(fr:Nat×Nat)(d:TypeDesc)(k:w.heap[g]? =aA (aI c t fr))(m:∀j v,cs.toList[j]? =aA v->c[p+j]? =aA v)
  (e:P.underlying ty=aA d) (l:(match d with| .struct _| .array _ _=>aE|_=>aF)=aE) (i:(P.info? ty).map (·.size)=aA cs.size) (h:K (a.put o.dst (.agg cs)) w):o.wp P a w K Q:=by
 unfold Oper.wp execOp
 simp only[f,b,Instr.loadAt,Instr.sureAddr,Sem.run_bind,Sem.run_pure,zHi,run_loadVar_mid w g p t ty c cs fr d k m e l i]
 exact h
def wp_store_mid (ty:zD)(x y:Operand)(f:o.op= .store ty x y)(g p:Nat)(cells:zA)(e:a.eval x=aN (aA ⟨g,p,aB⟩))(d:a.eval y= .agg cells)
  (t:zD) (c:zA) (j:w.heap[g]? =aA (aI c t (0,0))) (i:(P.info? ty).map (·.size)=aA cells.size) (b:p+cells.size<=c.size) (k:∀v∈cells.toList,v.oneCell'=aE)
  (h:K (a.put o.dst undef) (w.setRow g (over c.toList p cells.toList).toArray)):o.wp P a w K Q:=by
 unfold Oper.wp execOp
 simp only[f,e,d,Instr.storeAt,Instr.sureAddr,Sem.run_bind,Sem.run_pure,zHi,run_storeVar_mid w g p t ty c cells j i b k]
 exact h
def wpList_load_mid (b:o.guard=aB)(ty:zD)(x:Operand)(i:o.op= .load ty x)(g p:Nat)(e:a.eval x=aN (aA ⟨g,p,aB⟩))(t:zD)(c cs:zA)(fr:Nat×Nat)(d:TypeDesc)(l:w.heap[g]? =aA (aI c t fr))(n:∀j v,cs.toList[j]? =aA v->c[p+j]? =aA v)
  (f:P.underlying ty=aA d) (m:(match d with| .struct _| .array _ _=>aE|_=>aF)=aE) (k:(P.info? ty).map (·.size)=aA cs.size) (h:wpList P ops Q rest (a.put o.dst (.agg cs)) w):wpList P ops Q (o::rest) a w:=
 wpList_plain b λ_ q=>wp_load_mid ty x i g p e t c cs fr d l n f m k (q _ _ h)
def FK (d:o.guard=aB)(ty:zD)(x y:Operand)(j:o.op= .store ty x y)(g p:Nat)(cells:zA)(f:a.eval x=aN (aA ⟨g,p,aB⟩))(e:a.eval y= .agg cells)
  (t:zD) (c:zA) (l:w.heap[g]? =aA (aI c t (0,0))) (k:(P.info? ty).map (·.size)=aA cells.size) (b:p+cells.size<=c.size) (m:∀v∈cells.toList,v.oneCell'=aE)
  (h:K (a.put o.dst undef) (w.setRow g (over c.toList p cells.toList).toArray)):if Region.wanted o (yielded ops a.tmps)=aE then Oper.wp P o a w K Q else E:=by
 have i:Region.wanted o (yielded ops a.tmps)=aE:=by simp[Region.wanted,d]
 rw[zAk i]
 exact wp_store_mid ty x y j g p cells f e t c l k b m h
end
def qW (s:St):(dJ s).size=128:=jD _ _
def Dl (s:St):∀v∈(dJ s).toList,v.oneCell'=aE:=SF _ _
structure lI (w:zW)(A:Nat)(rs:Nat->zII)(j:Nat)(cur:zA):Prop where
 row:w.heap[A]? =aA (aI cur 72 (0,0))
 size:cur.size=2688
 has:∀i,i<=j->∀p v,(dJ (eZ rs i)).toList[p]? =aA v->cur[i*128+p]? =aA v
def Jq {c n:zV}{o:Nat}(h:o+n.length<=c.length)(i:Nat):(over c o n)[i]? =if o<=i/\i<o+n.length then n[i-o]? else c[i]? :=by
 unfold over;by_cases b:i<o
 .rw[zAh (by omega),zBu,zCe (by rw[zAn];omega),zBy,zAk b]
 .rw[zBu,zBq (by rw[zAn];omega),zAn,show min o c.length=o by omega];by_cases a:i<o+n.length
  .rw[zAk ⟨by omega,a⟩,zCe (by omega)]
  .rw[zAh (by omega),zBq (by omega),zDv];congr 1;omega
def lI.next {w:zW}{A:Nat}{rs:Nat->zII}{j:Nat}{c:zA}(h:lI w A rs j c)(k:j<20):
  lI (w.setRow A (over c.toList ((j+1)*128) (dJ (eZ rs (j+1))).toList).toArray) A rs (j+1) (over c.toList ((j+1)*128) (dJ (eZ rs (j+1))).toList).toArray:=by
 have d:(dJ (eZ rs (j+1))).toList.length=128:=by rw[zBn,qW]
 have f:c.toList.length=2688:=by rw[zBn,h.size]
 have a:(j+1)*128+(dJ (eZ rs (j+1))).toList.length<=c.toList.length:=by rw[d,f];omega
 refine⟨zHf w A _ _ _ _ h.row,by rw[zAl,bY a,f],λi l p v b=> ?_⟩
 have g:p<128:=by have:=(zAi.1 b).1;rw[zBn,qW]at this;exact this
 rw[zDj,Jq a]
 by_cases e:i=j+1
 .subst e;rw[zAk ⟨by omega,by rw[d];omega⟩,show(j+1)*128+p-(j+1)*128=p by omega];exact b
 .rw[zAh (by rw[d];omega),zBo];exact h.has i (by omega) p v b
def lI.kept {w w':zW}{A:Nat}{rs:Nat->zII}{j:Nat}{c:zA}(h:lI w A rs j c)(a:w'.heap[A]? =w.heap[A]?):lI w' A rs j c:=⟨by rw[a];exact h.row,h.size,h.has⟩
def lI.lt {w:zW}{A:Nat}{rs:Nat->zII}{j:Nat}{c:zA}(h:lI w A rs j c):A<w.heap.size:=(zAb.1 h.row).1
def Hp:Tryz.zeroCells72.size=2688/\Tryz.zeroCells72.toList.take 128=(dJ (λ_=>aB)).toList:=⟨by kernel_rfl,by kernel_rfl⟩
def He (w:zW)(rs:Nat->zII):lI (w.alloc (aI Tryz.zeroCells72 72)) w.heap.size rs 0 Tryz.zeroCells72:=by
 refine⟨zHh w _,Hp.1,λi a p v h=> ?_⟩;obtain rfl:i=0:=by omega
 have e:eZ rs 0=λ_=>aB:=rfl
 rw[e,<-Hp.2,zBy]at h
 split at h
 .rw[zEs,zAv,<-zBo];exact h
 .cases h
def xV:dU []=[]:=List.eq_nil_iff_forall_not_mem.2 λu h=>by simpa using qZ h
def yP:∀l:List bK,(gZ l).length<=l.length
 |[]=>zAa _
 |[_]=>zAa _
 |a::b::r=>by
  have:=yP (b::r);rw[gZ];split
  .simp only[zAe]at*;omega
  .simp only[zAe]at*;omega
def OF (us:List bK):(dU us).length<=us.length:=by have:=yP (cE us);rw[mI]at this;exact this
def OE {w:zW}{base:Nat}{v:zY}{us:List bK}(h:cI w base v us)(c:us.length<=20):
  Calls zq 39 #[v] w λe d=>∃f,e=aL f/\cI d w.heap.size f (dU us)/\zb w d:=by
 obtain⟨rfl,m⟩|⟨g,cap,cur,rfl,hb,k,p,o,n,l⟩:=h.2
 .have e:us=[]:=zBr m;subst e;rw[xV];exact xU aB 0 w (λx a=>by cases a)
 .by_cases i:us.length=0
  .have e:us=[]:=zBr i;subst e;rw[xV];exact xU (aA ⟨g,0,aB⟩) cap w (λx a=>by injection a with a;exact⟨g,0,a.symm⟩)
  .refine OC g 0 cap us w (by omega) c λj u b=> ?_;rw[zAv,zGy w g j cur 53 (0,0) k];rw[<-l,zBy]at b;split at b
   .rw[<-zBo];exact b
   .cases b
def cI.du {w:zW}{base:Nat}{v:zY}{us:List bK}(h:cI w base v us):ZX w v us:=by
 obtain⟨rfl,d⟩|⟨g,cap,cur,rfl,hb,b,i,f,e,c⟩:=h.2
 .exact aG ⟨zBr d,aB,0,rfl⟩
 .refine aH ⟨g,0,cap,rfl,(zAb.1 b).1,λj u a=> ?_⟩;rw[zAv,zGy w g j cur 53 (0,0) b];rw[<-c,zBy]at a;split at a
  .rw[<-zBo];exact a
  .cases a
def Tu:∃i,zq.info? 9=aA i/\i.zero=aA (aK ⟨#[]⟩)/\i.size=1/\i.bytes=16:=uL (by kernel_rfl)
def YM {w:zW}{c b n:Nat}{H:zLL}(m:cT PQ w c 9 1 (aJ (aA ⟨c,0,aB⟩) n b) n (dA H))(J:n<=1000)(x:zB){vb:Nat}(q:w.heap[vb]? =aA (aI #[aK ⟨x.toArray⟩] 9 (0,0)))(bU:c<=w.heap.size):
  ∃a h W,(∀ty,(Builtin.append_ #[82,82] ty #[aJ (aA ⟨c,0,aB⟩) n b,aJ (aA ⟨vb,0,aB⟩) 1 1]).run zq w= .ok (aJ (aA ⟨a,0,aB⟩) (n+1) h) W)/\w.grownBy W (aA c)/\(a=c\/a=w.heap.size)/\cT PQ W a 9 1 (aJ (aA ⟨a,0,aB⟩) (n+1) h) (n+1) (dA (H++[x])):=by
 obtain⟨it,ti,p,t,g⟩:=Tu
 have I:=λty=>kU (P:=zq) w PQ c 82 ty 9 it _ 1 16 ((Qz.cO 82).trans Tryz.underlying82) ti p t g rfl (by omega) (λx l=>by simp[Value.cells]at l;exact⟨_,l⟩) _ n _ m.1 m.2 ⟨vb,0,aB⟩ 1 1 [aK ⟨x.toArray⟩] rfl (λj u r=>by rw[addr_add,zAv,zGy w vb j _ 9 (0,0) q];simpa using r) (λu i=>by rw[zAw.1 i];rfl) (λu i=>by rw[zAw.1 i];exact⟨_,rfl⟩) (zEj _) (by simp only[maxLen];omega) (by omega) bU
 obtain⟨o,d,W,A,z,y,v,s⟩:=I 0
 have k:cT PQ W c 9 1 (aJ (aA ⟨o,0,aB⟩) (n+1) d) (n+1) (dA H++[aK ⟨x.toArray⟩]):=⟨z,s⟩
 obtain⟨f,G,K,F,E,D,C,B⟩:=k.row
 refine⟨o,d,W,λty=>A,y,?_,cT.of f G (zAa _) F E D (by rw[C];simp[dA]) B⟩
 obtain e|e:=v
 .exact aG (zAm e).symm
 .exact aH e
end Go.Proofs.Zq
namespace Go.Proofs.Zq.AnyX
open Go
section
variable {P:zZ}{ops:zQ}{Q:zX}{md:Region.Mode}{S:zW->Prop}{late:Nat->Bool}
def early (ops:zQ)(late:Nat->Bool)(listed:Array Bool):Bool:=(List.range ops.size).all λs=> !(late s)|| !(listed.getD s aF)
def BT {listed:Array Bool}{i:Nat}(h:early ops late listed=aE)(b:late i=aF):early ops late (listed.setIfInBounds i aE)=aE:=by
 refine zCa.2 λs a=> ?_;have:=zCa.1 h s a;by_cases e:i=s
 .subst e;rw[b];rfl
 .rw[getD_set_ne aF e];exact this
def kP (P:zZ)(md:Region.Mode)(ops:zQ)(Q:zX)(S:zW->Prop)(late:Nat->Bool):Nat->Array Bool->Act->zW->Prop
 |0,listed,a,w=>Region.ready md ops listed=[]/\Q .normal a w
 |fuel+1,listed,a,w=>
  (Region.ready md ops listed=[]->Q .normal a w)/\
  ∀i∈Region.ready md ops listed,wpOp P ops Q i (λc b=>(early ops late (listed.setIfInBounds i aE)=aE->S b)/\kP P md ops Q S late fuel (listed.setIfInBounds i aE) c b) a w
def EX:∀(fuel:Nat)(listed:Array Bool)(a:Act)(w:zW),kP P md ops Q S late fuel listed a w->wpAny P md ops Q fuel listed a w
 |0,_,_,_,h=>h
 |fuel+1,_,_,_,h=>⟨h.1,λi c=>wpOp_mono (λe b d=>EX fuel _ e b d.2) (h.2 i c)⟩
structure Vu (md:Region.Mode)(ops:zQ)(listed:Array Bool):Prop where
 size:listed.size=ops.size
 closed:∀j oj,ops[j]? =aA oj->listed.getD j aF=aE->∀e∈oj.after,Region.binds md e=aE->listed.getD e.on aF=aE
def Vg (md:Region.Mode)(ops:zQ)(listed:Array Bool):Bool:=
 decide (listed.size=ops.size)&&((List.range ops.size).all λj=>(!(listed.getD j aF))||match ops[j]? with
   |some o=>o.after.all λe=> !(Region.binds md e)||listed.getD e.on aF
   |none=>aE)
def Gi {listed:Array Bool}(h:Vg md ops listed=aE):Vu md ops listed:=by unfold Vg at h;simp only[zBd,zBs]at h;obtain⟨i,g⟩:=h;refine⟨i,λj o b c e d f=> ?_⟩;have a:=(zAb.1 b).1;have:=zCa.1 g j (zBw.2 a);rw[b,c]at this;simp only[Bool.not_true,zGc]at this;have:=zFx.1 this e d;rw[f]at this;simpa using this
def Vu.set {i:Nat}{listed:Array Bool}(inv:Vu md ops listed)(l:i∈Region.ready md ops listed):Vu md ops (listed.setIfInBounds i aE):=by
 obtain⟨_,k,b,a⟩:=mem_ready.1 l;refine⟨by simp[inv.size],λj o d c e f g=> ?_⟩;by_cases h:i=j
 .subst h;have:o=k:=zAm (d.symm.trans b);subst this;exact getD_set_true (a e f g)
 .rw[getD_set_ne aF h]at c;exact getD_set_true (inv.closed j o d c e f g)
def waits (md:Region.Mode)(ops:zQ):Nat->Nat->Nat->Bool
 |0,_,_=>aF
 |f+1,s,i=>match ops[s]? with
  |some o=>o.after.any λe=>Region.binds md e&&(e.on==i||waits md ops f e.on i)
  |none=>aF
def FA {listed:Array Bool}(inv:Vu md ops listed){i:Nat}:∀(f s:Nat)(o:Oper),ops[s]? =aA o->(∀e∈o.after,Region.binds md e=aE->listed.getD e.on aF=aE)->waits md ops f s i=aE->listed.getD i aF=aE
 |0,_,_,_,_,h=>by cases h
 |f+1,s,o,k,b,h=>by
  unfold waits at h;rw[k]at h;obtain⟨e,l,d⟩:=Array.any_eq_true'.1 h;simp only[zBd,zDo,zCk]at d;have j:=b e l d.1;obtain a|a:=d.2
  .rw[<-a];exact j
  .cases c:ops[e.on]? with
   |none=>
    cases f with
    |zero=>cases a
    |succ f=>unfold waits at a;rw[c]at a;cases a
   |some g=>exact FA inv f e.on g c (inv.closed e.on g c j) a
def Kg (md:Region.Mode)(ops:zQ)(late:Nat->Bool)(i:Nat):Bool:=(List.range ops.size).all λs=> !(late s)||waits md ops ops.size s i
def YH {listed:Array Bool}{i:Nat}(inv:Vu md ops listed)(h:Kg md ops late i=aE)(f:listed.getD i aE=aF):early ops late listed=aE/\∀j,j∈Region.ready md ops listed->late j=aF:=by
 have k:∀s os,ops[s]? =aA os->late s=aE->(∀e∈os.after,Region.binds md e=aE->listed.getD e.on aF=aE)->False:=λs os d c a=>by have:=zCa.1 h s (zBw.2 (zAb.1 d).1);rw[c]at this;have:=FA inv _ s os d a (by simpa using this);rw[getD_both f]at this;cases this
 refine⟨zCa.2 λs d=> ?_,λj m=> ?_⟩
 .cases c:late s with
  |false=>rfl
  |true=>
   cases l:listed.getD s aF with
   |false=>rfl
   |true=>have b:=zBw.1 d;exact(k s _ (zAs b) c (inv.closed s _ (zAs b) l)).elim
 .obtain⟨_,o,g,a⟩:=mem_ready.1 m;cases c:late j with
  |false=>rfl
  |true=>exact(k j o g c a).elim
def NG {i:Nat}{t:Oper}{v:zY}(G:ops[i]? =aA t)(p:∀(j:Nat)(o:Oper) cs b,ops[j]? =aA o->o.op≠.select cs b)
  (bU:Kg md ops late i=aE) (R:∀c a w,Q (.panic c) (a.put t.dst v) w->Q (.panic c) a w):
  ∀(fuel:Nat)(listed:Array Bool)(a:Act)(w:zW),Vu md ops listed->
   (∀j s,ops[j]? =aA s->j≠i->listed.getD j aE=aF->(∀e∈s.after,Region.binds md e=aE->e.on≠i)->t.apart ops s=aE)->
   i∈Region.ready md ops listed->YieldsIf P ops S t v a->S w->
   kP P md ops Q S late fuel (listed.setIfInBounds i aE) (a.put t.dst v) w->kP P md ops Q S late (fuel+1) listed a w:=by
 intro fuel
 induction fuel with
 |zero=>
  intro listed a w _ _ q C B H;refine⟨λh=>(by rw[h]at q;cases q),λj x=> ?_⟩;by_cases d:j=i
  .subst d;exact C.wpOp G B ⟨λ_=>B,H⟩
  .have:=ready_mono x d;rw[H.1]at this;cases this
 |succ fuel L=>
  intro listed a w inv g q C B H;have f:=(mem_ready.1 q).1;obtain⟨J,m⟩:=YH inv bU f;refine⟨λh=>(by rw[h]at q;cases q),λj x=> ?_⟩;by_cases d:j=i
  .subst d;exact C.wpOp G B ⟨λ_=>B,H⟩
  .have E:=H.2 j (ready_mono x d);obtain⟨r,s,u,A⟩:=mem_ready.1 x;have y:∀e∈s.after,Region.binds md e=aE->e.on≠i:=λe N O I=>by
    have E:=A e N O;rw[I,getD_both f]at E;cases E
   have T:=wpOp_putIf u (g j s u d r y) (λcs b=>p i t cs b G) (λcs b=>p j s cs b u) R C E;have n:∀k ok,ops[k]? =aA ok->k≠i->(listed.setIfInBounds j aE).getD k aE=aF->
     (∀e∈ok.after,Region.binds md e=aE->e.on≠i)->t.apart ops ok=aE:=λk ok M F f m=>by
    refine g k ok M F ?_ m
    by_cases z:j=k
    .subst z;exact r
    .rw[getD_set_ne aE z]at f;exact f
   have l:early ops late ((listed.setIfInBounds i aE).setIfInBounds j aE)=aE:=BT (BT J (m i q)) (m j x)
   refine wpOp_mono (λU K D=>⟨λ_=>D.2.1 l,L (listed.setIfInBounds j aE) U K (inv.set x) n (ready_mono q (zFg d)) D.1 (D.2.1 l) ?_⟩) T
   rw[zFb _ _ d]
   exact D.2.2
def NF {i:Nat}{q:Oper}{v:zY}(E:ops[i]? =aA q)(m:∀(j:Nat)(o:Oper) cs b,ops[j]? =aA o->o.op≠.select cs b)
  (bU:late i=aF) (O:∀c a w,Q (.panic c) (a.put q.dst v) w->Q (.panic c) a w):
  ∀(fuel:Nat)(listed:Array Bool)(a:Act)(w:zW),
   (∀j p,ops[j]? =aA p->j≠i->listed.getD j aE=aF->(∀e∈p.after,Region.binds md e=aE->e.on≠i)->q.apart ops p=aE)->
   i∈Region.ready md ops listed->Yields P ops q v a->(early ops late (listed.setIfInBounds i aE)=aE->S w)->
   kP P md ops Q S late fuel (listed.setIfInBounds i aE) (a.put q.dst v) w->kP P md ops Q S late (fuel+1) listed a w:=by
 intro fuel
 induction fuel with
 |zero=>
  intro listed a w _ r y I H;refine⟨λh=>(by rw[h]at r;cases r),λj z=> ?_⟩;by_cases d:j=i
  .subst d;exact y.wpOp E ⟨I,H⟩
  .have:=ready_mono z d;rw[H.1]at this;cases this
 |succ fuel K=>
  intro listed a w f r y I H;have g:=(mem_ready.1 r).1;refine⟨λh=>(by rw[h]at r;cases r),λj z=> ?_⟩;by_cases d:j=i
  .subst d;exact y.wpOp E ⟨I,H⟩
  .have B:=H.2 j (ready_mono z d);obtain⟨n,p,s,x⟩:=mem_ready.1 z;have t:∀e∈p.after,Region.binds md e=aE->e.on≠i:=λe M N F=>by
    have B:=x e M N;rw[F,getD_both g]at B;cases B
   have R:=wpOp_put s (f j p s d n t) (λcs b=>m i q cs b E) (λcs b=>m j p cs b s) O y B;have l:∀k ok,ops[k]? =aA ok->k≠i->(listed.setIfInBounds j aE).getD k aE=aF->
     (∀e∈ok.after,Region.binds md e=aE->e.on≠i)->q.apart ops ok=aE:=λk ok L D g C=>by
    refine f k ok L D ?_ C
    by_cases u:j=k
    .subst u;exact n
    .rw[getD_set_ne aE u]at g;exact g
   refine wpOp_mono (λT J A=>⟨λG=>A.2.1 (by rw[<-zFb _ _ d];exact BT G bU),K (listed.setIfInBounds j aE) T J l (ready_mono r (zFg d)) A.1 (λG=>A.2.1 (by rw[<-zFb _ _ d];exact G)) ?_⟩) R
   rw[zFb _ _ d]
   exact A.2.2
def bC {i:Nat}{o:Oper}{v:zY}{fuel:Nat}{listed:Array Bool}{a:Act}{w:zW}(e:ops[i]? =aA o)
  (d:(Region.noSelect ops&&Kg md ops late i&&Vg md ops listed&&Region.free md ops listed i&&(Region.ready md ops listed).contains i)=aE)
  (m:∀c a w,Q (.panic c) (a.put o.dst v) w->Q (.panic c) a w) (f:YieldsIf P ops S o v a) (l:S w)
  (h:kP P md ops Q S late fuel (listed.setIfInBounds i aE) (a.put o.dst v) w):kP P md ops Q S late (fuel+1) listed a w:=by
 simp only[zBd]at d
 obtain⟨⟨⟨⟨b,j⟩,k⟩,d⟩,g⟩:=d
 exact NG e (Region.noSelect_spec b) j m fuel listed a w (Gi k) (Region.free_spec e d) (by simpa using g) f l h
def QG {i:Nat}{o:Oper}{v:zY}{fuel:Nat}{listed:Array Bool}{a:Act}{w:zW}(e:ops[i]? =aA o)
  (d:(Region.noSelect ops&& !(late i)&&Region.free md ops listed i&&(Region.ready md ops listed).contains i)=aE)
  (l:∀c a w,Q (.panic c) (a.put o.dst v) w->Q (.panic c) a w) (f:Yields P ops o v a) (k:S w)
  (h:kP P md ops Q S late fuel (listed.setIfInBounds i aE) (a.put o.dst v) w):kP P md ops Q S late (fuel+1) listed a w:=by
 simp only[zBd,Bool.not_eq_true']at d
 obtain⟨⟨⟨b,j⟩,d⟩,g⟩:=d
 exact NF e (Region.noSelect_spec b) j l fuel listed a w (Region.free_spec e d) (by simpa using g) f (λ_=>k) h
def fE {i:Nat}{o:Oper}{fuel:Nat}{listed:Array Bool}{a:Act}{w:zW}(b:Region.ready md ops listed=[i])(d:ops[i]? =aA o)
  (h:∀K:Act->zW->Prop,Shut (∀a w,(early ops late (listed.setIfInBounds i aE)=aE->S w)->kP P md ops Q S late fuel (listed.setIfInBounds i aE) a w->K a w)->if Region.wanted o (yielded ops a.tmps)=aE then Oper.wp P o a w K Q else K (a.put o.dst undef) w):
  kP P md ops Q S late (fuel+1) listed a w:=
 ⟨λk=>absurd (b.symm.trans k) (List.cons_ne_nil _ _),λj c=>by rw[b]at c;obtain rfl:=zAw.1 c;exact wpOp_step d (λK g=>h K (λa w f e=>g a w ⟨f,e⟩))⟩
def mL {b:Bool}{p:Prop}(h:b=aE)(a:b=aF):p:=by rw[h]at a;cases a
def sL {listed:Array Bool}{a:Act}{w:zW}(b:Region.ready md ops listed=[])(h:Q .normal a w):∀fuel,kP P md ops Q S late fuel listed a w
 |0=>⟨b,h⟩
 |_+1=>⟨λ_=>h,by rw[b];simp⟩
def sK {id:Nat}{a:Act}{w:zW}(S:zW->Prop)(late:Nat->Bool)(b:P.follows .mixedOrders=aE)
  (h:kP P .any ops Q S late ops.size (Array.replicate ops.size aF) a w.drew):(Code.region id ops aE).wp P Q a w:=
 wp_region_any b (EX _ _ _ _ h)
end
end Go.Proofs.Zq.AnyX
namespace Go.Proofs.Zq
open Go.RowKit Sha
def Lu:dg 2 [0]=[110,52]:=by rw[dg,Is]
def RY (idx:zB):parse 2 idx [0,0,0]=aA ⟨0,[],[],[],[]⟩:=by rw[tA (S:=[]) (a:=3) (by decide) (by decide) (by decide) (by decide) (λi _ h=>absurd h (by simp[dB,dT])) rfl,oN];rfl
def JZ (idx:zB)(h:idx.length=32):verdict [110,52] idx [0,0,0]=(2,[],0):=by
 have a:(PW.mk 0 [] [] [] []).root 2 idx=[110,52]:=by show dg 2 [0]=_;exact Lu
 rw[verdict,zAh (by simp[h])]
 have b:parse ([110,52]:zB).length idx [0,0,0]=aA ⟨0,[],[],[],[]⟩:=RY idx
 rw[b]
 exact zAk a
def Ff (w:zW)(f:dO w):Calls zq 13 #[] w λe i=>e=aL (.bool aE)/\zb w i:=by have H:Hid (dO w):=f;clear f;go_enter Qz.func13,Tryz.ntmps13;go_wp2_with fail;refine(YY 2 ⟨#[97,98,99]⟩ w (by omega) (by omega) (by decide) H.out).mono ?_;rintro e w1 ⟨rfl,b⟩;have d:Hid (zb w w1):=b;clear b;rw[show Zs 2 (⟨#[97,98,99]⟩:ByteArray).data.toList=Zs 2 [97,98,99]from rfl,Ls];go_wp2_with fail;refine(pG 0 w1 (by omega) (by omega)).mono ?_;rintro e w2 ⟨rfl,a⟩;have B:=aV d.out a d.out.size;clear a d;have c:=lB 0;generalize idxOf 0=I at*;go_wp2_with fail;refine(DC ⟨#[110,52]⟩ ⟨I.toArray⟩ ⟨#[0,0,0]⟩ w2 (by decide) (by decide) (H.out.below B.out (zAa _))).mono ?_;rintro e w3 ⟨h,rfl⟩;rw[show verdict (⟨#[110,52]⟩:ByteArray).data.toList (⟨I.toArray⟩:ByteArray).data.toList (⟨#[0,0,0]⟩:ByteArray).data.toList=(2,[],0)from JZ _ c];have g:=aV B.out h B.out.size;clear h B;simp only[gV];go_wp2;go_ret;exact⟨rfl,g.out.alloc g.out.size _⟩
end Go.Proofs.Zq
