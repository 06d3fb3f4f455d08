import Derived.Test.YtghpcgagijhlaaaGreatDoorP30
set_option linter.all false
set_option maxRecDepth 100000
set_option maxHeartbeats 16000000
open Option renaming some->aA,none->aB
open Bool renaming true->aE,false->aF
open Or renaming inl->aG,inr->aH
open Go.Ending renaming returned->aL
open Go.Obj renaming cells->aI
open Go.IntKind renaming i64->aD
open Go.Value renaming slice->aJ,string->aK,pointer->aN,int->aC
open Go.Lib renaming compareBytes->aDw
open Nat renaming mul_add->aDB,add_le_add->aDC,pow_succ->aDD,pow_zero->aDE,div_one->aDF,mul_comm->aDG,div_div_eq_div_mul->aDH,le_of_eq->aDI
open UInt8 renaming toNat_lt->aDJ
namespace Go.Proofs.Zq
open Go.RowKit Sha
def gP:Nat->List gL->List gL->Nat->Nat
 |0,_,_,_=>0
 |f+1,l,w,d=>if l.length<2\/l=w then 0 else 1+(gP f (cL l d 0) (cL w d 0) (d+1)+gP f (cL l d 1) (cL w d 1) (d+1))
def oJ (l w:List gL):Nat:=(l.filter λe=> !w.contains e).length+gP 256 l w 0
def iB:List gL->List (List gL)->Nat
 |_,[]=>0
 |w,l::E=>oJ l w+iB l E
def Mi (E:List (List gL)):Nat:=iB [] E
def IH (l:List gL)(d:Nat):(cL l d 0).length+(cL l d 1).length=l.length:=by
 unfold cL;induction l with
 |nil=>rfl
 |cons e l i=>
  obtain h|h:=mF e.1 d
  .rw[zBj (by rw[h];rfl),zAu (by rw[h];decide),zAe,zAe];omega
  .rw[zAu (by rw[h];decide),zBj (by rw[h];rfl),zAe,zAe];omega
def GX:∀(f:Nat)(l w:List gL)(d:Nat),gP f l w d<=f*(l.length-1)
 |0,_,_,_=>zBp _
 |f+1,l,w,d=>by
  rw[gP];split
  .exact zBp _
  .rename_i h;have j:=GX f (cL l d 0) (cL w d 0) (d+1);have i:=GX f (cL l d 1) (cL w d 1) (d+1);have c:=IH l d;have g:2<=l.length:=by omega
   generalize(cL l d 0).length=a at*;generalize(cL l d 1).length=b at*;generalize l.length=n at*;subst c;have e:(f+1)*(a+b-1)=f*(a+b-1)+(a+b-1):=by rw[Nat.succ_mul]
   have k:f*(a-1)+f*(b-1)<=f*(a+b-1):=by rw[<-aDB];exact Nat.mul_le_mul_left _ (by omega)
   rw[e]
   omega
def XT (f:Nat)(l:List gL)(d:Nat):gP f l l d=0:=by
 cases f with
 |zero=>rfl
 |succ f=>rw[gP,zAk (aH rfl)]
def XS (f:Nat)(l w:List gL)(d:Nat):gP (f+1) l w d<=1+(gP f (cL l d 0) (cL w d 0) (d+1)+gP f (cL l d 1) (cL w d 1) (d+1)):=by
 rw[gP];split
 .exact zBp _
 .exact zAa _
def jK (l:List gL):Nat->Nat->List gL
 |0,_=>l
 |n+1,p=>cL (jK l n (p/2)) n (p%2)
def sumTo (f:Nat->Nat):Nat->Nat
 |0=>0
 |n+1=>sumTo f n+f n
def sumTo_le {f g:Nat->Nat}:∀n,(∀i,i<n->f i<=g i)->sumTo f n<=sumTo g n
 |0,_=>zAa _
 |n+1,h=>aDC (sumTo_le n λi a=>h i (by omega)) (h n (by omega))
def LG (f:Nat->Nat):∀n,sumTo f (2*n)=sumTo (λp=>f (2*p)+f (2*p+1)) n
 |0=>rfl
 |n+1=>by rw[show 2*(n+1)=2*n+1+1 by omega,sumTo,sumTo,LG f n,sumTo];omega
def TB (l w:List gL)(f:Nat):∀n,gP (n+f) l w 0<=(2^n-1)+sumTo (λp=>gP f (jK l n p) (jK w n p) n) (2^n):=by
 intro n;induction n generalizing f with
 |zero=>simp[sumTo,jK]
 |succ n b=>
  have h:=b (f+1);rw[show n+1+f=n+(f+1) by omega];have d:sumTo (λp=>gP (f+1) (jK l n p) (jK w n p) n) (2^n)<=sumTo (λp=>1+(gP f (jK l (n+1) (2*p)) (jK w (n+1) (2*p)) (n+1)+gP f (jK l (n+1) (2*p+1)) (jK w (n+1) (2*p+1)) (n+1))) (2^n):=sumTo_le _ λp _=>by have:=XS f (jK l n p) (jK w n p) n;rw[jK,jK,jK,jK,show 2*p/2=p by omega,show(2*p+1)/2=p by omega,show 2*p%2=0 by omega,show(2*p+1)%2=1 by omega];exact this
  have c:∀(g:Nat->Nat) m,sumTo (λp=>1+g p) m=m+sumTo g m:=by
   intro g m;induction m with
   |zero=>rfl
   |succ m i=>rw[sumTo,sumTo,i];omega
  rw[c]at d
  have a:=LG (λp=>gP f (jK l (n+1) p) (jK w (n+1) p) (n+1)) (2^n)
  rw[show 2*2^n=2^(n+1) by rw[aDD];omega]at a
  have j:2^(n+1)=2*2^n:=by rw[aDD];omega
  have e:0<2^n:=Nat.two_pow_pos n
  rw[a]
  omega
def cR (s:St)(p:Nat):List gL:=[2*p,2*p+1].filterMap (dH s)
def Bd (k:Nat)(h:k<64)(i:Nat)(a:i<5):bQ (ix k) i=k/2/2^(4-i)%2:=by
 have H:∀k:Fin 64,∀i:Fin 5,bQ (ix k.val) i.val=k.val/2/2^(4-i.val)%2:=by decide+kernel
 exact H ⟨k,h⟩ ⟨i,a⟩
def Zy (p q:Nat)(b:p<32)(a:q<32)(h:∀i,i<5->p/2^(4-i)%2=q/2^(4-i)%2):p=q:=by
 have H:∀p q:Fin 32,(∀i:Fin 5,p.val/2^(4-i.val)%2=q.val/2^(4-i.val)%2)->p=q:=by decide+kernel
 exact congrArg Fin.val (H ⟨p,b⟩ ⟨q,a⟩ λi=>h i.val i.isLt)
def OV (n p:Nat)(x:zB):Bool:=decide (∀i,i<n->bQ x i=p/2^(n-1-i)%2)
def rI (n p:Nat)(x:zB):OV n p x=aE↔∀i,i<n->bQ x i=p/2^(n-1-i)%2:=by unfold OV;exact decide_eq_true_iff
def SM (l:List gL):∀n p,jK l n p=l.filter λe=>OV n p e.1:=by
 intro n;induction n with
 |zero=>intro p;rw[jK,zGd.2];intro e _;rw[rI];intro i b;omega
 |succ n c=>
  intro p;rw[jK,cL,c,zGh];apply List.filter_congr;intro e _;rw[Bool.eq_iff_iff,zBd,rI,rI,zCk];constructor
  .rintro⟨d,a⟩ i b;by_cases h:i=n
   .subst h;rw[show i+1-1-i=0 by omega,aDE,aDF];exact d
   .rw[a i (by omega),show n+1-1-i=(n-1-i)+1 by omega,aDD,aDG,aDH]
  .intro a;refine⟨?_,λi b=> ?_⟩
   .have:=a n (by omega);rw[show n+1-1-n=0 by omega,aDE,aDF]at this;exact this
   .rw[a i (by omega),show n+1-1-i=(n-1-i)+1 by omega,aDD,aDG,aDH]
def LR (s:St)(p:Nat)(f:p<32):jK (bL s) 5 p=cR s p:=by
 rw[SM];have d:∀k,k<64->OV 5 p (ix k)=decide (k/2=p):=λk b=>by
  rw[Bool.eq_iff_iff,rI,zBs];constructor
  .intro h;exact Zy _ _ (by omega) f λi c=>by rw[<-Bd k b i c];exact h i c
  .intro h i c;rw[Bd k b i c,h]
 unfold bL cR
 rw[range_split (2*p) (by omega)]
 have e:(List.range (63-2*p)).map (·+(2*p+1))=(2*p+1)::(List.range (62-2*p)).map (·+(2*p+2)):=by
  rw[show 63-2*p=(62-2*p)+1 by omega,List.range_succ_eq_map,zEh,zFc];congr 1
  .omega
  .apply zFs;intro a _;show a+1+(2*p+1)=a+(2*p+2)
   omega
 rw[e,show List.range (2*p)++2*p::(2*p+1)::(List.range (62-2*p)).map (·+(2*p+2))=List.range (2*p)++([2*p,2*p+1]++(List.range (62-2*p)).map (·+(2*p+2)))from rfl]
 rw[zDs,zDs,zEd,zEd]
 rw[filter_none (λk b v=>by have:=zBw.1 b;refine(d k (by omega)).trans ?_;rw[zEg];omega)]
 rw[filter_all (λk b v=>by
   have:k=2*p\/k=2*p+1:=by simpa using b
   refine(d k (by omega)).trans ?_
   rw[zBs];omega)]
 rw[filter_none (λk b v=>by obtain⟨j,g,rfl⟩:=zDb.1 b;have:=zBw.1 g;refine(d (j+(2*p+2)) (by omega)).trans ?_;rw[zEg];omega)]
 simp
def Jo (s:St)(p:Nat):(cR s p).length<=2:=by have:=zGk (dH s) [2*p,2*p+1];exact this
def cnt (b:Nat->Bool)(n:Nat):Nat:=sumTo (λp=>if b p then 1 else 0) n
def ZD (b:Nat->Bool):∀n,cnt b n<=n
 |0=>zAa _
 |n+1=>by have:=ZD b n;unfold cnt at this⊢;rw[sumTo];split<;>omega
def ZC {a b c:Nat->Bool}:∀n,(∀p,p<n->c p=aE->a p=aE\/b p=aE)->cnt c n<=cnt a n+cnt b n
 |0,_=>zAa _
 |n+1,h=>by
  have i:=ZC (a:=a) (b:=b) (c:=c) n λp g=>h p (by omega);have d:=h n (by omega);unfold cnt at i⊢;rw[sumTo,sumTo,sumTo];cases e:c n with
  |false=>simp only[zBf,zDp];omega
  |true=>
   obtain f|hb:=d e
   .rw[f];simp only[zDf];omega
   .rw[hb];simp only[zDf];omega
def PG {b:Nat->Bool}(p0:Nat):∀n,(∀p,p≠p0->b p=aF)->cnt b n<=if p0<n then 1 else 0
 |0,_=>zBp _
 |n+1,h=>by
  have i:=PG p0 n h;unfold cnt at i⊢;rw[sumTo];by_cases e:n=p0
  .subst e;rw[zAh (show¬n<n by omega)]at i;rw[zAk (show n<n+1 by omega)];split<;>omega
  .rw[h n e];simp only[zBf,zDp];split at i
   .rename_i a;rw[zAk (show p0<n+1 by omega)];omega
   .omega
def UQ {b:Nat->Bool}(n:Nat)(h:∀p,p<n->b p=aF):cnt b n=0:=by
 induction n with
 |zero=>rfl
 |succ n i=>unfold cnt at*;rw[sumTo,i λp a=>h p (by omega),h n (by omega)];rfl
def NV (c:Nat)(b:Nat->Bool):∀n,sumTo (λp=>if b p then c else 0) n=c*cnt b n
 |0=>rfl
 |n+1=>by unfold cnt;rw[sumTo,sumTo,NV c b n,aDB];unfold cnt;split<;>simp
def fC (s s':St)(p:Nat):Bool:=decide (cR s' p≠cR s p)
def kL (s:St)(p:Nat):Bool:=decide ((cR s p).length=2)
def jF (s s':St)(k:Nat):Bool:=decide (s' k≠s k)
def GW (s s':St):gP 256 (bL s') (bL s) 0<=31+251*cnt (λp=>fC s s' p&&kL s' p) 32:=by
 have h:=TB (bL s') (bL s) 251 5;rw[<-NV];refine zBl h (Nat.add_le_add_left (sumTo_le _ λp b=> ?_) _);rw[LR s' p b,LR s p b];have a:=GX 251 (cR s' p) (cR s p) 5;have e:=Jo s' p;by_cases c:cR s' p=cR s p
 .rw[c,XT];exact zBp _
 .by_cases d:(cR s' p).length=2
  .rw[zAk (by simp[fC,kL,c,d])];rw[d]at a;exact a
  .have:(cR s' p).length-1=0:=by omega
   rw[this]at a;omega
def BL (s s':St):((bL s').filter λe=> !(bL s).contains e).length<=cnt (jF s s') 64:=by
 have c:∀k,k<64->∀v,s' k=aA v->(!(bL s).contains (ix k,v))=aE->jF s s' k=aE:=λk d v b a=>by unfold jF;rw[zBs];intro h;rw[b]at h;have:(bL s).contains (ix k,v)=aE:=List.elem_iff.2 (zFv.2 ⟨k,zBw.2 d,by unfold dH;rw[<-h];rfl⟩);rw[this]at a;cases a
 have H:∀n,n<=64->(((List.range n).filterMap (dH s')).filter λe=> !(bL s).contains e).length<=cnt (jF s s') n:=by
  intro n;induction n with
  |zero=>intro _;exact zAa _
  |succ n i=>
   intro f;have i:=i (by omega);unfold cnt at i⊢;rw[List.range_succ,zDs,zEd,zAj,sumTo];refine aDC i ?_;cases b:s' n with
   |none=>simp[dH,b]
   |some v=>
    have e:[n].filterMap (dH s')=[(ix n,v)]:=by simp[dH,b]
    rw[e]
    by_cases a:(!(bL s).contains (ix n,v))=aE
    .rw[zBj (p:=λe=> !(bL s).contains e) a,c n (by omega) v b a];exact zAa _
    .rw[zAu (p:=λe=> !(bL s).contains e) a];exact zBp _
 exact H 64 (zAa _)
def SO (s:St)(m p:Nat)(v:Option (zB))(h:p≠m/2):cR (s.put m v) p=cR s p:=by
 unfold cR;exact oM λk a=>by
  have:k=2*p\/k=2*p+1:=by simpa using a
  unfold St.put
  rw[zAh (by omega)]
def IM (r:zII):∀s:St,cnt (fC s (r.foldl St.one s)) 32<=r.length/\cnt (jF s (r.foldl St.one s)) 64<=r.length:=by
 induction r with
 |nil=>intro s;exact⟨aDI (UQ _ λp _=>by simp[fC]),aDI (UQ _ λp _=>by simp[jF])⟩
 |cons x r i=>
  intro s;obtain⟨k,j⟩:=i (s.one x);rw[zFi,zAe];constructor
  .have g:=ZC (a:=fC (s.one x) (r.foldl St.one (s.one x))) (b:=fC s (s.one x)) (c:=fC s (r.foldl St.one (s.one x))) 32 λp _ h=>by
    unfold fC at*;rw[zBs]at*;rw[zBs];by_cases e:cR (s.one x) p=cR s p
    .exact aG (by rw[e];exact h)
    .exact aH e
   have f:=PG (b:=fC s (s.one x)) ((eF x.1 64).toNat/2) 32 λp d=>by unfold fC;rw[zEg,Decidable.not_not];exact SO s _ p _ d
   split at f<;>omega
  .have g:=ZC (a:=jF (s.one x) (r.foldl St.one (s.one x))) (b:=jF s (s.one x)) (c:=jF s (r.foldl St.one (s.one x))) 64 λp _ h=>by
    unfold jF at*;rw[zBs]at*;rw[zBs];by_cases e:(s.one x) p=s p
    .exact aG (by rw[e];exact h)
    .exact aH e
   have f:=PG (b:=jF s (s.one x)) (eF x.1 64).toNat 64 λp d=>by unfold jF St.one St.put;rw[zEg,Decidable.not_not,zAh d]
   split at f<;>omega
def Rt (s:St):Nat:=sumTo (λp=>(cR s p).length) 32
def An {f g:Nat->Nat}(p0:Nat):∀n,(∀p,p≠p0->f p=g p)->f p0<=g p0+1->sumTo f n<=sumTo g n+if p0<n then 1 else 0
 |0,_,_=>zBp _
 |n+1,h,a=>by
  have i:=An p0 n h a;rw[sumTo,sumTo];by_cases e:n=p0
  .subst e;rw[zAh (show¬n<n by omega)]at i;rw[zAk (show n<n+1 by omega)];omega
  .rw[h n e];split at i
   .rename_i b;rw[zAk (show p0<n+1 by omega)];omega
   .omega
def ON (s:St)(m:Nat)(v:Option (zB))(p:Nat):(cR (s.put m v) p).length<=(cR s p).length+1:=by
 have b:∀t:St,(cR t p).length=(if(t (2*p)).isSome then 1 else 0)+(if(t (2*p+1)).isSome then 1 else 0):=λt=>by
  unfold cR;rw[zDz,zDz,List.filterMap_nil];cases a:t (2*p)with
  |none=>
   cases h:t (2*p+1)with
   |none=>simp[dH,a,h]
   |some x=>simp[dH,a,h]
  |some y=>
   cases h:t (2*p+1)with
   |none=>simp[dH,a,h]
   |some x=>simp[dH,a,h]
 rw[b,b]
 unfold St.put
 by_cases a:2*p=m
 .rw[zAk a,zAh (show¬2*p+1=m by omega)];split<;>split<;>split<;>omega
 .rw[zAh a];by_cases h:2*p+1=m
  .rw[zAk h];split<;>split<;>split<;>omega
  .rw[zAh h];omega
def Ig (r:zII):∀s:St,Rt (r.foldl St.one s)<=Rt s+r.length:=by
 induction r with
 |nil=>intro s;exact zAa _
 |cons x r i=>
  intro s;have c:=i (s.one x);have a:=An (f:=λp=>(cR (s.one x) p).length) (g:=λp=>(cR s p).length) ((eF x.1 64).toNat/2) 32 (λp h=>by
   show(cR (s.put _ _) p).length=_
   rw[SO s _ p _ h]) (ON s _ _ _)
  rw[zFi,zAe]
  have b:Rt (s.one x)<=Rt s+1:=by unfold Rt;split at a<;>omega
  omega
def Mm (s:St):2*cnt (kL s) 32<=Rt s:=by
 unfold Rt;rw[<-NV];refine sumTo_le _ λp _=> ?_;unfold kL;by_cases h:(cR s p).length=2
 .rw[zAk (by rw[h];rfl),h];exact zAa _
 .rw[zAh (by rw[zBs];exact h)];exact zBp _
def cnt_mono {a b:Nat->Bool}(n:Nat)(h:∀p,p<n->a p=aE->b p=aE):cnt a n<=cnt b n:=by
 unfold cnt;refine sumTo_le _ λp c=> ?_;cases d:a p with
 |false=>simp
 |true=>rw[h p c d];exact zAa _
def Fa (s:St)(l:zII):oJ (bL (s.with l)) (bL s)<=5071:=by
 obtain⟨b,a⟩:=IM (l.take 20) s;have f:=GW s (s.with l);have e:=BL s (s.with l);have d:cnt (λp=>fC s (s.with l) p&&kL (s.with l) p) 32<=cnt (fC s (s.with l)) 32:=cnt_mono 32 λp _ h=>(zBd _ _▸h).1;have c:(l.take 20).length<=20:=by rw[zAn];omega
 rw[<-KY]at b a
 unfold oJ
 omega
def HU (l:zII):oJ (bL (St.with (λ_=>aB) l)) []<=2561:=by
 obtain⟨f,e⟩:=IM (l.take 20) (λ_=>aB);have d:=GW (λ_=>aB) (St.with (λ_=>aB) l);have c:=BL (λ_=>aB) (St.with (λ_=>aB) l);have k:cnt (λp=>fC (λ_=>aB) (St.with (λ_=>aB) l) p&&kL (St.with (λ_=>aB) l) p) 32<=cnt (kL (St.with (λ_=>aB) l)) 32:=cnt_mono 32 λp _ h=>(zBd _ _▸h).2;have j:(l.take 20).length<=20:=by rw[zAn];omega
 have i:=Mm (St.with (λ_=>aB) l)
 have b:=Ig (l.take 20) (λ_=>aB)
 have g:Rt (λ_=>aB)=0:=by decide+kernel
 rw[<-KY]at f e b
 have a:bL (λ_=>aB)=[]:=by decide+kernel
 rw[a]at d c
 unfold oJ
 omega
def TG (s:St):oJ (bL s) []<=8127:=by
 have b:=GW (λ_=>aB) s;have a:=BL (λ_=>aB) s;have h:bL (λ_=>aB)=[]:=by decide+kernel
 rw[h]at b a
 have d:=ZD (λp=>fC (λ_=>aB) s p&&kL s p) 32
 have c:=ZD (jF (λ_=>aB) s) 64
 unfold oJ
 omega
def eZ (rs:Nat->zII):Nat->St
 |0=>λ_=>aB
 |j+1=>(eZ rs j).with (rs j)
def mE (rs:Nat->zII)(f:Nat):Nat->List (List gL)
 |0=>[]
 |n+1=>bL (eZ rs f)::mE rs (f+1) n
def cells_from (rs:Nat->zII):∀n f,iB (bL (eZ rs f)) (mE rs (f+1) n)<=5071*n
 |0,_=>zAa _
 |n+1,f=>by
  have a:=cells_from rs n (f+1);have h:=Fa (eZ rs f) (rs f);rw[mE,iB];show oJ (bL ((eZ rs f).with (rs f))) (bL (eZ rs f))+_<=_
  have:5071*(n+1)=5071*n+5071:=by omega
  omega
def UW (rs:Nat->zII)(f n:Nat)(h:f+n<=21):Mi (mE rs f n)<=100000:=by
 have c:bL (λ_=>aB)=[]:=by decide+kernel
 cases n with
 |zero=>exact zBp _
 |succ n=>
  unfold Mi;rw[mE,iB];by_cases g:f=0
  .subst g;cases n with
   |zero=>rw[mE,iB];have:=TG (eZ rs 0);omega
   |succ n=>
    rw[mE,iB];have b:=cells_from rs n 1;have e:=HU (rs 0);have j:oJ (bL (eZ rs 0)) []=0:=by
     show oJ (bL (λ_=>aB)) []=0
     rw[c];decide+kernel
    have d:oJ (bL (eZ rs (0+1))) (bL (eZ rs 0))<=2561:=by
     show oJ (bL (St.with (λ_=>aB) (rs 0))) (bL (λ_=>aB))<=2561
     rw[c];exact e
    have i:iB (bL (eZ rs (0+1))) (mE rs (0+1+1) n)<=5071*n:=b
    omega
  .by_cases a:f=1
   .subst a;have b:=cells_from rs n 1;have d:oJ (bL (eZ rs 1)) []<=2561:=HU (rs 0);omega
   .have b:=cells_from rs n f;have d:=TG (eZ rs f);omega
def WW (n m t:Nat)(p:Nat->Bool)(w:zW)(F:n<=1000000)(s:m<=n)(r:∀i,i<m->p i=aF)(o:∀i,m<=i->i<n->p i=aE)
  (k:∀i,i<n->∀W,zb w W->Calls zq 180 #[aC aD i,aN (aA ⟨t,0,aB⟩)] W λe w'=>e=aL (.bool (p i))/\zb W w'):
  Calls zq 179 #[aC aD n,.func (.func 180) #[] #[aN (aA ⟨t,0,aB⟩)]] w λe w'=>e=aL (aC aD m)/\zb w w':=by
 have H:Hid (∀i,i<n->∀W,zb w W->Calls zq 180 #[aC aD i,aN (aA ⟨t,0,aB⟩)] W λe w'=>e=aL (.bool (p i))/\zb W w'):=k
 have H0:Hid (∀i,i<m->p i=aF):=r
 have H1:Hid (∀i,m<=i->i<n->p i=aE):=o
 clear k r o
 go_enter Qz.func179,Tryz.ntmps179
 go_wp2_with fail
 go_loopg [5,6] n (λq x y wr=>∃i j:Nat,j-i=q/\x=aC aD (i:Int)/\y=aC aD (j:Int)/\i<=m/\m<=j/\j<=n/\zb w wr)
 case atStart=>exact⟨0,n,by omega,rfl,rfl,by omega,s,zAa _,zGp _ _⟩
 case round=>
  obtain⟨i,j,E,rfl,rfl,A,v,u,b1⟩:=hrel
  have B:Hid (zb w wr):=b1
  clear b1
  by_cases bU:i<j
  .have f:0<=(i:Int)+(j:Int):=by omega
   have d:(i:Int)+(j:Int)<=2000000:=by omega
   go_wp2_with fail
   obtain⟨h,D⟩:∃h:Nat,h=(i+j)/2:=⟨_,rfl⟩
   have l:((i:Int)+(j:Int))/2=(h:Int):=by omega
   rw[l]
   have z:i<=h:=by omega
   have C:h<j:=by omega
   clear f d l D
   have b:=H.out h (by omega) wr B.out
   have c:=B.out.size
   obtain a|a:=zDx h m
   .rw[H0.out h a]at b;refine b.mono ?_;clear b;rintro e w2 ⟨rfl,hb⟩;have g:Hid (zb w w2):=aV B.out hb c;clear B hb;dsimp only;go_wp2;go_roundg (j-(h+1));case measure=>omega
    case rel=>
     go_light
     exact⟨h+1,j,rfl,by go_num,rfl,by omega,v,by omega,g.out⟩
   .rw[H1.out h a (by omega)]at b;refine b.mono ?_;clear b;rintro e w2 ⟨rfl,hb⟩;have g:Hid (zb w w2):=aV B.out hb c;clear B hb;dsimp only;go_wp2;go_roundg (h-i);case measure=>omega
    case rel=>
     go_light
     exact⟨i,h,rfl,rfl,rfl,A,a,by omega,g.out⟩
  .obtain rfl:i=j:=by omega
   obtain rfl:i=m:=by omega
   go_wp2
   go_ret
   exact⟨rfl,B.out⟩
def bI (w:zW)(va:zO)(us:List bK):Prop:=0<us.length->∃g o,va=aA ⟨g,o,aB⟩/\g<w.heap.size/\∀j u,(bH us)[j]? =aA u->w.cell? ⟨g,o+j,aB⟩=aA u
def bI.below {w w':zW}{B:Nat}{va:zO}{us:List bK}(h:bI w va us)(a:Below B w w')(i:w.heap.size<=B):bI w' va us:=λf=>by obtain⟨g,o,e,c,d⟩:=h f;exact⟨g,o,e,zAc c a.size,λj u b=>by rw[<-d j u b];exact a.cell (p:=⟨g,o+j,aB⟩) (by simp only;omega)⟩
def bI.idx {w:zW}{va:zO}{us:List bK}(h:bI w va us)(i:Nat)(u:bK)(b:us[i]? =aA u):∃g o,va=aA ⟨g,o,aB⟩/\g<w.heap.size/\w.cell? ⟨g,o+i*3,aB⟩=aA (aK ⟨u.idx.toArray⟩)/\w.cell? ⟨g,o+i*3+1,aB⟩=aA (aK ⟨u.val.toArray⟩)/\w.cell? ⟨g,o+i*3+2,aB⟩=aA (.bool u.gone):=by
 have f:=(zAi.1 b).1;obtain⟨g,o,e,d,a⟩:=h (by omega);have k:=λj (c:j<3)=>qU us i u b j c;refine⟨g,o,e,d,?_,?_,?_⟩
 .exact a (i*3) _ ((k 0 (by decide)).trans rfl)
 .rw[zCv];exact a (i*3+1) _ ((k 1 (by decide)).trans rfl)
 .rw[zCv];exact a (i*3+2) _ ((k 2 (by decide)).trans rfl)
def Kw (t i d n c:Nat)(va:zO)(us:List bK)(u:bK)(w:zW)(j:w.heap[t]? =aA (aI #[aC aD d,aJ va n c] 209 (0,0)))(z:n=us.length)(J:us.length<=1000000)(L:d<=255)(y:bI w va us)(m:us[i]? =aA u)(f:u.idx.length=32):
  Calls zq 180 #[aC aD i,aN (aA ⟨t,0,aB⟩)] w λe r=>e=aL (.bool (decide (bQ u.idx d=1)))/\zb w r:=by
 have K:=(zAi.1 m).1
 obtain⟨g,o,rfl,C,s,_,_⟩:=y.idx i u m
 subst z
 have b:t<w.heap.size:=(zAb.1 j).1
 have I:∀(a:Nat)(os:zJ),(Go.Sort.grow (redrawn w a) os).cell? ⟨t,0,aB⟩=aA (aC aD (d:Int)):=λa os=>by rw[(zGr w a os).cell (p:=⟨t,0,aB⟩) b];simp only[World.cell?,j];rfl
 have G:∀(a:Nat)(os:zJ),(Go.Sort.grow (redrawn w a) os).cell? ⟨t,1,aB⟩=aA (aJ (aA ⟨g,o,aB⟩) us.length c):=λa os=>by rw[(zGr w a os).cell (p:=⟨t,1,aB⟩) b];simp only[World.cell?,j];rfl
 have F:∀(a:Nat)(os:zJ),(Go.Sort.grow (redrawn w a) os).cell? ⟨g,o+i*3,aB⟩=aA (aK ⟨u.idx.toArray⟩):=λa os=>by rw[(zGr w a os).cell (p:=⟨g,o+i*3,aB⟩) C];exact s
 have B:¬((i:Int)<0):=by omega
 have A:(i:Int)<(us.length:Int):=by omega
 have H:Hid (∀(a:Nat)(os:zJ),Calls zq 82 #[aK ⟨u.idx.toArray⟩,aC aD d] (Go.Sort.grow (redrawn w a) os) λe k=>e=aL (.bool (decide (bQ u.idx d=1)))/\∃p:Regrown,k=Go.Sort.grow (redrawn w p.d) p.os):=λa os=>
  zHd (by
   have v:(⟨u.idx.toArray⟩:ByteArray).size=32:=by show u.idx.toArray.size=32;simpa using f
   refine(oG ⟨u.idx.toArray⟩ d _ (by rw[v];omega) (by rw[v];omega) (by omega)).mono λe r h=> ?_
   obtain⟨E,rfl⟩:=h
   exact⟨by simpa using E,zGp _ _⟩)
 clear j y s m
 go_enter Qz.func180,Tryz.ntmps180
 go_wp2_with fail
 refine zGv (by kernel_rfl) (by kernel_rfl) ?_
 repeat (any_goals(first|go_big_quiet_step ((exact H.out _ _))|quiet_step ((exact H.out _ _))))
 refine zHc ?_
 intro W l
 obtain⟨q,x⟩:=l
 have D:Hid (zb w W):=by rw[x];exact zGr w q.d q.os
 clear x H I G F
 go_wp2
 go_ret
 exact⟨rfl,D.out⟩
structure Cut (us:List bK)(d m:Nat):Prop where
 le:m<=us.length
 zero:∀i u,i<m->us[i]? =aA u->bQ u.idx d=0
 one:∀i u,m<=i->us[i]? =aA u->bQ u.idx d=1
def OL {fn:Func}{p q:Tmp}{ty:zD}(h:fn.results= #[.cell p ty,.cell q ty])(tmps:zA)(w:zW)(g g2:Nat)(t:zD)(a c:zA)(f1 f2:Nat×Nat)(d:TypeDesc)
  (u:tmps.getD p undef=aN (aA ⟨g,0,aB⟩)) (s:tmps.getD q undef=aN (aA ⟨g2,0,aB⟩)) (k:w.heap[g]? =aA (aI a t f1)) (j:w.heap[g2]? =aA (aI c t f2))
  (l:zq.underlying ty=aA d) (m:(∃x,d= .struct x)\/∃n x,d= .array n x) (i:(zq.info? ty).map (·.size)=aA a.size) (f:(zq.info? ty).map (·.size)=aA c.size):
  (results fn tmps).run zq w= .ok (.tuple #[.agg a,.agg c]) w:=by
 have e:tmps[p]?.getD undef=aN (aA ⟨g,0,aB⟩):=by simpa using u
 have b:tmps[q]?.getD undef=aN (aA ⟨g2,0,aB⟩):=by simpa using s
 have r:=run_loadVar_row (P:=zq) w g t ty a f1 d k l (by obtain⟨x,rfl⟩|⟨n,x,rfl⟩:=m<;>rfl) i
 have o:=run_loadVar_row (P:=zq) w g2 t ty c f2 d j l (by obtain⟨x,rfl⟩|⟨n,x,rfl⟩:=m<;>rfl) f
 simp[results,h,e,b,asAddr,r,o]
def oL (d m c:Nat)(va:zO)(us:List bK)(w:zW)(B:us.length<=1000000)(V:us.length<=c)(N:d<=255)(E:bI w va us)(r:∀u∈us,u.idx.length=32)(hcut:Cut us d m):
  Calls zq 168 #[.agg #[aC aD d,aJ va us.length c]] w λe I=>∃g F,e=aL (.tuple #[.agg #[aC aD ((d:Int)+1),aJ va m c],.agg #[aC aD ((d:Int)+1),aJ g (us.length-m) F]])/\us.length-m<=F/\(m<us.length->g=va.map λx=>x.add (m*3))/\(∀a,g=aA a->∃b,va=aA b/\b.block=a.block)/\zb w I:=by
 have S:Hid (bI w va us):=E
 have G:Hid (Cut us d m):=hcut
 have H:Hid (∀u∈us,u.idx.length=32):=r
 have t:=hcut.le
 clear E hcut r
 go_enter Qz.func168,Tryz.ntmps168
 go_wp2_with fail
 have n:∀(v:zW)(A:Obj),(v.alloc A).heap.size=v.heap.size+1:=λv A=>zBb ..
 have b3:Hid (zb w (((w.alloc (aI #[aC aD (d:Int),aJ va us.length c] 209)).alloc (aI #[aC aD 0,aJ aB 0 0] 209)).alloc (aI #[aC aD 0,aJ aB 0 0] 209))):=
  (((zGp _ _).alloc (zAa _) _).alloc (by rw[n];omega) _).alloc (by rw[n,n];omega) _
 have p:Hid (bB (((w.alloc (aI #[aC aD (d:Int),aJ va us.length c] 209)).alloc (aI #[aC aD 0,aJ aB 0 0] 209)).alloc (aI #[aC aD 0,aJ aB 0 0] 209)) w.heap.size 209 #[aC aD (d:Int),aJ va us.length c]):=((bB.new w _ _).alloc _).alloc _
 have k1:Hid (bB (((w.alloc (aI #[aC aD (d:Int),aJ va us.length c] 209)).alloc (aI #[aC aD 0,aJ aB 0 0] 209)).alloc (aI #[aC aD 0,aJ aB 0 0] 209)) (w.heap.size+1) 209 #[aC aD 0,aJ aB 0 0]):=by have:=(bB.new (w.alloc (aI #[aC aD (d:Int),aJ va us.length c] 209)) 209 #[aC aD 0,aJ aB 0 0]).alloc (aI #[aC aD 0,aJ aB 0 0] 209);rw[n]at this;exact this
 have k2:Hid (bB (((w.alloc (aI #[aC aD (d:Int),aJ va us.length c] 209)).alloc (aI #[aC aD 0,aJ aB 0 0] 209)).alloc (aI #[aC aD 0,aJ aB 0 0] 209)) (w.heap.size+1+1) 209 #[aC aD 0,aJ aB 0 0]):=by have:=bB.new ((w.alloc (aI #[aC aD (d:Int),aJ va us.length c] 209)).alloc (aI #[aC aD 0,aJ aB 0 0] 209)) 209 #[aC aD 0,aJ aB 0 0];rw[n,n]at this;exact this
 clear n
 generalize((w.alloc (aI #[aC aD (d:Int),aJ va us.length c] 209)).alloc (aI #[aC aD 0,aJ aB 0 0] 209)).alloc (aI #[aC aD 0,aJ aB 0 0] 209)=w3 at*
 have k:=p.out.lt
 refine(WW us.length m w.heap.size (λi=>decide (bQ ((us[i]?).map (·.idx)|>.getD []) d=1)) w3 B t (λi C=> ?_) (λi Q X=> ?_) (λi C W D=> ?_)).mono ?_
 .have j:=zAf (l:=us) (i:=i) (by omega);simp only[j,zAx,zCc];rw[G.out.zero i _ C j];rfl
 .have j:=zAf (l:=us) (i:=i) (by omega);simp only[j,zAx,zCc];rw[G.out.one i _ Q j];rfl
 .have j:=zAf (l:=us) (i:=i) (by omega);simp only[j,zAx,zCc];exact Kw w.heap.size i d us.length c va us _ W ((D.block _ k).trans p.out) rfl B N ((S.out.below b3.out (zAa _)).below D (zAa _)) j (H.out _ (zCr _))
 rintro e w4 ⟨rfl,f⟩
 have U:Hid (zb w w4):=aV b3.out f b3.out.size
 have K0:=p.out.below f p.out.lt
 have K1:=k1.out.below f k1.out.lt
 have o:=k2.out.below f k2.out.lt
 clear b3 p k1 k2 f k
 have e0:w4.cell? ⟨w.heap.size,0,aB⟩=aA (aC aD (d:Int)):=(K0.cell 0).trans rfl
 have Z:w4.cell? ⟨w.heap.size,1,aB⟩=aA (aJ va us.length c):=(K0.cell 1).trans rfl
 have c0:w4.cell? ⟨w.heap.size+1,0,aB⟩=aA (aC aD 0):=(K1.cell 0).trans rfl
 have c1:w4.cell? ⟨w.heap.size+1,1,aB⟩=aA (aJ aB 0 0):=(K1.cell 1).trans rfl
 have d0:w4.cell? ⟨w.heap.size+1+1,0,aB⟩=aA (aC aD 0):=(o.cell 0).trans rfl
 have d1:w4.cell? ⟨w.heap.size+1+1,1,aB⟩=aA (aJ aB 0 0):=(o.cell 1).trans rfl
 have f0:w4.frozen? ⟨w.heap.size+1,0,aB⟩=aF:=K1.frozen _
 have f1:w4.frozen? ⟨w.heap.size+1,1,aB⟩=aF:=K1.frozen _
 have g0:w4.frozen? ⟨w.heap.size+1+1,0,aB⟩=aF:=o.frozen _
 have Y:w4.frozen? ⟨w.heap.size+1+1,1,aB⟩=aF:=o.frozen _
 have R:Hid _:=K0
 have z:Hid _:=K1
 have y:Hid _:=o
 clear K0 K1 o
 have M:¬((m:Int)<0):=by omega
 have L:(m:Int)<=(us.length:Int):=by omega
 have J:(m:Int)<=(c:Int):=by omega
 dsimp only
 go_wp2_with fail
 go_big_region
 rename_i K P
 simp only[Exit.then]
 refine P _ _ (wp_ret ?_)
 generalize q:(if c=m then va else Option.map (λx=>x.add (m*3)) va)=g
 have H1:bB (((((w4.setCell ⟨w.heap.size+1,0,aB⟩ (aC aD ((d:Int)+1))).setCell ⟨w.heap.size+1,1,aB⟩ (aJ va m c)).setCell ⟨w.heap.size+1+1,0,aB⟩ (aC aD ((d:Int)+1))).setCell ⟨w.heap.size+1+1,1,aB⟩ (aJ g (us.length-m) (c-m))).drew) (w.heap.size+1) 209 #[aC aD ((d:Int)+1),aJ va m c]:=
  ((((bB.cG z.out 0 _).cG 1 _).bP _ _ (by simp)).bP _ _ (by simp))
 have T:bB (((((w4.setCell ⟨w.heap.size+1,0,aB⟩ (aC aD ((d:Int)+1))).setCell ⟨w.heap.size+1,1,aB⟩ (aJ va m c)).setCell ⟨w.heap.size+1+1,0,aB⟩ (aC aD ((d:Int)+1))).setCell ⟨w.heap.size+1+1,1,aB⟩ (aJ g (us.length-m) (c-m))).drew) (w.heap.size+1+1) 209 #[aC aD ((d:Int)+1),aJ g (us.length-m) (c-m)]:=
  ((((bB.bP y.out _ _ (by simp)).bP _ _ (by simp)).cG 0 _).cG 1 _)
 refine zHb (OL rfl _ _ (w.heap.size+1) (w.heap.size+1+1) 209 _ _ (0,0) (0,0) _ rfl rfl H1 T ((Qz.cO 209).trans Tryz.underlying209) (aG ⟨_,rfl⟩) (by kernel_rfl) (by kernel_rfl)) rfl ?_
 refine⟨g,c-m,rfl,by omega,λh=> ?_,λa s=> ?_,?_⟩
 .rw[<-q,zAh (by omega)]
 .rw[<-q]at s;split at s
  .exact⟨a,s,rfl⟩
  .obtain⟨b,O,e⟩:=zBx.1 s;exact⟨b,O,by rw[<-e];unfold Addr.add;split<;>rfl⟩
 .exact(((((U.out.setCell (by simp) _).setCell (by simp) _).setCell (by simp only;omega) _).setCell (by simp only;omega) _).drew)
def MU:∀{a b:zB},a.length=b.length->aDw a b= -1->∃j,j<a.length/\(∀i,i<j->a.getD i 0=b.getD i 0)/\(a.getD j 0).toNat<(b.getD j 0).toNat
 |[],[],_,h=>by simp[aDw]at h
 |[],_::_,h,_=>by simp at h
 |_::_,[],h,_=>by simp at h
 |x::a,y::b,f,h=>by
  rw[aDw]at h;by_cases d:x<y
  .exact⟨0,by simp,λi g=>by omega,by simpa using UInt8.lt_iff_toNat_lt.1 d⟩
  .rw[zAh d]at h;by_cases c:y<x
   .rw[zAk c]at h;simp at h
   .rw[zAh c]at h;have e:x=y:=zFy (zEr.1 c) (zEr.1 d);obtain⟨j,l,g2,k⟩:=MU (by simpa using f) h;refine⟨j+1,by simp;omega,λi g=> ?_,by simpa using k⟩;cases i with
    |zero=>simpa using e
    |succ i=>simpa using g2 i (by omega)
def Gm (x y r:Nat)(j:x<256)(g:y<256)(a:r<8)(h:∀i,i<r->x/2^(7-i)%2=y/2^(7-i)%2)(l:x/2^(7-r)%2=1)(m:y/2^(7-r)%2=0):y<x:=by
 have k:∀i,i<r->x/2^(7-i)%2=y/2^(7-i)%2:=h;have f:=k 0;have k1:=k 1;have k2:=k 2;have e:=k 3;have d:=k 4;have c:=k 5;have b:=k 6;clear h k;match r,a with
 |0,_=>simp at*;omega
 |1,_=>simp at*;omega
 |2,_=>simp at*;omega
 |3,_=>simp at*;omega
 |4,_=>simp at*;omega
 |5,_=>simp at*;omega
 |6,_=>simp at*;omega
 |7,_=>simp at*;omega
def Gl (x y:Nat)(g:x<256)(f:y<256)(h:∀i,i<8->x/2^(7-i)%2=y/2^(7-i)%2):x=y:=by have e:=h 0;have k1:=h 1;have k2:=h 2;have d:=h 3;have c:=h 4;have b:=h 5;have a:=h 6;have k:=h 7;clear h;simp at*;omega
def Gs {a b:zB}(o:a.length=32)(n:b.length=32)(h:aDw a b= -1){d:Nat}(c:∀i,i<d->bQ a i=bQ b i)(g:bQ a d=1):bQ b d=1:=by
 obtain f|f:=mF b d
 .exfalso;obtain⟨j,m,g2,p⟩:=MU (by omega) h;obtain bU|rfl|l:=Nat.lt_trichotomy (d/8) j
  .have:=g2 (d/8) bU;unfold bQ at f g;rw[this]at g;omega
  .have e:∀i,i<d%8->(a.getD (d/8) 0).toNat/2^(7-i)%2=(b.getD (d/8) 0).toNat/2^(7-i)%2:=λi k=>by
    have:=c (8*(d/8)+i) (by omega);unfold bQ at this;rw[show(8*(d/8)+i)/8=d/8 by omega,show(8*(d/8)+i)%8=i by omega]at this;exact this
   unfold bQ at f g;have:=Gm _ _ (d%8) (aDJ _) (aDJ _) (by omega) e g f;omega
  .have e:∀i,i<8->(a.getD j 0).toNat/2^(7-i)%2=(b.getD j 0).toNat/2^(7-i)%2:=λi k=>by
    have:=c (8*j+i) (by omega);unfold bQ at this;rw[show(8*j+i)/8=j by omega,show(8*j+i)%8=i by omega]at this;exact this
   have:=Gl _ _ (aDJ _) (aDJ _) e;omega
 .exact f
def bF (us:List bK):List gL:=us.map λu=>(u.idx,u.val)
def fY (us:List bK):(bF us).length=us.length:=zDd ..
structure Sub (us:List bK)(d:Nat):Prop where
 order:us.Pairwise λa b=>aDw a.idx b.idx= -1
 idx:∀u∈us,u.idx.length=32
 bits:∀a∈us,∀b∈us,∀i,i<d->bQ a.idx i=bQ b.idx i
def dW (d b:Nat)(us:List bK):List bK:=us.filter λu=>bQ u.idx d==b
def fX (us:List bK)(d b:Nat):bF (dW d b us)=cL (bF us) d b:=by unfold bF dW cL;rw[List.filter_map];rfl
def Mb (d:Nat):∀us:List bK,(us.Pairwise λa b=>bQ a.idx d=1->bQ b.idx d=1)->∃m,Cut us d m/\us.take m=dW d 0 us/\us.drop m=dW d 1 us
 |[],_=>⟨0,⟨zAa _,λi u g=>by omega,λi u _ h=>by simp at h⟩,rfl,rfl⟩
 |u::us,h=>by
  obtain⟨l,k⟩:=zDh.1 h;obtain f|f:=mF u.idx d
  .obtain⟨m,j,o,n⟩:=Mb d us k;refine⟨m+1,⟨by have:=j.le;simp;omega,λi v g c=> ?_,λi v g c=> ?_⟩,?_,?_⟩
   .cases i with
    |zero=>simp at c;rw[<-c];exact f
    |succ i=>exact j.zero i v (by omega) (by simpa using c)
   .cases i with
    |zero=>omega
    |succ i=>exact j.one i v (by omega) (by simpa using c)
   .rw[zEm,o,dW,dW,zBj (by rw[f];rfl)]
   .rw[zFt,n,dW,dW,zAu (by rw[f];decide)]
  .have e:∀v∈u::us,bQ v.idx d=1:=λv c=>by
    obtain rfl|c:=zAg.1 c
    .exact f
    .exact l v c f
   refine⟨0,⟨zBp _,λi v g=>by omega,λi v _ c=>e v (zCq c)⟩,?_,?_⟩
   .rw[zEy,dW,List.filter_eq_nil_iff.2];intro v c;rw[e v c];decide
   .rw[zFf,dW,zGd.2];intro v c;rw[e v c];rfl
def Sub.half {us:List bK}{d:Nat}(h:Sub us d)(b:Nat):Sub (dW d b us) (d+1):=by
 refine⟨h.order.filter _,λu l=>h.idx u (zBz.1 l).1,λx k y j i m=> ?_⟩;obtain⟨g,f⟩:=zBz.1 k;obtain⟨c,a⟩:=zBz.1 j;by_cases e:i=d
 .subst e;exact(zCk.1 f).trans (zCk.1 a).symm
 .exact h.bits x g y c i (by omega)
def Sub.cut {us:List bK}{d:Nat}(h:Sub us d):∃m,Cut us d m/\us.take m=dW d 0 us/\us.drop m=dW d 1 us:=
 Mb d us (h.order.imp_of_mem λ{a b} e hb c f=>Gs (h.idx a e) (h.idx b hb) c (h.bits a e b hb) f)
def Sub.deep {us:List bK}{d:Nat}(h:Sub us d)(f:2<=us.length):d<256:=by
 match us,f with
 |a::b::us,_=>
  obtain c|c:=zDx d 256
  .exact c
  .exfalso;have e:=Ce (h.idx a (by simp)) (h.idx b (by simp)) λi g=>h.bits a (by simp) b (by simp) i (by omega);have:=(zDh.1 h.order).1 b (by simp);rw[e,eD]at this;cases this
def Sub.zero {us:List bK}(h:us.Pairwise λa b=>aDw a.idx b.idx= -1)(c:∀u∈us,u.idx.length=32):Sub us 0:=⟨h,c,λ_ _ _ _ i c=>by omega⟩
def Mt (us:List bK)(d:Nat):(dW d 0 us).length+(dW d 1 us).length=us.length:=by have:=IH (bF us) d;rw[<-fX,<-fX,fY,fY,fY]at this;exact this
def Cz (k d:Nat):dR k [] d=dg k [0]:=by unfold dR;cases 256-d<;>rfl
def Cy (k d:Nat)(e:gL):dR k [e] d=dg k (qE k e):=by unfold dR;cases 256-d<;>rfl
def FF (k d:Nat)(l:List gL)(h:2<=l.length)(c:d<256):dR k l d=dg k (2::(dR k (cL l d 0) (d+1)++dR k (cL l d 1) (d+1))):=by
 unfold dR;rw[show 256-d=(256-(d+1))+1 by omega];match l,h with
 |a::b::l,_=>rfl
def jA (k d:Nat)(l:List gL)(h:k<=32):(dR k l d).length=k:=eC k _ h
def addr_add (g o j:Nat):(⟨g,o,aB⟩:Addr).add j=⟨g,o+j,aB⟩:=by unfold Addr.add;split<;>simp_all
def bI.part {w:zW}{va:zO}{us:List bK}(h:bI w va us)(m:Nat):bI w va (us.take m):=λd=>by
 obtain⟨g,o,e,b,c⟩:=h (by rw[zAn]at d;omega);refine⟨g,o,e,b,λj u a=>c j u ?_⟩;have f:bH us=bH (us.take m)++bH (us.drop m):=by rw[bH,bH,bH,<-List.flatMap_append,zDr]
 rw[f,zCe (zAi.1 a).1]
 exact a
def bI.rest {w:zW}{va vb:zO}{us:List bK}(h:bI w va us)(m:Nat)(d:m<us.length->vb=va.map λx=>x.add (m*3)):bI w vb (us.drop m):=λf=>by
 rw[zBa]at f;obtain⟨g,o,e,b,c⟩:=h (by omega);subst e;refine⟨g,o+m*3,(d (by omega)).trans (by rw[zAx,addr_add]),b,λj u a=> ?_⟩;rw[zCv];refine c (m*3+j) u ?_;have i:bH us=bH (us.take m)++bH (us.drop m):=by rw[bH,bH,bH,<-List.flatMap_append,zDr]
 rw[i,zBq (by rw[cY,zAn];omega),cY,zAn,show m*3+j-min m us.length*3=j by omega]
 exact a
end Go.Proofs.Zq
