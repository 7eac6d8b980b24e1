import Derived.Test.YtnkkkihgljbllaaDoorCV4
import Derived.Test.YtnkkkihgljbllaaDoorCQ9
import Derived.Test.YtnkkkihgljbllaaDoorCP5
/- text: readLabel, readField; trees of readIns -/
namespace Go.Lev
set_option linter.unusedSimpArgs false
set_option linter.unusedVariables false
open Go.RowKit
open Go.Proofs.Tryd (prog)
set_option maxRecDepth 100000
noncomputable section
abbrev GV (ni nl nj:Nat) (ln:Int) (ax bx cx:al):a9:=[.cells [.slo 1 0 ni 0,.slo 4 0 nl 0,.slo 3 0 nj 0,.z ln] none,.cells ax (some 5),.dead,.cells cx (some 4),.cells bx (some 4)]
abbrev sJ (ni nl nj:Nat) (ln:Int) (ax bx cx:al) (op a b c n:Int):a9:=[.cells [.slo 1 0 ni 0,.slo 2 0 nl 0,.slo 5 0 nj 0,.z ln] none,.cells ax (some 5),.cells bx (some 4),.dead,.cells [.z op,.z a,.z b,.z c,.int .u64 n] none,.cells cx (some 4)]
def cP (x:ap):ap:=aY x 0 (x.length - 1)
def gD (bx:al) (x:ap):Bool:=dW (cP x) && !(nS bx (cP x))
def jJ (bx:al) (x:ap) (ni:Nat):al:=bif gD bx x then bx++a_ ⟨cP x,ni,0,0⟩ else bx
def kM (nl:Nat) (bx:al) (x:ap):Nat:=bif gD bx x then nl+1 else nl
def gE (k:Int) (x:ap):Bool:=bif decide (k=4) then dW x else dP k x
def cy (j i k:Int) (x:ap) (v:Int):Int:=bif decide (k=4) || !decide (i=j) then v else bif decide (j=3) then f7 k x else ay .i64 (f7 k x)
def ij (cx:al) (k:Int) (x:ap) (ni:Nat) (ln w:Int):al:=bif decide (k=4) then cx++a_ ⟨x,ni,ln,w⟩ else cx
def iM (nj:Nat) (k:Int):Nat:=bif decide (k=4) then nj+1 else nj
theorem RN (x:ap) (w:Int) (ni nl nj:Nat) (ln:Int) (ax bx cx:al) (rest:aL) (h1:1≤x.length) (h2:x.length≤100000) (k1:fg ni ax=true) (k2:cr nl bx=true) (k3:cr nj cx=true) :
  a0j prog 59 [.ptr 0 0,.agg [.str x,.z w]] (ai (dT ni nl nj ln ax bx cx) (aN rest)) fun l st=>l=.b (gD bx x)∧st=ai (GV ni (kM nl bx x) nj ln ax (jJ bx x ni) cx) (aN rest):=by
 refine a0j.mono (a0j.vc (Q:=fun l b=>l=.b (gD bx x)∧b=GV ni (kM nl bx x) nj ln ax (jJ bx x ni) cx) UY (n:=40) 4 rfl ?_) fun l s' ⟨b0,⟨h1,h2⟩,h3⟩=>⟨h1,by rw [h3,h2]⟩
 rw [Pw];have na:=qy k1; have nb:=jn k2; have nc:=jn k3;obtain⟨L,hL,hL2,hL3⟩:=mR.1 k2;have lb:bx.length=nl * 4:=by rw [hL,zu,hL2]
 have e1:au .sub .i64 ((am x:Nat):Int) 1=((x.length - 1:Nat):Int):=by show au .sub .i64 ((x.length:Nat):Int) 1=_; rw [rV (show _≤((x.length:Nat):Int) - 1 by omega) (show((x.length:Nat):Int) - 1≤_ by omega)]; omega
 have hs:aY x 0 (x.length - 1)=cP x:=rfl;have hl:(cP x).length≤100000:=by simp only [cP,aY]; simp; omega
 simp only [e1,ct,eA,hs,show ag (x.length - 1) (am x)=true from aO (show x.length - 1≤x.length by omega),show ag (am (cP x)) 1000000000=true from aO (show(cP x).length≤1000000000 by omega),aw];cases hn:dW (cP x) with
 | false =>
   have q:gD bx x=false:=by simp [gD,hn]
   have y:bu false=true:=rfl;simp only [y,aw];refine⟨rfl,.b false,_,[.id 0,.id 1,.id 2,.id 3,.id 2],⟨by rw [q],rfl⟩,?_⟩;simp only [kM,jJ,q,aD]
   (exact zC)
 | true =>
   have y:bu true=false:=rfl;simp only [y,k1,k2,k3,aw,aD];cases hf:nS bx (cP x) with
   | true =>
     have q:gD bx x=false:=by simp [gD,hf]
     simp only [aw];refine⟨rfl,.b false,_,[.id 0,.id 1,.id 2,.id 3,.id 2],⟨by rw [q],rfl⟩,?_⟩;simp only [kM,jJ,q,aD]
     (exact zC)
   | false =>
     have q:gD bx x=true:=by simp [gD,hf,hn]
     have lcat:∀ tl,bM (bf bx 0 (nl * 4)) tl=bx++tl:=fun tl=>by rw [j0 ab]; rfl
     simp only [cm,bP,b_,bV,lb,lcat,show ag (nl+1) 1000000=true from aO ab,show ag (nl * 4) (nl * 4)=true from aO (aR _),show bR nl nl=true from n7 rfl,aw,aD];have nb2:a1u (bx++[.str (cP x),.z ni,.z 0,.z 0])=true:=by rw [hL]; exact(g9 a_ L [⟨cP x,ni,0,0⟩]▸eQ (L++[⟨cP x,ni,0,0⟩]):a1u (aj a_ L++aj a_ [⟨cP x,ni,0,0⟩])=true)
     refine⟨rfl,.b true,_,[.id 0,.id 1,.id 2,.id 3,.id 6],⟨by rw [q],rfl⟩,?_⟩;simp only [kM,jJ,q,aw]
     (exact zC)
theorem TX {nl ni:Nat} {bx:al} {x:ap} (h:cr nl bx=true):a1u (jJ bx x ni)=true:=by
 obtain⟨L,rfl,_⟩:=mR.1 h;unfold jJ;cases gD (aj a_ L) x
 ·exact eQ L
 ·exact(g9 a_ L [⟨cP x,ni,0,0⟩]▸eQ (L++[⟨cP x,ni,0,0⟩]):a1u (aj a_ L++aj a_ [⟨cP x,ni,0,0⟩])=true)
def B8:Gc:=fun args s=>match args,s.g with
 | [.ptr p 0,.agg [.str x,.int .i64 w]],(g0,F0)::(g1,F1)::rest=>cond (Nat.beq g0 0 && aU F0 cj && (Nat.beq g1 2 && aU F1 cK)) (match s.h.get p with
   | some (.cells [.slo a 0 ni 0,.slo b 0 nl 0,.slo c 0 nj 0,.int .i64 ln] none)=>(match s.h.get a with
     | some (.cells ax (some 5))=>(match s.h.get b with
       | some (.cells bx (some 4))=>(match s.h.get c with
         | some (.cells cx (some 4))=>cond (gj [p,a,b,c]) (match s.lay [p,a,b,c] [.cells [.slo a 0 ni 0,.slo s.n 0 (kM nl bx x) 0,.slo c 0 nj 0,.int .i64 ln] none,.cells ax (some 5),.dead,.cells cx (some 4)] [.cells (jJ bx x ni) (some 4)] with
           | some s'=>some ([fg ni ax,cr nl bx,cr nj cx,ag 1 (am x),ag (am x) 100000],.b (gD bx x),s')
           | none=>none) none
         | _=>none)
       | _=>none)
     | _=>none)
   | _=>none) none
 | _,_=>none
theorem TW:bX prog 59 B8:=by
 intro args s bs l s' hg hb hfr;unfold B8 at hg;split at hg
 ·rename_i p x w g0 F0 g1 F1 rest hgl;cases hc:(Nat.beq g0 0 && aU F0 cj && (Nat.beq g1 2 && aU F1 cK)) with
  | false=>exact eZ
  | true =>
    rw [hc] at hg;simp only [aw] at hg;rw [bg] at hc;replace hgl:s.g=aN rest:=by(have c1:=ig.1 hc.1; have c2:=ig.1 hc.2; rw [hgl,bt c1.1,bQ c1.2,bt c2.1,bQ c2.2] <;> rfl)
    split at hg
    ·rename_i a ni b nl c nj ln hb0;split at hg
     ·rename_i ax hb1;split at hg
      ·rename_i bx hb2;split at hg
       ·rename_i cx hb3;cases hbc:gj [p,a,b,c] with
        | false=>exact qT
        | true =>
          rw [hbc] at hg;simp only [aw] at hg;split at hg
          ·rename_i s1 hs1;simp only [a8,bn] at hg;obtain⟨rfl,rfl,rfl⟩:=hg;simp only [bv] at hb;obtain⟨k1,k2,k3,k4,k5,_⟩:=hb;have n1:=qy k1; have n2:=jn k2; have n3:=jn k3; have n4:=TX (x:=x) (ni:=ni) k2;refine a0j.lay (bs:=[.cells [.slo 1 0 ni 0,.slo 2 0 nl 0,.slo 3 0 nj 0,.z ln] none,.cells ax (some 5),.cells bx (some 4),.cells cx (some 4)]) (args0:=[.ptr 0 0,.agg [.str x,.z w]]) (bs':=[.cells [.slo 1 0 ni 0,.slo 4 0 (kM nl bx x) 0,.slo 3 0 nj 0,.z ln] none,.cells ax (some 5),.dead,.cells cx (some 4),.cells (jJ bx x ni) (some 4)]) (v0:=.b (gD bx x)) hfr hs1 (pC hbc)
            ⟨⟨df hfr hb0,_,hb0,by first | exact be rfl | exact dF (aV (bC rfl) (aV (bC rfl) (aV (bC rfl) (aV (cH) cA)))) aC,fun κ hκ=>dF (aV (bC (hκ 1 a rfl)) (aV (bC (hκ 2 b rfl)) (aV (bC (hκ 3 c rfl)) (aV (cH) cA)))) aC⟩,⟨df hfr hb1,_,hb1,be bF,fun κ hκ=>be bF⟩,⟨df hfr hb2,_,hb2,be bF,fun κ hκ=>be bF⟩,⟨df hfr hb3,_,hb3,be bF,fun κ hκ=>be bF⟩,trivial⟩ fv ?_
            fun κ h1 h2=>⟨⟨dF (aV (bC (h1 1 a rfl)) (aV (bC (h2 0 aC)) (aV (bC (h1 3 c rfl)) (aV (cH) cA)))) aC,be bF,eD,be bF,be bF,trivial⟩,ir⟩
           rw [hgl]; exact(RN x w ni nl nj ln ax bx cx rest (eC.1 k4) (eC.1 k5) k1 k2 k3)
          ·cases hg
       ·cases hg
      ·cases hg
     ·cases hg
    ·cases hg
 ·cases hg
theorem RG (x:ap) (w i k op va vb vc vn:Int) (ni nl nj:Nat) (ln:Int) (ax bx cx:al) (rest:aL) (h2:x.length≤100000) (hi:0≤i∧i≤3) (k1:fg ni ax=true) (k2:cr nl bx=true) (k3:cr nj cx=true) :
  a0j prog 71 [.ptr 0 0,.ptr 4 0,.z i,.z k,.agg [.str x,.z w]] (ai (dT ni nl nj ln ax bx cx++[.cells [.z op,.z va,.z vb,.z vc,.int .u64 vn] none]) (aN rest)) fun l st=>l=.b (gE k x)∧st=ai (sJ ni nl (iM nj k) ln ax bx (ij cx k x ni ln w) op (cy 0 i k x va) (cy 1 i k x vb) (cy 2 i k x vc) (cy 3 i k x vn)) (aN rest):=by
 refine a0j.mono (a0j.vc (Q:=fun l b=>l=.b (gE k x)∧b=sJ ni nl (iM nj k) ln ax bx (ij cx k x ni ln w) op (cy 0 i k x va) (cy 1 i k x vb) (cy 2 i k x vc) (cy 3 i k x vn)) UX (n:=40) 5 rfl ?_) fun l s' ⟨b0,⟨h1,h2⟩,h3⟩=>⟨h1,by rw [h3,h2]⟩
 rw [Pr];have na:=qy k1; have nb:=jn k2; have nc:=jn k3;obtain⟨L,hL,hL2,hL3⟩:=mR.1 k3;have lb:cx.length=nj * 4:=by rw [hL,zu,hL2]
 by_cases c4:k=4
 ·have lcat:∀ tl,bM (bf cx 0 (nj * 4)) tl=cx++tl:=fun tl=>by rw [j0 ab]; rfl
  simp only [show ad .eql k 4=true from cD c4,cm,bP,b_,bV,lb,lcat,show ag (nj+1) 1000000=true from aO ab,show ag (nj * 4) (nj * 4)=true from aO (aR _),show bR nj nj=true from n7 rfl,show ag (am x) 1000000000=true from aO (show x.length≤1000000000 by omega),aw];have nb2:a1u (cx++[.str x,.z ni,.z ln,.z w])=true:=by rw [hL]; exact(g9 a_ L [⟨x,ni,ln,w⟩]▸eQ (L++[⟨x,ni,ln,w⟩]):a1u (aj a_ L++aj a_ [⟨x,ni,ln,w⟩])=true)
  refine⟨rfl,.b (dW x),_,[.id 0,.id 1,.id 2,.id 3,.id 4,.id 7],⟨by simp [gE,c4],rfl⟩,?_⟩;simp only [iM,ij,cy,c4,bD,Bool.true_or,aw,sJ]
  (exact zC)
 simp only [show ad .eql k 4=false from cF c4,aD];have q:gE k x=dP k x:=by simp [gE,c4]
 by_cases i0:i=0
 ·simp only [show ad .eql i 0=true from cD i0,aw];refine⟨rfl,.b (dP k x),_,[.id 0,.id 1,.id 2,.id 3,.id 4,.id 3],⟨by rw [q],rfl⟩,?_⟩;simp (config:={ decide:=true }) only [iM,ij,cy,c4,i0,bD,fX,mp,oM,pH,aw,aD,sJ]
  (exact zC)
 simp only [show ad .eql i 0=false from cF i0,aD];by_cases i1:i=1
 ·simp only [show ad .eql i 1=true from cD i1,aw];refine⟨rfl,.b (dP k x),_,[.id 0,.id 1,.id 2,.id 3,.id 4,.id 3],⟨by rw [q],rfl⟩,?_⟩;simp (config:={ decide:=true }) only [iM,ij,cy,c4,i1,bD,fX,mp,oM,pH,aw,aD,sJ]
  (exact zC)
 simp only [show ad .eql i 1=false from cF i1,aD];by_cases i2:i=2
 ·simp only [show ad .eql i 2=true from cD i2,aw];refine⟨rfl,.b (dP k x),_,[.id 0,.id 1,.id 2,.id 3,.id 4,.id 3],⟨by rw [q],rfl⟩,?_⟩;simp (config:={ decide:=true }) only [iM,ij,cy,c4,i2,bD,fX,mp,oM,pH,aw,aD,sJ]
  (exact zC)
 have i3:i=3:=ab;simp only [show ad .eql i 2=false from cF i2,aD];refine⟨rfl,.b (dP k x),_,[.id 0,.id 1,.id 2,.id 3,.id 4,.id 3],⟨by rw [q],rfl⟩,?_⟩;simp (config:={ decide:=true }) only [iM,ij,cy,c4,i3,bD,fX,mp,oM,pH,aw,aD,sJ]
 (exact zC)
theorem TU {nj ni:Nat} {cx:al} {x:ap} {k ln w:Int} (h:cr nj cx=true):a1u (ij cx k x ni ln w)=true:=by
 obtain⟨L,rfl,_⟩:=mR.1 h;unfold ij;cases decide (k=4)
 ·exact eQ L
 ·exact(g9 a_ L [⟨x,ni,ln,w⟩]▸eQ (L++[⟨x,ni,ln,w⟩]):a1u (aj a_ L++aj a_ [⟨x,ni,ln,w⟩])=true)
theorem LP {x y:Int} (h:ad .leq x y=true):x≤y:=by rw [iq] at h; simpa using h
def B_:Gc:=fun args s=>match args,s.g with
 | [.ptr p 0,.ptr q 0,.int .i64 i,.int .i64 k,.agg [.str x,.int .i64 w]],(g0,F0)::(g1,F1)::rest=>cond (Nat.beq g0 0 && aU F0 cj && (Nat.beq g1 2 && aU F1 cK)) (match s.h.get p with
   | some (.cells [.slo a 0 ni 0,.slo b 0 nl 0,.slo c 0 nj 0,.int .i64 ln] none)=>(match s.h.get a with
     | some (.cells ax (some 5))=>(match s.h.get b with
       | some (.cells bx (some 4))=>(match s.h.get c with
         | some (.cells cx (some 4))=>(match s.h.get q with
           | some (.cells [.int .i64 op,.int .i64 va,.int .i64 vb,.int .i64 vc,.int .u64 vn] none)=>cond (gj [p,a,b,c,q]) (match s.lay [p,a,b,c,q] [.cells [.slo a 0 ni 0,.slo b 0 nl 0,.slo s.n 0 (iM nj k) 0,.int .i64 ln] none,.cells ax (some 5),.cells bx (some 4),.dead,.cells [.int .i64 op,.int .i64 (cy 0 i k x va),.int .i64 (cy 1 i k x vb),.int .i64 (cy 2 i k x vc),.int .u64 (cy 3 i k x vn)] none] [.cells (ij cx k x ni ln w) (some 4)] with
             | some s'=>some ([fg ni ax,cr nl bx,cr nj cx,ag (am x) 100000,ad .leq 0 i,ad .leq i 3],.b (gE k x),s')
             | none=>none) none
           | _=>none)
         | _=>none)
       | _=>none)
     | _=>none)
   | _=>none) none
 | _,_=>none
theorem TT:bX prog 71 B_:=by
 intro args s bs l s' hg hb hfr;unfold B_ at hg;split at hg
 ·rename_i p q i k x w g0 F0 g1 F1 rest hgl;cases hc:(Nat.beq g0 0 && aU F0 cj && (Nat.beq g1 2 && aU F1 cK)) with
  | false=>exact eZ
  | true =>
    rw [hc] at hg;simp only [aw] at hg;rw [bg] at hc;replace hgl:s.g=aN rest:=by(have c1:=ig.1 hc.1; have c2:=ig.1 hc.2; rw [hgl,bt c1.1,bQ c1.2,bt c2.1,bQ c2.2] <;> rfl)
    split at hg
    ·rename_i a ni b nl c nj ln hb0;split at hg
     ·rename_i ax hb1;split at hg
      ·rename_i bx hb2;split at hg
       ·rename_i cx hb3;split at hg
        ·rename_i op va vb vc vn hb4;cases hbc:gj [p,a,b,c,q] with
         | false=>exact qT
         | true =>
           rw [hbc] at hg;simp only [aw] at hg;split at hg
           ·rename_i s1 hs1;simp only [a8,bn] at hg;obtain⟨rfl,rfl,rfl⟩:=hg;simp only [bv] at hb;obtain⟨k1,k2,k3,k4,k5,k6,_⟩:=hb;have n1:=qy k1; have n2:=jn k2; have n3:=jn k3; have n4:=TU (k:=k) (x:=x) (ni:=ni) (ln:=ln) (w:=w) k3;refine a0j.lay (bs:=[.cells [.slo 1 0 ni 0,.slo 2 0 nl 0,.slo 3 0 nj 0,.z ln] none,.cells ax (some 5),.cells bx (some 4),.cells cx (some 4),.cells [.z op,.z va,.z vb,.z vc,.int .u64 vn] none]) (args0:=[.ptr 0 0,.ptr 4 0,.z i,.z k,.agg [.str x,.z w]]) (bs':=[.cells [.slo 1 0 ni 0,.slo 2 0 nl 0,.slo 5 0 (iM nj k) 0,.z ln] none,.cells ax (some 5),.cells bx (some 4),.dead,.cells [.z op,.z (cy 0 i k x va),.z (cy 1 i k x vb),.z (cy 2 i k x vc),.int .u64 (cy 3 i k x vn)] none,.cells (ij cx k x ni ln w) (some 4)]) (v0:=.b (gE k x)) hfr hs1 (pC hbc)
             ⟨⟨df hfr hb0,_,hb0,by first | exact be rfl | exact dF (aV (bC rfl) (aV (bC rfl) (aV (bC rfl) (aV (cH) cA)))) aC,fun κ hκ=>dF (aV (bC (hκ 1 a rfl)) (aV (bC (hκ 2 b rfl)) (aV (bC (hκ 3 c rfl)) (aV (cH) cA)))) aC⟩,⟨df hfr hb1,_,hb1,be bF,fun κ hκ=>be bF⟩,⟨df hfr hb2,_,hb2,be bF,fun κ hκ=>be bF⟩,⟨df hfr hb3,_,hb3,be bF,fun κ hκ=>be bF⟩,⟨df hfr hb4,_,hb4,by first | exact be rfl | exact dF (aV (cH) (aV (cH) (aV (cH) (aV (cH) (aV (cH) cA))))) aC,fun κ hκ=>dF (aV (cH) (aV (cH) (aV (cH) (aV (cH) (aV (cH) cA))))) aC⟩,trivial⟩ fv ?_
             fun κ h1 h2=>⟨⟨dF (aV (bC (h1 1 a rfl)) (aV (bC (h1 2 b rfl)) (aV (bC (h2 0 aC)) (aV (cH) cA)))) aC,be bF,be bF,eD,dF (aV (cH) (aV (cH) (aV (cH) (aV (cH) (aV (cH) cA))))) aC,be bF,trivial⟩,ir⟩
            rw [hgl]; exact(RG x w i k op va vb vc vn ni nl nj ln ax bx cx rest (eC.1 k4) ⟨LP k5,LP k6⟩ k1 k2 k3)
           ·cases hg
        ·cases hg
       ·cases hg
      ·cases hg
     ·cases hg
    ·cases hg
 ·cases hg
def p5:Cx:=eP [(70,Ck),(41,zP),(71,B_)]
abbrev pR:List Nat:=[0,2,3,5,8,9,10,11,42,43]
abbrev lz (u:Value) (e op i:Int):List (Nat×LV):=[(0,.ptr 0 0),(2,.val u),(3,.z e),(5,.ptr 6 0),(8,.ptr 7 0),(11,.ptr 8 0),(42,GW op),(43,.z i)]
abbrev pS (ni nl nj:Nat) (ln:Int) (ax bx cx:al) (F:World→Prop) (s:ap) (w:Int) (op a b c n:Int):a9:=[.cells [.slo 1 0 ni 0,.slo 2 0 nl 0,.slo 9 0 nj 0,.z ln] none,.cells ax (some 5),.cells bx (some 4),.dead,.obj bG [.fact F] 5,.dead,.cells [.str s,.z w] none,.cells [.z 0,.z 0,.z 0] none,.cells [.z op,.z a,.z b,.z c,.int .u64 n] none,.cells cx (some 4)]
theorem Ps (ni nl nj:Nat) (ln:Int) (ax bx cx:al) (F:World→Prop) (s:ap) (w:Int) (u:Value) (e:Int) (rest:aL) (K:Pk):(bc prog p5 40 92 (bS (sp prog 61) 0 4) (cO [.ptr 0 0,.agg [.str s,.z w],.val u,.z e]) (ai (dT ni nl nj ln ax bx cx++[.obj bG [.fact F] 5,.dead]) (aN rest)) (vK pR K))=(
 cond (bu (iB s)) (K .ret [.ptr 0 0,.val u,.z e,.ptr 6 0,.ptr 7 0,.z (dV s),.b (iB s),.tup [],.tup [],.tup []] [sN [.slo 1 0 ni 0,.slo 2 0 nl 0,.slo 3 0 nj 0,.z ln],sC ax 5,sC bx 4,sC cx 4,some (.obj bG [.fact F] 5),sD,sN [.str s,.z w],sN [.z ln,.z w,.z 12],sN [.z ln,.z w,.z 12]] (aN rest)) (K .normal [.ptr 0 0,.val u,.z e,.ptr 6 0,.ptr 7 0,.z (dV s),.b (iB s),.tup [],.tup [],.tup []] [sN [.slo 1 0 ni 0,.slo 2 0 nl 0,.slo 3 0 nj 0,.z ln],sC ax 5,sC bx 4,sC cx 4,some (.obj bG [.fact F] 5),sD,sN [.str s,.z w],sN [.z 0,.z 0,.z 0]] (aN rest))):=ak
theorem Pt (ni nl nj:Nat) (ln:Int) (ax bx cx:al) (F:World→Prop) (s:ap) (w:Int) (u:Value) (e:Int) (rest:aL) (K:Pk):(bc prog p5 40 92 (bS (sp prog 61) 4 4) (aF 92 [(0,.ptr 0 0),(2,.val u),(3,.z e),(5,.ptr 6 0),(8,.ptr 7 0),(9,.z (dV s))]) (ai (dT ni nl nj ln ax bx cx++[.obj bG [.fact F] 5,.dead,.cells [.str s,.z w] none,.cells [.z 0,.z 0,.z 0] none]) (aN rest)) (vK pR K))=(
 cond (ad .geq (↑ni) 40) (K .ret [.ptr 0 0,.val u,.z e,.ptr 6 0,.ptr 7 0,.z (dV s),.any,.any,.any,.any] [sN [.slo 1 0 ni 0,.slo 2 0 nl 0,.slo 3 0 nj 0,.z ln],sC ax 5,sC bx 4,sC cx 4,some (.obj bG [.fact F] 5),sD,sN [.str s,.z w],sN [.z ln,.z w,.z 4]] (aN rest)) (ck (ad .leq 1 (dV s)) <|
 ck (ad .leq (dV s) 23) <|
 K .normal [.ptr 0 0,.val u,.z e,.ptr 6 0,.ptr 7 0,.z (dV s),.any,.ptr 8 0,.agg [.z (fA (dV s)),.z (fB (dV s)),.z (fC (dV s)),.z (fD (dV s))],.z 0] [sN [.slo 1 0 ni 0,.slo 2 0 nl 0,.slo 3 0 nj 0,.z ln],sC ax 5,sC bx 4,sC cx 4,some (.obj bG [.fact F] 5),sD,sN [.str s,.z w],sN [.z 0,.z 0,.z 0],sN [.z (dV s),.z 0,.z 0,.z 0,.int .u64 0]] (aN rest))):=ak
theorem RH (ni nl nj:Nat) (ln:Int) (ax bx cx:al) (F:World→Prop) (s:ap) (w:Int) (u:Value) (e:Int) (rest:aL) (op a b c n:Int) (K:Pk):(aX prog p5 40 92 (ce (bi (sp prog 61) 8)) (aF 92 (lz u e op 0)) (ai (pS ni nl nj ln ax bx cx F s w op a b c n) (aN rest)) (vK pR K))=(
 cond (ad .eql (fA op) 0) (K .normal [.ptr 0 0,.val u,.z e,.ptr 6 0,.ptr 7 0,.any,.any,.ptr 8 0,.agg [.z (fA op),.z (fB op),.z (fC op),.z (fD op)],.z 1] [sN [.slo 1 0 ni 0,.slo 2 0 nl 0,.slo 9 0 nj 0,.z ln],sC ax 5,sC bx 4,sD,some (.obj bG [.fact F] 5),sD,sN [.str s,.z w],sN [.z 0,.z 0,.z 0],sN [.z op,.z a,.z b,.z c,.int .u64 n],sC cx 4] (aN rest)) (cond (ad .eql (↑(mw u)) 0) (K .ret [.ptr 0 0,.val u,.z e,.ptr 6 0,.ptr 7 0,.any,.any,.ptr 8 0,.agg [.z (fA op),.z (fB op),.z (fC op),.z (fD op)],.z 0] [sN [.slo 1 0 ni 0,.slo 2 0 nl 0,.slo 9 0 nj 0,.z ln],sC ax 5,sC bx 4,sD,some (.obj bG [.fact F] 5),sD,sN [.str s,.z w],sN [.z ln,.z e,.z 12],sN [.z op,.z a,.z b,.z c,.int .u64 n],sC cx 4,sN [.z ln,.z e,.z 12]] (aN rest)) (ck (iE u 0) <|
 ck (ip F u 0 2) <|
 ck (ag 2 (aG (aH F u 0 2))) <|
 ck (cW (af (aH F u 0 2) 0)) <|
 ck (a7 .i64 (af (aH F u 0 2) 1)) <|
 ck (fg ni ax) <|
 ck (cr nl bx) <|
 ck (cr nj cx) <|
 ck (ag (am (aK (af (aH F u 0 2) 0))) 100000) <|
 cond (bu (gE (fA op) (aK (af (aH F u 0 2) 0)))) (ck (iE u 0) <|
 ck (ip F u 1 1) <|
 ck (ag 1 (aG (aH F u 1 1))) <|
 ck (a7 .i64 (af (aH F u 1 1) 0)) <|
 K .ret [.ptr 0 0,.val u,.z e,.ptr 6 0,.ptr 7 0,.any,.any,.ptr 8 0,.agg [.z (fA op),.z (fB op),.z (fC op),.z (fD op)],.z 0] [sN [.slo 1 0 ni 0,.slo 2 0 nl 0,.slo 10 0 (iM nj (fA op)) 0,.z ln],sC ax 5,sC bx 4,sD,some (.obj bG [.fact F] 5),sD,sN [.str s,.z w],sN [.z ln,.z (ar (af (aH F u 1 1) 0)),.z 12],sN [.z op,.z (cy 0 0 (fA op) (aK (af (aH F u 0 2) 0)) a),.z (cy 1 0 (fA op) (aK (af (aH F u 0 2) 0)) b),.z (cy 2 0 (fA op) (aK (af (aH F u 0 2) 0)) c),.int .u64 (cy 3 0 (fA op) (aK (af (aH F u 0 2) 0)) n)],sD,sC (ij cx (fA op) (aK (af (aH F u 0 2) 0)) ni ln (ar (af (aH F u 0 2) 1))) 4,sN [.z ln,.z (ar (af (aH F u 1 1) 0)),.z 12]] (aN rest)) (ck (mG u 1) <|
 K .normal [.ptr 0 0,.val (ci u 2 1),.z e,.ptr 6 0,.ptr 7 0,.any,.any,.ptr 8 0,.agg [.z (fA op),.z (fB op),.z (fC op),.z (fD op)],.z 1] [sN [.slo 1 0 ni 0,.slo 2 0 nl 0,.slo 10 0 (iM nj (fA op)) 0,.z ln],sC ax 5,sC bx 4,sD,some (.obj bG [.fact F] 5),sD,sN [.str s,.z w],sN [.z 0,.z 0,.z 0],sN [.z op,.z (cy 0 0 (fA op) (aK (af (aH F u 0 2) 0)) a),.z (cy 1 0 (fA op) (aK (af (aH F u 0 2) 0)) b),.z (cy 2 0 (fA op) (aK (af (aH F u 0 2) 0)) c),.int .u64 (cy 3 0 (fA op) (aK (af (aH F u 0 2) 0)) n)],sD,sC (ij cx (fA op) (aK (af (aH F u 0 2) 0)) ni ln (ar (af (aH F u 0 2) 1))) 4] (aN rest))))):=ak
theorem RI (ni nl nj:Nat) (ln:Int) (ax bx cx:al) (F:World→Prop) (s:ap) (w:Int) (u:Value) (e:Int) (rest:aL) (op a b c n:Int) (K:Pk):(aX prog p5 40 92 (ce (bi (sp prog 61) 8)) (aF 92 (lz u e op 1)) (ai (pS ni nl nj ln ax bx cx F s w op a b c n) (aN rest)) (vK pR K))=(
 cond (ad .eql (fB op) 0) (K .normal [.ptr 0 0,.val u,.z e,.ptr 6 0,.ptr 7 0,.any,.any,.ptr 8 0,.agg [.z (fA op),.z (fB op),.z (fC op),.z (fD op)],.z 2] [sN [.slo 1 0 ni 0,.slo 2 0 nl 0,.slo 9 0 nj 0,.z ln],sC ax 5,sC bx 4,sD,some (.obj bG [.fact F] 5),sD,sN [.str s,.z w],sN [.z 0,.z 0,.z 0],sN [.z op,.z a,.z b,.z c,.int .u64 n],sC cx 4] (aN rest)) (cond (ad .eql (↑(mw u)) 0) (K .ret [.ptr 0 0,.val u,.z e,.ptr 6 0,.ptr 7 0,.any,.any,.ptr 8 0,.agg [.z (fA op),.z (fB op),.z (fC op),.z (fD op)],.z 1] [sN [.slo 1 0 ni 0,.slo 2 0 nl 0,.slo 9 0 nj 0,.z ln],sC ax 5,sC bx 4,sD,some (.obj bG [.fact F] 5),sD,sN [.str s,.z w],sN [.z ln,.z e,.z 12],sN [.z op,.z a,.z b,.z c,.int .u64 n],sC cx 4,sN [.z ln,.z e,.z 12]] (aN rest)) (ck (iE u 0) <|
 ck (ip F u 0 2) <|
 ck (ag 2 (aG (aH F u 0 2))) <|
 ck (cW (af (aH F u 0 2) 0)) <|
 ck (a7 .i64 (af (aH F u 0 2) 1)) <|
 ck (fg ni ax) <|
 ck (cr nl bx) <|
 ck (cr nj cx) <|
 ck (ag (am (aK (af (aH F u 0 2) 0))) 100000) <|
 cond (bu (gE (fB op) (aK (af (aH F u 0 2) 0)))) (ck (iE u 0) <|
 ck (ip F u 1 1) <|
 ck (ag 1 (aG (aH F u 1 1))) <|
 ck (a7 .i64 (af (aH F u 1 1) 0)) <|
 K .ret [.ptr 0 0,.val u,.z e,.ptr 6 0,.ptr 7 0,.any,.any,.ptr 8 0,.agg [.z (fA op),.z (fB op),.z (fC op),.z (fD op)],.z 1] [sN [.slo 1 0 ni 0,.slo 2 0 nl 0,.slo 10 0 (iM nj (fB op)) 0,.z ln],sC ax 5,sC bx 4,sD,some (.obj bG [.fact F] 5),sD,sN [.str s,.z w],sN [.z ln,.z (ar (af (aH F u 1 1) 0)),.z 12],sN [.z op,.z (cy 0 1 (fB op) (aK (af (aH F u 0 2) 0)) a),.z (cy 1 1 (fB op) (aK (af (aH F u 0 2) 0)) b),.z (cy 2 1 (fB op) (aK (af (aH F u 0 2) 0)) c),.int .u64 (cy 3 1 (fB op) (aK (af (aH F u 0 2) 0)) n)],sD,sC (ij cx (fB op) (aK (af (aH F u 0 2) 0)) ni ln (ar (af (aH F u 0 2) 1))) 4,sN [.z ln,.z (ar (af (aH F u 1 1) 0)),.z 12]] (aN rest)) (ck (mG u 1) <|
 K .normal [.ptr 0 0,.val (ci u 2 1),.z e,.ptr 6 0,.ptr 7 0,.any,.any,.ptr 8 0,.agg [.z (fA op),.z (fB op),.z (fC op),.z (fD op)],.z 2] [sN [.slo 1 0 ni 0,.slo 2 0 nl 0,.slo 10 0 (iM nj (fB op)) 0,.z ln],sC ax 5,sC bx 4,sD,some (.obj bG [.fact F] 5),sD,sN [.str s,.z w],sN [.z 0,.z 0,.z 0],sN [.z op,.z (cy 0 1 (fB op) (aK (af (aH F u 0 2) 0)) a),.z (cy 1 1 (fB op) (aK (af (aH F u 0 2) 0)) b),.z (cy 2 1 (fB op) (aK (af (aH F u 0 2) 0)) c),.int .u64 (cy 3 1 (fB op) (aK (af (aH F u 0 2) 0)) n)],sD,sC (ij cx (fB op) (aK (af (aH F u 0 2) 0)) ni ln (ar (af (aH F u 0 2) 1))) 4] (aN rest))))):=ak
theorem RJ (ni nl nj:Nat) (ln:Int) (ax bx cx:al) (F:World→Prop) (s:ap) (w:Int) (u:Value) (e:Int) (rest:aL) (op a b c n:Int) (K:Pk):(aX prog p5 40 92 (ce (bi (sp prog 61) 8)) (aF 92 (lz u e op 2)) (ai (pS ni nl nj ln ax bx cx F s w op a b c n) (aN rest)) (vK pR K))=(
 cond (ad .eql (fC op) 0) (K .normal [.ptr 0 0,.val u,.z e,.ptr 6 0,.ptr 7 0,.any,.any,.ptr 8 0,.agg [.z (fA op),.z (fB op),.z (fC op),.z (fD op)],.z 3] [sN [.slo 1 0 ni 0,.slo 2 0 nl 0,.slo 9 0 nj 0,.z ln],sC ax 5,sC bx 4,sD,some (.obj bG [.fact F] 5),sD,sN [.str s,.z w],sN [.z 0,.z 0,.z 0],sN [.z op,.z a,.z b,.z c,.int .u64 n],sC cx 4] (aN rest)) (cond (ad .eql (↑(mw u)) 0) (K .ret [.ptr 0 0,.val u,.z e,.ptr 6 0,.ptr 7 0,.any,.any,.ptr 8 0,.agg [.z (fA op),.z (fB op),.z (fC op),.z (fD op)],.z 2] [sN [.slo 1 0 ni 0,.slo 2 0 nl 0,.slo 9 0 nj 0,.z ln],sC ax 5,sC bx 4,sD,some (.obj bG [.fact F] 5),sD,sN [.str s,.z w],sN [.z ln,.z e,.z 12],sN [.z op,.z a,.z b,.z c,.int .u64 n],sC cx 4,sN [.z ln,.z e,.z 12]] (aN rest)) (ck (iE u 0) <|
 ck (ip F u 0 2) <|
 ck (ag 2 (aG (aH F u 0 2))) <|
 ck (cW (af (aH F u 0 2) 0)) <|
 ck (a7 .i64 (af (aH F u 0 2) 1)) <|
 ck (fg ni ax) <|
 ck (cr nl bx) <|
 ck (cr nj cx) <|
 ck (ag (am (aK (af (aH F u 0 2) 0))) 100000) <|
 cond (bu (gE (fC op) (aK (af (aH F u 0 2) 0)))) (ck (iE u 0) <|
 ck (ip F u 1 1) <|
 ck (ag 1 (aG (aH F u 1 1))) <|
 ck (a7 .i64 (af (aH F u 1 1) 0)) <|
 K .ret [.ptr 0 0,.val u,.z e,.ptr 6 0,.ptr 7 0,.any,.any,.ptr 8 0,.agg [.z (fA op),.z (fB op),.z (fC op),.z (fD op)],.z 2] [sN [.slo 1 0 ni 0,.slo 2 0 nl 0,.slo 10 0 (iM nj (fC op)) 0,.z ln],sC ax 5,sC bx 4,sD,some (.obj bG [.fact F] 5),sD,sN [.str s,.z w],sN [.z ln,.z (ar (af (aH F u 1 1) 0)),.z 12],sN [.z op,.z (cy 0 2 (fC op) (aK (af (aH F u 0 2) 0)) a),.z (cy 1 2 (fC op) (aK (af (aH F u 0 2) 0)) b),.z (cy 2 2 (fC op) (aK (af (aH F u 0 2) 0)) c),.int .u64 (cy 3 2 (fC op) (aK (af (aH F u 0 2) 0)) n)],sD,sC (ij cx (fC op) (aK (af (aH F u 0 2) 0)) ni ln (ar (af (aH F u 0 2) 1))) 4,sN [.z ln,.z (ar (af (aH F u 1 1) 0)),.z 12]] (aN rest)) (ck (mG u 1) <|
 K .normal [.ptr 0 0,.val (ci u 2 1),.z e,.ptr 6 0,.ptr 7 0,.any,.any,.ptr 8 0,.agg [.z (fA op),.z (fB op),.z (fC op),.z (fD op)],.z 3] [sN [.slo 1 0 ni 0,.slo 2 0 nl 0,.slo 10 0 (iM nj (fC op)) 0,.z ln],sC ax 5,sC bx 4,sD,some (.obj bG [.fact F] 5),sD,sN [.str s,.z w],sN [.z 0,.z 0,.z 0],sN [.z op,.z (cy 0 2 (fC op) (aK (af (aH F u 0 2) 0)) a),.z (cy 1 2 (fC op) (aK (af (aH F u 0 2) 0)) b),.z (cy 2 2 (fC op) (aK (af (aH F u 0 2) 0)) c),.int .u64 (cy 3 2 (fC op) (aK (af (aH F u 0 2) 0)) n)],sD,sC (ij cx (fC op) (aK (af (aH F u 0 2) 0)) ni ln (ar (af (aH F u 0 2) 1))) 4] (aN rest))))):=ak
theorem RK (ni nl nj:Nat) (ln:Int) (ax bx cx:al) (F:World→Prop) (s:ap) (w:Int) (u:Value) (e:Int) (rest:aL) (op a b c n:Int) (K:Pk):(aX prog p5 40 92 (ce (bi (sp prog 61) 8)) (aF 92 (lz u e op 3)) (ai (pS ni nl nj ln ax bx cx F s w op a b c n) (aN rest)) (vK pR K))=(
 cond (ad .eql (fD op) 0) (K .normal [.ptr 0 0,.val u,.z e,.ptr 6 0,.ptr 7 0,.any,.any,.ptr 8 0,.agg [.z (fA op),.z (fB op),.z (fC op),.z (fD op)],.z 4] [sN [.slo 1 0 ni 0,.slo 2 0 nl 0,.slo 9 0 nj 0,.z ln],sC ax 5,sC bx 4,sD,some (.obj bG [.fact F] 5),sD,sN [.str s,.z w],sN [.z 0,.z 0,.z 0],sN [.z op,.z a,.z b,.z c,.int .u64 n],sC cx 4] (aN rest)) (cond (ad .eql (↑(mw u)) 0) (K .ret [.ptr 0 0,.val u,.z e,.ptr 6 0,.ptr 7 0,.any,.any,.ptr 8 0,.agg [.z (fA op),.z (fB op),.z (fC op),.z (fD op)],.z 3] [sN [.slo 1 0 ni 0,.slo 2 0 nl 0,.slo 9 0 nj 0,.z ln],sC ax 5,sC bx 4,sD,some (.obj bG [.fact F] 5),sD,sN [.str s,.z w],sN [.z ln,.z e,.z 12],sN [.z op,.z a,.z b,.z c,.int .u64 n],sC cx 4,sN [.z ln,.z e,.z 12]] (aN rest)) (ck (iE u 0) <|
 ck (ip F u 0 2) <|
 ck (ag 2 (aG (aH F u 0 2))) <|
 ck (cW (af (aH F u 0 2) 0)) <|
 ck (a7 .i64 (af (aH F u 0 2) 1)) <|
 ck (fg ni ax) <|
 ck (cr nl bx) <|
 ck (cr nj cx) <|
 ck (ag (am (aK (af (aH F u 0 2) 0))) 100000) <|
 cond (bu (gE (fD op) (aK (af (aH F u 0 2) 0)))) (ck (iE u 0) <|
 ck (ip F u 1 1) <|
 ck (ag 1 (aG (aH F u 1 1))) <|
 ck (a7 .i64 (af (aH F u 1 1) 0)) <|
 K .ret [.ptr 0 0,.val u,.z e,.ptr 6 0,.ptr 7 0,.any,.any,.ptr 8 0,.agg [.z (fA op),.z (fB op),.z (fC op),.z (fD op)],.z 3] [sN [.slo 1 0 ni 0,.slo 2 0 nl 0,.slo 10 0 (iM nj (fD op)) 0,.z ln],sC ax 5,sC bx 4,sD,some (.obj bG [.fact F] 5),sD,sN [.str s,.z w],sN [.z ln,.z (ar (af (aH F u 1 1) 0)),.z 12],sN [.z op,.z (cy 0 3 (fD op) (aK (af (aH F u 0 2) 0)) a),.z (cy 1 3 (fD op) (aK (af (aH F u 0 2) 0)) b),.z (cy 2 3 (fD op) (aK (af (aH F u 0 2) 0)) c),.int .u64 (cy 3 3 (fD op) (aK (af (aH F u 0 2) 0)) n)],sD,sC (ij cx (fD op) (aK (af (aH F u 0 2) 0)) ni ln (ar (af (aH F u 0 2) 1))) 4,sN [.z ln,.z (ar (af (aH F u 1 1) 0)),.z 12]] (aN rest)) (ck (mG u 1) <|
 K .normal [.ptr 0 0,.val (ci u 2 1),.z e,.ptr 6 0,.ptr 7 0,.any,.any,.ptr 8 0,.agg [.z (fA op),.z (fB op),.z (fC op),.z (fD op)],.z 4] [sN [.slo 1 0 ni 0,.slo 2 0 nl 0,.slo 10 0 (iM nj (fD op)) 0,.z ln],sC ax 5,sC bx 4,sD,some (.obj bG [.fact F] 5),sD,sN [.str s,.z w],sN [.z 0,.z 0,.z 0],sN [.z op,.z (cy 0 3 (fD op) (aK (af (aH F u 0 2) 0)) a),.z (cy 1 3 (fD op) (aK (af (aH F u 0 2) 0)) b),.z (cy 2 3 (fD op) (aK (af (aH F u 0 2) 0)) c),.int .u64 (cy 3 3 (fD op) (aK (af (aH F u 0 2) 0)) n)],sD,sC (ij cx (fD op) (aK (af (aH F u 0 2) 0)) ni ln (ar (af (aH F u 0 2) 1))) 4] (aN rest))))):=ak
theorem RL (ni nl nj:Nat) (ln:Int) (ax bx cx:al) (F:World→Prop) (s:ap) (w:Int) (u:Value) (e:Int) (rest:aL) (op a b c n:Int) (K:Pk):(aX prog p5 40 92 (ce (bi (sp prog 61) 8)) (aF 92 (lz u e op 4)) (ai (pS ni nl nj ln ax bx cx F s w op a b c n) (aN rest)) (vK pR K))=(
 K (.exit 0) [.ptr 0 0,.val u,.z e,.ptr 6 0,.ptr 7 0,.any,.any,.ptr 8 0,.agg [.z (fA op),.z (fB op),.z (fC op),.z (fD op)],.z 4] [sN [.slo 1 0 ni 0,.slo 2 0 nl 0,.slo 9 0 nj 0,.z ln],sC ax 5,sC bx 4,sD,some (.obj bG [.fact F] 5),sD,sN [.str s,.z w],sN [.z 0,.z 0,.z 0],sN [.z op,.z a,.z b,.z c,.int .u64 n],sC cx 4] (aN rest)):=ak
theorem Pv (ni nl nj:Nat) (ln:Int) (ax bx cx:al) (F:World→Prop) (s:ap) (w:Int) (u:Value) (e:Int) (rest:aL) (op a b c n:Int) (K:Pk):(bc prog p5 40 92 ((sp prog 61).drop 9) (aF 92 (lz u e op 4)) (ai (pS ni nl nj ln ax bx cx F s w op a b c n) (aN rest)) (vK pR K))=(
 cond (ad .gtr (↑(mw u)) 0) (ck (iE u 0) <|
 ck (ip F u 1 1) <|
 ck (ag 1 (aG (aH F u 1 1))) <|
 ck (a7 .i64 (af (aH F u 1 1) 0)) <|
 K .ret [.ptr 0 0,.val u,.z e,.ptr 6 0,.ptr 7 0,.any,.any,.ptr 8 0,.agg [.z (fA op),.z (fB op),.z (fC op),.z (fD op)],.z 4] [sN [.slo 1 0 ni 0,.slo 2 0 nl 0,.slo 9 0 nj 0,.z ln],sC ax 5,sC bx 4,sD,some (.obj bG [.fact F] 5),sD,sN [.str s,.z w],sN [.z ln,.z (ar (af (aH F u 1 1) 0)),.z 12],sN [.z op,.z a,.z b,.z c,.int .u64 n],sC cx 4,sN [.z ln,.z (ar (af (aH F u 1 1) 0)),.z 12]] (aN rest)) (ck (ag (aa ni 1) 1000000) <|
 ck (ag (aa 0 (aJ ni 5)) (aG ax)) <|
 ck (bR ni ni) <|
 ck (bR ni ni) <|
 K .ret [.ptr 0 0,.val u,.z e,.ptr 6 0,.ptr 7 0,.any,.any,.ptr 8 0,.agg [.z (fA op),.z (fB op),.z (fC op),.z (fD op)],.z 4] [sN [.slo 11 0 (aa ni 1) 0,.slo 2 0 nl 0,.slo 9 0 nj 0,.z ln],sD,sC bx 4,sD,some (.obj bG [.fact F] 5),sD,sN [.str s,.z w],sN [.z 0,.z 0,.z 0],sN [.z op,.z a,.z b,.z c,.int .u64 n],sC cx 4,sN [.z op,.z a,.z b,.z c,.int .u64 n],sC (bM (bf ax 0 (aJ ni 5)) [.z op,.z a,.z b,.z c,.int .u64 n]) 5] (aN rest))):=ak
theorem As:cT prog (cv p5):=fQ ⟨Tu,Ie,TT,trivial⟩
def kK (i k:Int) (w:Wd) (x:bL):bL:=⟨x.op,cy 0 i k w.1 x.a,cy 1 i k w.1 x.b,cy 2 i k w.1 x.c,cy 3 i k w.1 x.n⟩
def fb (k:Int) (w:Wd) (ni:Nat) (ln:Int) (J:List bq):List bq:=if k=4 then J++[⟨w.1,ni,ln,w.2⟩] else J
theorem AC (k:Int) (w:Wd) (ni:Nat) (ln:Int) (J:List bq):ij (aj a_ J) k w.1 ni ln w.2=aj a_ (fb k w ni ln J)∧iM J.length k=(fb k w ni ln J).length:=by
 unfold ij iM fb;by_cases h:k=4
 ·simp only [h,bD,aw,eR];rw [g9]; exact⟨rfl,aC⟩
 ·simp only [h,fX,aD,dn]; exact⟨trivial,trivial⟩
theorem x_ (k:Int) (w:Wd) (ni:Nat) (ln:Int) (J:List bq):(fb k w ni ln J).length≤J.length+1:=by unfold fb; split <;> simp
def gq (e ln:Int) (ni:Nat):List (Int×Int)→List Wd→bL→List bq→Option Int×List Wd×bL×List bq
 | [],ws,x,J=>(none,ws,x,J)
 | (i,k)::r,ws,x,J=>if k=0 then gq e ln ni r ws x J else match ws with
   | []=>(some e,[],x,J)
   | w::ws'=>if gE k w.1 then gq e ln ni r ws' (kK i k w x) (fb k w ni ln J) else(some w.2,w::ws',kK i k w x,fb k w ni ln J)
theorem u3 {e ln:Int} {ni:Nat} {i k:Int} {r:List (Int×Int)} {ws:List Wd} {x:bL} {J:List bq} (h:k=0):gq e ln ni ((i,k)::r) ws x J=gq e ln ni r ws x J:=by cases ws <;> simp [gq,h]
theorem u5 {e ln:Int} {ni:Nat} {i k:Int} {r:List (Int×Int)} {x:bL} {J:List bq} (h:k≠0):gq e ln ni ((i,k)::r) [] x J=(some e,[],x,J):=by simp [gq,h]
theorem u4 {e ln:Int} {ni:Nat} {i k:Int} {r:List (Int×Int)} {w:Wd} {ws:List Wd} {x:bL} {J:List bq} (h:k≠0):gq e ln ni ((i,k)::r) (w::ws) x J=if gE k w.1=true then gq e ln ni r ws (kK i k w x) (fb k w ni ln J) else(some w.2,w::ws,kK i k w x,fb k w ni ln J):=by simp [gq,h]
abbrev nv (op:Int):List (Int×Int):=[(0,fA op),(1,fB op),(2,fC op),(3,fD op)]
def cL (s:ap) (w:Int) (ws:List Wd) (e ln:Int) (I:List bL) (J:List bq):(Int×Int×Int)×List bL×List bq :=
 if iB s=false then((ln,w,12),I,J)
 else if 40≤I.length then((ln,w,4),I,J)
 else match gq e ln I.length (nv (dV s)) ws ⟨dV s,0,0,0,0⟩ J with
  | (some c,_,_,J')=>((ln,c,12),I,J')
  | (none,[],x,J')=>((0,0,0),I++[x],J')
  | (none,v::_,_,J')=>((ln,v.2,12),I,J')
abbrev dB (z:Int×Int×Int):LV:=.agg [.z z.1,.z z.2.1,.z z.2.2]
abbrev jK (ni nl nj:Nat) (ln:Int) (ax bx cx:al) (F:World→Prop):a9:=[.cells [.slo 6 0 ni 0,.slo 2 0 nl 0,.slo 7 0 nj 0,.z ln] none,.dead,.cells bx (some 4),.dead,.obj bG [.fact F] 5,.dead,.cells ax (some 5),.cells cx (some 4)]
structure FcW (F:World→Prop) (u:Value) (ws:List Wd):Prop where
 w:∃ W,F W
 r:∀ W,F W→a4n W u ws.length (aj lu ws)
theorem FcW.len {F:World→Prop} {u:Value} {ws:List Wd} (h:FcW F u ws):mw u=ws.length:=let ⟨W,hW⟩:=h.w; Wj (h.r W hW)
theorem FcW.rest {F:World→Prop} {u:Value} {w:Wd} {ws:List Wd} (h:FcW F u (w::ws)):mG u 1=true∧FcW F (ci u 2 1) ws:=by
 have k:∀ W,F W→mG u 1=true∧a4n W (ci u 2 1) ws.length (aj lu ws):=fun W hW=>by
  have:=Wk (h.r W hW) (k:=1) (size:=2) aC (by rw [zI]);simpa [aj] using this
 obtain⟨W,hW⟩:=h.w;exact⟨(k W hW).1,h.w,fun W hW=>(k W hW).2⟩
theorem FcW.head {F:World→Prop} {u:Value} {w:Wd} {ws:List Wd} (h:FcW F u (w::ws)):iE u 0=true∧ip F u 0 2=true∧aH F u 0 2=[.str w.1,.z w.2]∧ip F u 1 1=true∧aH F u 1 1=[.z w.2]∧ip F u 0 1=true∧aH F u 0 1=[.str w.1]:=by
 obtain⟨W,hW⟩:=h.w;have a:=AF h.w h.r (DQ _) (k:=0) (m:=2) (by simp [aj]) ab;have b:=AF h.w h.r (DQ _) (k:=1) (m:=1) (by simp [aj]) ab;have c:=AF h.w h.r (DQ _) (k:=0) (m:=1) (by simp [aj]) ab;exact⟨Ky (h.r W hW) aC,a.1,by rw [a.2]; simp [aj],b.1,by rw [b.2]; simp [aj],c.1,by rw [c.2]; simp [aj]⟩
theorem AQ {I:List bL} (h:I.length≤100000):fg I.length (aj bI I)=true:=vQ.2 ⟨I,rfl,rfl,h⟩
theorem pw {I:List bq} (h:I.length≤100000):cr I.length (aj a_ I)=true:=mR.2 ⟨I,rfl,rfl,h⟩
theorem Iu {s:ap} (h:iB s=true):1≤dV s∧dV s≤23:=by
 unfold iB at h; unfold dV;have key:∀ k,0≤fh jO k s∧fh jO k s≤k:=fun k=>by
  induction k with
  | zero=>simp [fh]
  | succ k ih =>
    simp only [fh];cases jO (k+1) == s
    ·simp only [aD]; omega
    ·simp only [aw]; omega
 have:=key 23;simp at h;omega
structure Mk where
 u:Value
 ws:List Wd
 x:bL
 J:List bq
set_option maxHeartbeats 8000000 in
theorem RM (s:ap) (w e:Int) (u:Value) (ws:List Wd) (F:World→Prop) (nl:Nat) (ln:Int) (bx:al) (I:List bL) (J:List bq) (rest:aL) (hf:FcW F u ws) (hw:∀ x∈ws,x.1.length≤100000) (hI:I.length≤99990) (hJ:J.length≤99990) (k2:cr nl bx=true) :
  a0j prog 61 [.ptr 0 0,.agg [.str s,.z w],.val u,.z e] (ai (dT I.length nl J.length ln (aj bI I) bx (aj a_ J)++[.obj bG [.fact F] 5,.dead]) (aN rest)) fun l st=>l=dB (cL s w ws e ln I J).1∧st=ai (jK (cL s w ws e ln I J).2.1.length nl (cL s w ws e ln I J).2.2.length ln (aj bI (cL s w ws e ln I J).2.1) bx (aj a_ (cL s w ws e ln I J).2.2) F) (aN rest):=by
 obtain⟨z,hz⟩:∃ z,z=cL s w ws e ln I J:=⟨_,rfl⟩;rw [← hz];refine a0j.mono (a0j.i4e (Q:=fun l b=>l=dB z.1∧b=jK z.2.1.length nl z.2.2.length ln (aj bI z.2.1) bx (aj a_ z.2.2) F) 92 6 8 77 pR ak rfl rfl rfl ?_) fun l s' ⟨b0,⟨h1,h2⟩,h3⟩=>⟨h1,by rw [h3,h2]⟩
 have nb:=jn k2; have na:=fW I; have nc:=eQ J;have la:=w6 I;have k1:fg I.length (aj bI I)=true:=AQ ab;have ipush:=I7 I;unfold cL at hz;refine SSp.to As (n:=40) (g:=aN rest) 4 4 rfl (σ:={_u:Unit // iB s=true}) (fun _=>[(0,.ptr 0 0),(2,.val u),(3,.z e),(5,.ptr 6 0),(8,.ptr 7 0),(9,.z (dV s))]) (fun _=>dT I.length nl J.length ln (aj bI I) bx (aj a_ J)++[.obj bG [.fact F] 5,.dead,.cells [.str s,.z w] none,.cells [.z 0,.z 0,.z 0] none]) (bh (aS rfl)) ak ?_ fun⟨_,ho⟩=>?_
 ·rw [Ps];cases ho:iB s with
  | true =>
    simp only [show bu true=false from rfl,aD];exact⟨rfl,⟨(),rfl⟩,[.id 0,.id 1,.id 2,.id 3,.id 4,.id 5,.id 6,.id 7],by(exact zC)⟩
  | false =>
    simp only [show bu false=true from rfl,aw];rw [aB ho] at hz;subst hz;exact⟨trivial,rfl,7,_,_,_,dB (ln,w,12),jK I.length nl J.length ln (aj bI I) bx (aj a_ J) F,[.id 0,.id 1,.id 2,.id 3,.id 4,.id 5,.id 1,.id 3],rfl,rfl,ak,⟨rfl,rfl⟩,by(exact zC)⟩
 rw [av (by rw [ho]; simp)] at hz;obtain⟨o1,o2⟩:=Iu ho;refine SSp.to As (n:=40) (g:=aN rest) 4 8 rfl (σ:={_u:Unit // ¬ 40≤I.length}) (fun _=>lz u e (dV s) 0) (fun _=>pS I.length nl J.length ln (aj bI I) bx (aj a_ J) F s w (dV s) 0 0 0 0) (bh (aS rfl)) ak ?_ fun⟨_,h40⟩=>?_
 ·rw [Pt];by_cases h40:40≤I.length
  ·simp only [show ad .geq ((I.length:Nat):Int) 40=true from qn ab,aw];rw [aB h40] at hz;subst hz;exact⟨trivial,rfl,7,_,_,_,dB (ln,w,4),jK I.length nl J.length ln (aj bI I) bx (aj a_ J) F,[.id 0,.id 1,.id 2,.id 3,.id 4,.id 5,.id 1,.id 3],rfl,rfl,ak,⟨rfl,rfl⟩,by(exact zC)⟩
  ·simp only [show ad .geq ((I.length:Nat):Int) 40=false from qk ab,show ad .leq 1 (dV s)=true from dX o1,show ad .leq (dV s) 23=true from dX o2,aw,aD];exact⟨rfl,⟨(),h40⟩,[.id 0,.id 1,.id 2,.id 3,.id 4,.id 5,.id 6,.id 7,.id 8,.id 3],by(exact zC)⟩
 rw [av h40] at hz;obtain⟨RES,hRES⟩:∃ R,R=gq e ln I.length (nv (dV s)) ws ⟨dV s,0,0,0,0⟩ J:=⟨_,rfl⟩;rw [← hRES] at hz;have fin:∀ (c:Int) (w':List Wd) (x:bL) (J':List bq),(some c,w',x,J')=RES→dB (ln,c,12)=dB z.1∧jK I.length nl J'.length ln (aj bI I) bx (aj a_ J') F=jK z.2.1.length nl z.2.2.length ln (aj bI z.2.1) bx (aj a_ z.2.2) F:=fun c w' x J' h=>by
  rw [← h] at hz;subst hz;exact⟨rfl,rfl⟩
 refine SSp.code_to (g:=aN rest) 9 rfl (σ:={S:Mk // FcW F S.u S.ws∧(∀ y∈S.ws,y.1.length≤100000)∧S.J.length≤J.length+4∧(none,S.ws,S.x,S.J)=RES}) (fun S=>lz S.1.u e S.1.x.op 4) (fun S=>pS I.length nl S.1.J.length ln (aj bI I) bx (aj a_ S.1.J) F s w S.1.x.op S.1.x.a S.1.x.b S.1.x.c S.1.x.n) ak ?_ fun⟨⟨u,ws,x,J1⟩,hf,hw,hj,hR⟩=>?_
 ·refine a0n.i3g As (n:=40) (n0:=6) 0 ak (σ:={p:Nat×Mk // p.1≤4∧FcW F p.2.u p.2.ws∧(∀ y∈p.2.ws,y.1.length≤100000)∧p.2.J.length≤J.length+p.1∧gq e ln I.length ((nv p.2.x.op).drop p.1) p.2.ws p.2.x p.2.J=RES}) (fun p=>lz p.1.2.u e p.1.2.x.op p.1.1) (fun p=>pS I.length nl p.1.2.J.length ln (aj bI I) bx (aj a_ p.1.2.J) F s w p.1.2.x.op p.1.2.x.a p.1.2.x.b p.1.2.x.c p.1.2.x.n) (fun p=>4 - p.1.1) (fun _=>aS rfl) (fun⟨⟨i,⟨u,ws,x,J1⟩⟩,hi,hf,hw,hj,hR⟩=>?_) ⟨(0,⟨u,ws,⟨dV s,0,0,0,0⟩,J⟩),bk _,hf,hw,aR _,hRES.symm⟩;dsimp only at hi hf hw hj hR ⊢;have nj:=eQ J1;have k3:cr J1.length (aj a_ J1)=true:=pw ab;have wS:∀ y,aK (.str y)=y:=fun _=>rfl
  have wB:∀ y,cW (.str y)=true:=fun _=>rfl
  have w0:∀ (a b:LV),af [a,b] 0=a:=fun _ _=>rfl
  have w1:∀ (a b:LV),af [a,b] 1=b:=fun _ _=>rfl
  have w2:∀ (a:LV),af [a] 0=a:=fun _=>rfl
  have l2:∀ (a b:LV),aG [a,b]=2:=fun _ _=>rfl
  have l1:∀ (a:LV),aG [a]=1:=fun _=>rfl
  match i,hi with
  | 0,_ =>
    change aX _ _ 40 92 _ (aF 92 (lz u e x.op 0)) _ _;rw [RH];have hM:=hR;change gq e ln I.length ((0,fA x.op)::(nv x.op).drop 1) ws x J1=RES at hM;by_cases h0:fA x.op=0
    ·rw [u3 h0] at hM;simp only [show ad .eql (fA x.op) 0=true from cD h0,aw];exact⟨rfl,⟨(1,⟨u,ws,x,J1⟩),ab,hf,hw,by dsimp only; omega,hM⟩,by dsimp only; omega,[.id 0,.id 1,.id 2,.id 3,.id 4,.id 5,.id 6,.id 7,.id 8,.id 9],by(exact zC)⟩
    simp only [show ad .eql (fA x.op) 0=false from cF h0,aD];cases ws with
    | nil =>
      rw [u5 h0] at hM;have hl:=hf.len;simp only [hl,eU,show ad .eql ((0:Nat):Int) 0=true from cD rfl,aw];obtain⟨q1,q2⟩:=fin _ _ _ _ hM;exact⟨trivial,rfl,7,_,_,_,dB (ln,e,12),jK I.length nl J1.length ln (aj bI I) bx (aj a_ J1) F,[.id 0,.id 1,.id 2,.id 3,.id 4,.id 5,.id 1,.id 9],rfl,rfl,ak,⟨q1,q2⟩,by(exact zC)⟩
    | cons v ws =>
      rw [u4 h0] at hM;have hl:=hf.len;obtain⟨c1,c2,c3,c4,c5,c6,c7⟩:=hf.head;obtain⟨r1,r2⟩:=hf.rest;obtain⟨j1,j2⟩:=AC (fA x.op) v I.length ln J1;have j3:=x_ (fA x.op) v I.length ln J1;have nj2:=eQ (fb (fA x.op) v I.length ln J1);have hv:ag (am v.1) 100000=true:=aO (hw v aC);simp only [hl,c1,c2,c3,c4,c5,r1,k1,k2,k3,hv,wS,wB,w0,w1,w2,l1,l2,cf,cz,bD,show ag 1 1=true from rfl,show ag 2 2=true from rfl,show ad .eql (((v::ws).length:Nat):Int) 0=false from cF ke,j1,j2,aw,aD];cases hb:gE (fA x.op) v.1 with
      | false =>
        rw [hb,av aC] at hM;simp only [show bu false=true from rfl,aw];obtain⟨q1,q2⟩:=fin _ _ _ _ hM;exact⟨trivial,rfl,7,_,_,_,dB (ln,v.2,12),jK I.length nl (fb (fA x.op) v I.length ln J1).length ln (aj bI I) bx (aj a_ (fb (fA x.op) v I.length ln J1)) F,[.id 0,.id 1,.id 2,.id 3,.id 4,.id 5,.id 1,.id 10],rfl,rfl,ak,⟨q1,q2⟩,by(exact zC)⟩
      | true =>
        rw [hb,aB rfl] at hM;simp only [show bu true=false from rfl,aD];exact⟨rfl,⟨(1,⟨ci u 2 1,ws,kK 0 (fA x.op) v x,fb (fA x.op) v I.length ln J1⟩),ab,r2,fun y hy=>hw y (by simp [hy]),by dsimp only; omega,hM⟩,by dsimp only; omega,[.id 0,.id 1,.id 2,.id 3,.id 4,.id 5,.id 6,.id 7,.id 8,.id 10],by(exact zC)⟩
  | 1,_ =>
    change aX _ _ 40 92 _ (aF 92 (lz u e x.op 1)) _ _;rw [RI];have hM:=hR;change gq e ln I.length ((1,fB x.op)::(nv x.op).drop 2) ws x J1=RES at hM;by_cases h0:fB x.op=0
    ·rw [u3 h0] at hM;simp only [show ad .eql (fB x.op) 0=true from cD h0,aw];exact⟨rfl,⟨(2,⟨u,ws,x,J1⟩),ab,hf,hw,by dsimp only; omega,hM⟩,by dsimp only; omega,[.id 0,.id 1,.id 2,.id 3,.id 4,.id 5,.id 6,.id 7,.id 8,.id 9],by(exact zC)⟩
    simp only [show ad .eql (fB x.op) 0=false from cF h0,aD];cases ws with
    | nil =>
      rw [u5 h0] at hM;have hl:=hf.len;simp only [hl,eU,show ad .eql ((0:Nat):Int) 0=true from cD rfl,aw];obtain⟨q1,q2⟩:=fin _ _ _ _ hM;exact⟨trivial,rfl,7,_,_,_,dB (ln,e,12),jK I.length nl J1.length ln (aj bI I) bx (aj a_ J1) F,[.id 0,.id 1,.id 2,.id 3,.id 4,.id 5,.id 1,.id 9],rfl,rfl,ak,⟨q1,q2⟩,by(exact zC)⟩
    | cons v ws =>
      rw [u4 h0] at hM;have hl:=hf.len;obtain⟨c1,c2,c3,c4,c5,c6,c7⟩:=hf.head;obtain⟨r1,r2⟩:=hf.rest;obtain⟨j1,j2⟩:=AC (fB x.op) v I.length ln J1;have j3:=x_ (fB x.op) v I.length ln J1;have nj2:=eQ (fb (fB x.op) v I.length ln J1);have hv:ag (am v.1) 100000=true:=aO (hw v aC);simp only [hl,c1,c2,c3,c4,c5,r1,k1,k2,k3,hv,wS,wB,w0,w1,w2,l1,l2,cf,cz,bD,show ag 1 1=true from rfl,show ag 2 2=true from rfl,show ad .eql (((v::ws).length:Nat):Int) 0=false from cF ke,j1,j2,aw,aD];cases hb:gE (fB x.op) v.1 with
      | false =>
        rw [hb,av aC] at hM;simp only [show bu false=true from rfl,aw];obtain⟨q1,q2⟩:=fin _ _ _ _ hM;exact⟨trivial,rfl,7,_,_,_,dB (ln,v.2,12),jK I.length nl (fb (fB x.op) v I.length ln J1).length ln (aj bI I) bx (aj a_ (fb (fB x.op) v I.length ln J1)) F,[.id 0,.id 1,.id 2,.id 3,.id 4,.id 5,.id 1,.id 10],rfl,rfl,ak,⟨q1,q2⟩,by(exact zC)⟩
      | true =>
        rw [hb,aB rfl] at hM;simp only [show bu true=false from rfl,aD];exact⟨rfl,⟨(2,⟨ci u 2 1,ws,kK 1 (fB x.op) v x,fb (fB x.op) v I.length ln J1⟩),ab,r2,fun y hy=>hw y (by simp [hy]),by dsimp only; omega,hM⟩,by dsimp only; omega,[.id 0,.id 1,.id 2,.id 3,.id 4,.id 5,.id 6,.id 7,.id 8,.id 10],by(exact zC)⟩
  | 2,_ =>
    change aX _ _ 40 92 _ (aF 92 (lz u e x.op 2)) _ _;rw [RJ];have hM:=hR;change gq e ln I.length ((2,fC x.op)::(nv x.op).drop 3) ws x J1=RES at hM;by_cases h0:fC x.op=0
    ·rw [u3 h0] at hM;simp only [show ad .eql (fC x.op) 0=true from cD h0,aw];exact⟨rfl,⟨(3,⟨u,ws,x,J1⟩),ab,hf,hw,by dsimp only; omega,hM⟩,by dsimp only; omega,[.id 0,.id 1,.id 2,.id 3,.id 4,.id 5,.id 6,.id 7,.id 8,.id 9],by(exact zC)⟩
    simp only [show ad .eql (fC x.op) 0=false from cF h0,aD];cases ws with
    | nil =>
      rw [u5 h0] at hM;have hl:=hf.len;simp only [hl,eU,show ad .eql ((0:Nat):Int) 0=true from cD rfl,aw];obtain⟨q1,q2⟩:=fin _ _ _ _ hM;exact⟨trivial,rfl,7,_,_,_,dB (ln,e,12),jK I.length nl J1.length ln (aj bI I) bx (aj a_ J1) F,[.id 0,.id 1,.id 2,.id 3,.id 4,.id 5,.id 1,.id 9],rfl,rfl,ak,⟨q1,q2⟩,by(exact zC)⟩
    | cons v ws =>
      rw [u4 h0] at hM;have hl:=hf.len;obtain⟨c1,c2,c3,c4,c5,c6,c7⟩:=hf.head;obtain⟨r1,r2⟩:=hf.rest;obtain⟨j1,j2⟩:=AC (fC x.op) v I.length ln J1;have j3:=x_ (fC x.op) v I.length ln J1;have nj2:=eQ (fb (fC x.op) v I.length ln J1);have hv:ag (am v.1) 100000=true:=aO (hw v aC);simp only [hl,c1,c2,c3,c4,c5,r1,k1,k2,k3,hv,wS,wB,w0,w1,w2,l1,l2,cf,cz,bD,show ag 1 1=true from rfl,show ag 2 2=true from rfl,show ad .eql (((v::ws).length:Nat):Int) 0=false from cF ke,j1,j2,aw,aD];cases hb:gE (fC x.op) v.1 with
      | false =>
        rw [hb,av aC] at hM;simp only [show bu false=true from rfl,aw];obtain⟨q1,q2⟩:=fin _ _ _ _ hM;exact⟨trivial,rfl,7,_,_,_,dB (ln,v.2,12),jK I.length nl (fb (fC x.op) v I.length ln J1).length ln (aj bI I) bx (aj a_ (fb (fC x.op) v I.length ln J1)) F,[.id 0,.id 1,.id 2,.id 3,.id 4,.id 5,.id 1,.id 10],rfl,rfl,ak,⟨q1,q2⟩,by(exact zC)⟩
      | true =>
        rw [hb,aB rfl] at hM;simp only [show bu true=false from rfl,aD];exact⟨rfl,⟨(3,⟨ci u 2 1,ws,kK 2 (fC x.op) v x,fb (fC x.op) v I.length ln J1⟩),ab,r2,fun y hy=>hw y (by simp [hy]),by dsimp only; omega,hM⟩,by dsimp only; omega,[.id 0,.id 1,.id 2,.id 3,.id 4,.id 5,.id 6,.id 7,.id 8,.id 10],by(exact zC)⟩
  | 3,_ =>
    change aX _ _ 40 92 _ (aF 92 (lz u e x.op 3)) _ _;rw [RK];have hM:=hR;change gq e ln I.length ((3,fD x.op)::(nv x.op).drop 4) ws x J1=RES at hM;by_cases h0:fD x.op=0
    ·rw [u3 h0] at hM;simp only [show ad .eql (fD x.op) 0=true from cD h0,aw];exact⟨rfl,⟨(4,⟨u,ws,x,J1⟩),ab,hf,hw,by dsimp only; omega,hM⟩,by dsimp only; omega,[.id 0,.id 1,.id 2,.id 3,.id 4,.id 5,.id 6,.id 7,.id 8,.id 9],by(exact zC)⟩
    simp only [show ad .eql (fD x.op) 0=false from cF h0,aD];cases ws with
    | nil =>
      rw [u5 h0] at hM;have hl:=hf.len;simp only [hl,eU,show ad .eql ((0:Nat):Int) 0=true from cD rfl,aw];obtain⟨q1,q2⟩:=fin _ _ _ _ hM;exact⟨trivial,rfl,7,_,_,_,dB (ln,e,12),jK I.length nl J1.length ln (aj bI I) bx (aj a_ J1) F,[.id 0,.id 1,.id 2,.id 3,.id 4,.id 5,.id 1,.id 9],rfl,rfl,ak,⟨q1,q2⟩,by(exact zC)⟩
    | cons v ws =>
      rw [u4 h0] at hM;have hl:=hf.len;obtain⟨c1,c2,c3,c4,c5,c6,c7⟩:=hf.head;obtain⟨r1,r2⟩:=hf.rest;obtain⟨j1,j2⟩:=AC (fD x.op) v I.length ln J1;have j3:=x_ (fD x.op) v I.length ln J1;have nj2:=eQ (fb (fD x.op) v I.length ln J1);have hv:ag (am v.1) 100000=true:=aO (hw v aC);simp only [hl,c1,c2,c3,c4,c5,r1,k1,k2,k3,hv,wS,wB,w0,w1,w2,l1,l2,cf,cz,bD,show ag 1 1=true from rfl,show ag 2 2=true from rfl,show ad .eql (((v::ws).length:Nat):Int) 0=false from cF ke,j1,j2,aw,aD];cases hb:gE (fD x.op) v.1 with
      | false =>
        rw [hb,av aC] at hM;simp only [show bu false=true from rfl,aw];obtain⟨q1,q2⟩:=fin _ _ _ _ hM;exact⟨trivial,rfl,7,_,_,_,dB (ln,v.2,12),jK I.length nl (fb (fD x.op) v I.length ln J1).length ln (aj bI I) bx (aj a_ (fb (fD x.op) v I.length ln J1)) F,[.id 0,.id 1,.id 2,.id 3,.id 4,.id 5,.id 1,.id 10],rfl,rfl,ak,⟨q1,q2⟩,by(exact zC)⟩
      | true =>
        rw [hb,aB rfl] at hM;simp only [show bu true=false from rfl,aD];exact⟨rfl,⟨(4,⟨ci u 2 1,ws,kK 3 (fD x.op) v x,fb (fD x.op) v I.length ln J1⟩),ab,r2,fun y hy=>hw y (by simp [hy]),by dsimp only; omega,hM⟩,by dsimp only; omega,[.id 0,.id 1,.id 2,.id 3,.id 4,.id 5,.id 6,.id 7,.id 8,.id 10],by(exact zC)⟩
  | 4,_ =>
    have hM:=hR;change (none,ws,x,J1)=RES at hM;change aX _ _ 40 92 _ (aF 92 (lz u e x.op 4)) _ _;rw [RL];exact⟨rfl,⟨⟨u,ws,x,J1⟩,hf,hw,hj,hM⟩,[.id 0,.id 1,.id 2,.id 3,.id 4,.id 5,.id 6,.id 7,.id 8,.id 9],by(exact zC)⟩
 dsimp only at hf hw hj hR ⊢;have nj:=eQ J1;refine SSp.last As (n:=40) (bh (aS rfl)) ?_;rw [Pv];have l1:∀ (a:LV),aG [a]=1:=fun _=>rfl
 have w2:∀ (a:LV),af [a] 0=a:=fun _=>rfl
 rw [← hR] at hz;cases ws with
 | nil =>
   have hl:=hf.len;simp only [hl,eU,show ad .gtr ((0:Nat):Int) 0=false from ia (Int.le_refl _),show ag (I.length+1) 1000000=true from aO ab,show ag (I.length * 5) (I.length * 5)=true from aO (aR _),show bR I.length I.length=true from n7 rfl,la,bP,cm,b_,bV,aw,aD];have pg:=ipush x.op x.a x.b x.c x.n;have n9:=fW (I++[⟨x.op,x.a,x.b,x.c,x.n⟩]);have l9:(I++[(⟨x.op,x.a,x.b,x.c,x.n⟩:bL)]).length=I.length+1:=aC;subst hz;refine⟨trivial,rfl,7,_,_,dB (0,0,0),dB (0,0,0),jK (I++[(⟨x.op,x.a,x.b,x.c,x.n⟩:bL)]).length nl J1.length ln (aj bI (I++[⟨x.op,x.a,x.b,x.c,x.n⟩])) bx (aj a_ J1) F,[.id 0,.id 1,.id 2,.id 3,.id 4,.id 5,.id 11,.id 9],rfl,rfl,ak,⟨rfl,rfl⟩,?_⟩;rw [l9,← pg];rw [← pg] at n9
   (exact zC)
 | cons v ws =>
   have hl:=hf.len;obtain⟨c1,c2,c3,c4,c5,c6,c7⟩:=hf.head;simp only [hl,c1,c4,c5,l1,w2,cf,cz,bD,show ag 1 1=true from rfl,show ad .gtr (((v::ws).length:Nat):Int) 0=true from iR (by first | (simp; done) | (simp; omega)),aw];subst hz;exact⟨trivial,rfl,7,_,_,_,dB (ln,v.2,12),jK I.length nl J1.length ln (aj bI I) bx (aj a_ J1) F,[.id 0,.id 1,.id 2,.id 3,.id 4,.id 5,.id 1,.id 9],rfl,rfl,ak,⟨rfl,rfl⟩,by(exact zC)⟩
end
end Go.Lev
