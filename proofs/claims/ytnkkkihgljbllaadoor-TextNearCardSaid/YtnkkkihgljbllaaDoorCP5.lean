import Derived.Test.YtnkkkihgljbllaaDoorCK7
/- text: letters: their tree -/
namespace Go.Lev
set_option linter.unusedSimpArgs false
set_option linter.unusedVariables false
open Go.RowKit
open Go.Proofs.Tryd (prog)
set_option maxRecDepth 100000
noncomputable section
def lZ (r:Int):Bool:=(ad .geq r 97 && ad .leq r 122 || ad .geq r 65 && ad .leq r 90) || (ad .geq r 192 && ad .leq r 591 && ad .neq r 215 && ad .neq r 247)
theorem N1 (r:Int) (K:Fk):(fG prog (fun _=>none) 40 76 [.int .i32 r] (ai []) (vF K))=(
 cond (ad .geq r 97) (cond (ad .leq r 122) (K (.b true) [] []) (cond (ad .geq r 65) (cond (ad .leq r 90) (K (.b true) [] []) (cond (ad .geq r 192) (cond (ad .leq r 591) (cond (ad .neq r 215) (K (.b (ad .neq r 247)) [] []) (K (.b false) [] [])) (K (.b false) [] [])) (K (.b false) [] []))) (cond (ad .geq r 192) (cond (ad .leq r 591) (cond (ad .neq r 215) (K (.b (ad .neq r 247)) [] []) (K (.b false) [] [])) (K (.b false) [] [])) (K (.b false) [] [])))) (cond (ad .geq r 65) (cond (ad .leq r 90) (K (.b true) [] []) (cond (ad .geq r 192) (cond (ad .leq r 591) (cond (ad .neq r 215) (K (.b (ad .neq r 247)) [] []) (K (.b false) [] [])) (K (.b false) [] [])) (K (.b false) [] []))) (cond (ad .geq r 192) (cond (ad .leq r 591) (cond (ad .neq r 215) (K (.b (ad .neq r 247)) [] []) (K (.b false) [] [])) (K (.b false) [] [])) (K (.b false) [] [])))):=ak
theorem HA {c:Bool} {A B:Prop} (h1:c=true→A) (h2:c=false→B):cond c A B:=by cases c; exact h2 rfl; exact h1 rfl
theorem Td {x y:Bool} {bs:bE} (h:y=x):gJ 0 1 [0] [.b x] bs [] [(0,.b y)] []:=by subst h; (exact zC)
theorem Rt (r:Int):a0j prog 76 [.int .i32 r] (ai []) fun l s=>l=.b (lZ r)∧s=ai []:=by
 refine a0j.mono (a0j.vc (Q:=fun l b=>l=.b (lZ r)∧b=[]) cJ (n:=40) 0 rfl ?_) fun l s' ⟨b0,⟨h1,h2⟩,h3⟩=>⟨h1,by rw [h3,h2]⟩
 rw [N1]
 repeat' (refine HA (fun _=>?_) (fun _=>?_))
 all_goals (refine⟨rfl,_,[],[],⟨rfl,rfl⟩,Td ?_⟩; simp_all [lZ,bu])
def Cu:Gc:=fun args s=>match args,s.g with
 | [.int .i32 r],[]=>(match s.lay [] [] [] with
   | some s'=>some ([],.b (lZ r),s')
   | none=>none)
 | _,_=>none
theorem Tl:bX prog 76 Cu:=by
 intro args s bs l s' hg hb hfr;unfold Cu at hg;split at hg
 ·rename_i r hgl;split at hg
  ·rename_i s1 hs1;simp only [a8,bn] at hg;obtain⟨rfl,rfl,rfl⟩:=hg;refine a0j.lay (bs:=[]) (args0:=[.int .i32 r]) (bs':=[]) (v0:=.b (lZ r)) hfr hs1 aC
    trivial fv ?_
    fun κ h1 h2=>⟨trivial,ir⟩
   rw [hgl]; exact(Rt r)
  ·cases hg
 ·cases hg
def zo:Cx:=eP [(76,Cu)]
abbrev zb:List Nat:=[2,3,7]
abbrev w8 (k:Int):List (Nat×LV):=[(2,.b false),(3,.z k),(7,.ptr 0 0)]
abbrev wY:List Nat:=[0,1,4,5,6,21,23]
abbrev xp (m n:Int):List (Nat×LV):=[(1,.int .u64 m),(4,.int .u64 0),(5,.b false),(6,.int .u64 n),(23,.ptr 0 0)]
theorem N6 (s:ap) (K:Pk):(bc prog zo 40 34 (bS (sp prog 69) 0 3) (cO [.str s]) (ai [] []) (vK zb K))=(
 K .normal [.b false,.z 0,.ptr 0 0] [some (.iter s 0)] []):=ak
theorem N7 (s:ap) (p:Nat) (k:Int) (K:Pk):(aX prog zo 40 34 (ce (bi (sp prog 69) 3)) (aF 34 (w8 k)) (ai [.iter s p] []) (vK zb K))=(
 cond (ag (aa p 1) (am s)) (cond (bu (lZ (aM s p))) (cond (ad .eql k 0) (K .ret [.b false,.z k,.ptr 0 0] [some (.iter s (aa p (aP s p)))] []) (cond (ad .lss (aM s p) 48) (K .ret [.b false,.z k,.ptr 0 0] [some (.iter s (aa p (aP s p)))] []) (cond (ad .gtr (aM s p) 57) (K .ret [.b false,.z k,.ptr 0 0] [some (.iter s (aa p (aP s p)))] []) (K .normal [.b false,.z (au .add .i64 k 1),.ptr 0 0] [some (.iter s (aa p (aP s p)))] [])))) (K .normal [.b false,.z (au .add .i64 k 1),.ptr 0 0] [some (.iter s (aa p (aP s p)))] [])) (K (.exit 0) [.b false,.z k,.ptr 0 0] [some (.iter s p)] [])):=ak
theorem N8 (s:ap) (p:Nat) (k:Int) (K:Pk):(bc prog zo 40 34 ((sp prog 69).drop 4) (aF 34 (w8 k)) (ai [.iter s p] []) (vK zb K))=(
 cond (ad .geq k 1) (K .ret [.b (ad .leq k 8),.z k,.ptr 0 0] [some (.iter s p)] []) (K .ret [.b false,.z k,.ptr 0 0] [some (.iter s p)] [])):=ak
theorem Nm (s:ap) (m:Int) (K:Pk):(bc prog (fun _=>none) 40 58 (bS (sp prog 83) 0 2) (cO [.str s,.int .u64 m]) (ai [] []) (vK wY K))=(
 cond (bA .eql s []) (K .normal [.str s,.int .u64 m,.int .u64 0,.b false,.tup [],.b true,.tup []] [] []) (cond (ad .gtr (↑(am s)) 1) (ck (ag 1 (am s)) <|
 K .normal [.str s,.int .u64 m,.int .u64 0,.b false,.tup [],.b (ad .eql (bz s 0) 48),.tup []] [] []) (K .normal [.str s,.int .u64 m,.int .u64 0,.b false,.tup [],.b false,.tup []] [] []))):=ak
theorem Nn (s:ap) (m:Int) (q:Bool) (K:Pk):(bc prog (fun _=>none) 40 58 (bS (sp prog 83) 2 3) (aF 58 [(0,.str s),(1,.int .u64 m),(4,.int .u64 0),(5,.b false),(21,.b q)]) (ai [] []) (vK wY K))=(
 cond q (K .ret [.str s,.int .u64 m,.int .u64 0,.b false,.any,.b q,.any] [] []) (K .normal [.str s,.int .u64 m,.int .u64 0,.b false,.int .u64 0,.b q,.ptr 0 0] [some (.iter s 0)] [])):=ak
theorem Np (s:ap) (p:Nat) (m n:Int) (K:Pk):(aX prog (fun _=>none) 40 58 (ce (bi (sp prog 83) 5)) (aF 58 (xp m n)) (ai [.iter s p] []) (vK wY K))=(
 cond (ag (aa p 1) (am s)) (cond (ad .lss (aM s p) 48) (K .ret [.any,.int .u64 m,.int .u64 0,.b false,.int .u64 n,.any,.ptr 0 0] [some (.iter s (aa p (aP s p)))] []) (cond (ad .gtr (aM s p) 57) (K .ret [.any,.int .u64 m,.int .u64 0,.b false,.int .u64 n,.any,.ptr 0 0] [some (.iter s (aa p (aP s p)))] []) (cond (ad .gtr n (au .quo .u64 m 10)) (K .ret [.any,.int .u64 m,.int .u64 0,.b false,.int .u64 n,.any,.ptr 0 0] [some (.iter s (aa p (aP s p)))] []) (cond (ad .gtr (au .mul .u64 n 10) (au .sub .u64 m (ay .u64 (au .sub .i32 (aM s p) 48)))) (K .ret [.any,.int .u64 m,.int .u64 0,.b false,.int .u64 n,.any,.ptr 0 0] [some (.iter s (aa p (aP s p)))] []) (cond (ad .gtr (ay .u64 (au .sub .i32 (aM s p) 48)) m) (K .ret [.any,.int .u64 m,.int .u64 0,.b false,.int .u64 n,.any,.ptr 0 0] [some (.iter s (aa p (aP s p)))] []) (K .normal [.any,.int .u64 m,.int .u64 0,.b false,.int .u64 (au .add .u64 (au .mul .u64 n 10) (ay .u64 (au .sub .i32 (aM s p) 48))),.any,.ptr 0 0] [some (.iter s (aa p (aP s p)))] [])))))) (K (.exit 0) [.any,.int .u64 m,.int .u64 0,.b false,.int .u64 n,.any,.ptr 0 0] [some (.iter s p)] [])):=ak
theorem Nq (s:ap) (p:Nat) (m n:Int) (K:Pk):(bc prog (fun _=>none) 40 58 ((sp prog 83).drop 6) (aF 58 (xp m n)) (ai [.iter s p] []) (vK wY K))=(
 K .ret [.any,.int .u64 m,.int .u64 n,.b true,.int .u64 n,.any,.ptr 0 0] [some (.iter s p)] []):=ak
theorem Ep:cT prog (cv zo):=fQ ⟨Tl,trivial⟩
def oW (s:ap) (p:Nat) (k:Int):Bool :=
 if h:p < s.length then
  if lZ (aM s p)=true then oW s (p+aP s p) (k+1)
  else if k=0 then false
  else if aM s p < 48 then false
  else if 57 < aM s p then false
  else oW s (p+aP s p) (k+1)
 else decide (1≤k) && decide (k≤8)
termination_by s.length - p
decreasing_by all_goals (have:=fF h; omega)
def dW (s:ap):Bool:=oW s 0 0
theorem Rw (s:ap) (hs:s.length≤1000000000):a0j prog 69 [.str s] (ai [] []) fun l st=>l=.b (dW s)∧st=ai [] []:=by
 refine a0j.mono (a0j.i3y (Q:=fun l b=>l=.b (dW s)∧b=[]) 34 0 zb [2] ak rfl rfl rfl ?_) fun l s' ⟨b0,⟨h1,h2⟩,h3⟩=>⟨h1,by rw [h3,h2]⟩
 refine SSp.to Ep (n:=40) (g:=[]) 3 3 rfl (σ:=Unit) (fun _=>w8 0) (fun _=>[.iter s 0]) (bh (bk _)) ak ?_ fun _=>?_
 ·rw [N6]; exact⟨rfl,(),[.id 0],by(exact zC)⟩
 refine SSp.code_to (g:=[]) 4 rfl (σ:={k:Int // (decide (1≤k) && decide (k≤8))=dW s}) (fun k=>w8 k.1) (fun _=>[.iter s s.length]) ak ?_ fun⟨k,hk⟩=>?_
 ·refine a0n.i3g Ep (n:=40) (n0:=0) 0 ak (σ:={x:Nat×Int // x.1≤s.length∧0≤x.2∧x.2≤x.1∧oW s x.1 x.2=dW s}) (fun x=>w8 x.1.2) (fun x=>[.iter s x.1.1]) (fun x=>s.length - x.1.1) (fun _=>bk _) (fun⟨⟨p,k⟩,hp,hk0,hk,hN⟩=>?_) ⟨(0,0),bk _,Int.le_refl _,Int.le_refl _,rfl⟩;dsimp only at hp hk0 hk hN ⊢;rw [N7];have e1:au .add .i64 k 1=k+1:=gb ab ab;rw [oW] at hN;by_cases h:p < s.length
  ·have hw:=fF h;rw [dif_pos h] at hN;have y0:ag (aa p 1) (am s)=true:=aO (show p+1≤s.length by omega);simp only [y0,aw];cases hl:lZ (aM s p) with
   | true =>
     rw [aB hl] at hN;have y1:bu (lZ (aM s p))=false:=by rw [hl]; rfl
     rw [hl] at y1;simp only [y1,e1,aD];exact⟨rfl,⟨(p+aP s p,k+1),hw.2,by dsimp only; omega,by dsimp only; omega,hN⟩,by dsimp only; omega,[.id 0],by(exact zC)⟩
   | false =>
     rw [av (by rw [hl]; simp)] at hN;have y1:bu false=true:=rfl;simp only [y1,e1,aw];by_cases h1:k=0
     ·exact GB
     ·rw [av h1] at hN;simp only [show ad .eql k 0=false from cF h1,aD];by_cases h2:aM s p < 48
      ·exact GA
      ·rw [av h2] at hN;simp only [show ad .lss (aM s p) 48=false from f_ ab,aD];by_cases h3:57 < aM s p
       ·exact Gz
       ·exact Gy
  ·exact Gx
 dsimp only at hk ⊢;refine SSp.last Ep (n:=40) (bh (bk _)) ?_;rw [N8];by_cases h:1≤k
 ·simp only [show ad .geq k 1=true from qn h,aw];refine⟨trivial,rfl,.b (ad .leq k 8),[],[],⟨?_,rfl⟩,by(exact zC)⟩;rw [← hk]
  congr 1
  by_cases h2:k≤8
  ·rw [dX h2]; simp [h,h2]
  ·rw [tn ab]; simp [h2]
 ·exact Gw
def zc:Gc:=fun args s=>match args,s.g with
 | [.str x],[]=>(match s.lay [] [] [] with
   | some s'=>some ([ag (am x) 1000000000],.b (dW x),s')
   | none=>none)
 | _,_=>none
theorem Ir:bX prog 69 zc:=by
 intro args s bs l s' hg hb hfr;unfold zc at hg;split at hg
 ·rename_i x hgl;split at hg
  ·rename_i s1 hs1;simp only [a8,bn] at hg;obtain⟨rfl,rfl,rfl⟩:=hg;simp only [bv] at hb;obtain⟨k1,_⟩:=hb;refine a0j.lay (bs:=[]) (args0:=[.str x]) (bs':=[]) (v0:=.b (dW x)) hfr hs1 aC
    trivial fv ?_
    fun κ h1 h2=>⟨trivial,ir⟩
   rw [hgl]; exact(Rw x (show x.length≤1000000000 from eC.1 k1))
  ·cases hg
 ·cases hg
def ti (s:ap) (p:Nat):Int:=ay .u64 (au .sub .i32 (aM s p) 48)
def jP (s:ap) (m:Int) (p:Nat) (n:Int):Option Int :=
 if h:p < s.length then
  if aM s p < 48 then none
  else if 57 < aM s p then none
  else if au .quo .u64 m 10 < n then none
  else if au .sub .u64 m (ti s p) < au .mul .u64 n 10 then none
  else if m < ti s p then none
  else jP s m (p+aP s p) (au .add .u64 (au .mul .u64 n 10) (ti s p))
 else some n
termination_by s.length - p
decreasing_by all_goals (have:=fF h; omega)
def kn (s:ap):Bool:=bA .eql s [] || (decide (1 < s.length) && ad .eql (bz s 0) 48)
def iC (s:ap) (m:Int):Option Int:=if kn s=true then none else jP s m 0 0
def dL (s:ap) (m:Int):Int:=(iC s m).getD 0
def c_ (s:ap) (m:Int):Bool:=(iC s m).isSome
theorem Qc (s:ap) (m:Int):a0j prog 83 [.str s,.int .u64 m] (ai [] []) fun l st=>l=.tup [.int .u64 (dL s m),.b (c_ s m)]∧st=ai [] []:=by
 refine a0j.mono (a0j.i3y (Q:=fun l b=>l=.tup [.int .u64 (dL s m),.b (c_ s m)]∧b=[]) 58 0 wY [4,5] ak rfl rfl rfl ?_) fun l s' ⟨b0,⟨h1,h2⟩,h3⟩=>⟨h1,by rw [h3,h2]⟩
 refine SSp.to cJ (n:=40) (g:=[]) 2 2 rfl (σ:=Unit) (fun _=>[(0,.str s),(1,.int .u64 m),(4,.int .u64 0),(5,.b false),(21,.b (kn s))]) (fun _=>[]) (bh (bk _)) ak ?_ fun _=>?_
 ·rw [Nm];cases h0:bA .eql s [] with
  | true=>simp only [kn,h0,Bool.true_or,aw]; exact⟨rfl,(),[],by(exact zC)⟩
  | false =>
    simp only [kn,h0,mp,aD];by_cases h1:1 < s.length
    ·simp only [show ad .gtr ((am s:Nat):Int) 1=true from iR (show(1:Int) < ((s.length:Nat):Int) by omega),show ag 1 (am s)=true from aO (show 1≤s.length by omega),aw,h1,bD,li];exact⟨rfl,(),[],by(exact zC)⟩
    ·simp only [show ad .gtr ((am s:Nat):Int) 1=false from ia (show((s.length:Nat):Int)≤(1:Int) by omega),aD,h1,fX,Bool.false_and];exact⟨rfl,(),[],by(exact zC)⟩
 refine SSp.to cJ (n:=40) (g:=[]) 3 5 rfl (σ:={_u:Unit // kn s=false}) (fun _=>xp m 0) (fun _=>[.iter s 0]) (bh (bk _)) ak ?_ fun⟨_,hq⟩=>?_
 ·rw [Nn];cases hq:kn s with
  | true =>
    simp only [aw];refine⟨trivial,rfl,.tup [.int .u64 0,.b false],[],[],⟨?_,rfl⟩,by(exact zC)⟩;simp [dL,c_,iC,hq]
  | false =>
    simp only [aD];exact⟨rfl,⟨(),rfl⟩,[.id 0],by(exact zC)⟩
 refine SSp.code_to (g:=[]) 6 rfl (σ:={n:Int // some n=iC s m}) (fun n=>xp m n.1) (fun _=>[.iter s s.length]) ak ?_ fun⟨n,hn⟩=>?_
 ·refine a0n.i3g cJ (n:=40) (n0:=0) 0 ak (σ:={x:Nat×Int // x.1≤s.length∧jP s m x.1 x.2=iC s m}) (fun x=>xp m x.1.2) (fun x=>[.iter s x.1.1]) (fun x=>s.length - x.1.1) (fun _=>bk _) (fun⟨⟨p,n⟩,hp,hN⟩=>?_) ⟨(0,0),bk _,by simp [iC,hq]⟩;dsimp only at hp hN ⊢;rw [Np];rw [jP] at hN;by_cases h:p < s.length
  ·have hw:=fF h;rw [dif_pos h] at hN;have y0:ag (aa p 1) (am s)=true:=aO (show p+1≤s.length by omega);simp only [y0,aw];have bad:none=iC s m→(LV.tup [.int .u64 0,.b false])=.tup [.int .u64 (dL s m),.b (c_ s m)]:=fun e=>by simp [dL,c_,← e]
   by_cases h1:aM s p < 48
   ·rw [aB h1] at hN;simp only [show ad .lss (aM s p) 48=true from ga h1,aw];exact⟨trivial,rfl,.tup [.int .u64 0,.b false],[],[],⟨bad hN,rfl⟩,by(exact zC)⟩
   rw [av h1] at hN;simp only [show ad .lss (aM s p) 48=false from f_ ab,aD];by_cases h2:57 < aM s p
   ·rw [aB h2] at hN;simp only [show ad .gtr (aM s p) 57=true from iR h2,aw];exact⟨trivial,rfl,.tup [.int .u64 0,.b false],[],[],⟨bad hN,rfl⟩,by(exact zC)⟩
   rw [av h2] at hN;simp only [show ad .gtr (aM s p) 57=false from ia ab,aD];by_cases h3:au .quo .u64 m 10 < n
   ·rw [aB h3] at hN;simp only [show ad .gtr n (au .quo .u64 m 10)=true from iR h3,aw];exact⟨trivial,rfl,.tup [.int .u64 0,.b false],[],[],⟨bad hN,rfl⟩,by(exact zC)⟩
   rw [av h3] at hN;simp only [show ad .gtr n (au .quo .u64 m 10)=false from ia ab,aD];by_cases h4:au .sub .u64 m (ti s p) < au .mul .u64 n 10
   ·rw [aB h4] at hN;simp only [show ad .gtr (au .mul .u64 n 10) (au .sub .u64 m (ay .u64 (au .sub .i32 (aM s p) 48)))=true from iR h4,aw];exact⟨trivial,rfl,.tup [.int .u64 0,.b false],[],[],⟨bad hN,rfl⟩,by(exact zC)⟩
   rw [av h4] at hN;simp only [show ad .gtr (au .mul .u64 n 10) (au .sub .u64 m (ay .u64 (au .sub .i32 (aM s p) 48)))=false from ia (Int.not_lt.1 h4),aD];by_cases h5:m < ti s p
   ·rw [aB h5] at hN;simp only [show ad .gtr (ay .u64 (au .sub .i32 (aM s p) 48)) m=true from iR h5,aw];exact⟨trivial,rfl,.tup [.int .u64 0,.b false],[],[],⟨bad hN,rfl⟩,by(exact zC)⟩
   rw [av h5] at hN;simp only [show ad .gtr (ay .u64 (au .sub .i32 (aM s p) 48)) m=false from ia (Int.not_lt.1 h5),aD];exact⟨rfl,⟨(p+aP s p,_),hw.2,hN⟩,by dsimp only; omega,[.id 0],by(exact zC)⟩
  ·rw [dif_neg h] at hN;have y0:ag (aa p 1) (am s)=false:=uS (show s.length < p+1 by omega);simp only [y0,aD];have hM:=hN;obtain rfl:p=s.length:=ab;exact⟨rfl,⟨n,hM⟩,[.id 0],by(exact zC)⟩
 dsimp only at hn ⊢;refine SSp.last cJ (n:=40) (bh (bk _)) ?_;rw [Nq];refine⟨trivial,rfl,.tup [.int .u64 n,.b true],[],[],⟨?_,rfl⟩,by(exact zC)⟩;simp [dL,c_,← hn]
def DL:Gc:=fun args s=>match args,s.g with
 | [.str x,.int .u64 m],[]=>(match s.lay [] [] [] with
   | some s'=>some ([],.tup [.int .u64 (dL x m),.b (c_ x m)],s')
   | none=>none)
 | _,_=>none
theorem SJ:bX prog 83 DL:=by
 intro args s bs l s' hg hb hfr;unfold DL at hg;split at hg
 ·rename_i x m hgl;split at hg
  ·rename_i s1 hs1;simp only [a8,bn] at hg;obtain⟨rfl,rfl,rfl⟩:=hg;refine a0j.lay (bs:=[]) (args0:=[.str x,.int .u64 m]) (bs':=[]) (v0:=.tup [.int .u64 (dL x m),.b (c_ x m)]) hfr hs1 aC
    trivial fv ?_
    fun κ h1 h2=>⟨trivial,cY rfl⟩
   rw [hgl]; exact(Qc x m)
  ·cases hg
 ·cases hg
def gu (k:Int):Int:=if k=1 then 7 else if k=2 then 6 else if k=3 then 15 else if k=4 then 40 else if k=5 then 7 else if k=6 then 12 else 0
theorem N3 (k:Int) (K:Fk):(fG prog (fun _=>none) 40 64 [.z k] (ai []) (vF K))=(
 cond (ad .eql k 1) (K (.z 7) [] []) (cond (ad .eql k 2) (K (.z 6) [] []) (cond (ad .eql k 3) (K (.z 15) [] []) (cond (ad .eql k 4) (K (.z 40) [] []) (cond (ad .eql k 5) (K (.z 7) [] []) (cond (ad .eql k 6) (K (.z 12) [] []) (K (.z 0) [] []))))))):=ak
theorem Te {x y:Int} {bs:bE} (h:y=x):gJ 0 1 [0] [.z x] bs [] [(0,.z y)] []:=by subst h; (exact zC)
theorem Ru (k:Int):a0j prog 64 [.z k] (ai []) fun l s=>l=.z (gu k)∧s=ai []:=by
 refine a0j.mono (a0j.vc (Q:=fun l b=>l=.z (gu k)∧b=[]) cJ (n:=40) 0 rfl ?_) fun l s' ⟨b0,⟨h1,h2⟩,h3⟩=>⟨h1,by rw [h3,h2]⟩
 rw [N3]
 repeat' (refine HA (fun _=>?_) (fun _=>?_))
 all_goals (refine⟨rfl,_,[],[],⟨rfl,rfl⟩,Te ?_⟩; simp_all [gu,lQ])
def Ct:Gc:=fun args s=>match args,s.g with
 | [.int .i64 k],[]=>(match s.lay [] [] [] with
   | some s'=>some ([],.z (gu k),s')
   | none=>none)
 | _,_=>none
theorem To:bX prog 64 Ct:=by
 intro args s bs l s' hg hb hfr;unfold Ct at hg;split at hg
 ·rename_i k hgl;split at hg
  ·rename_i s1 hs1;simp only [a8,bn] at hg;obtain⟨rfl,rfl,rfl⟩:=hg;refine a0j.lay (bs:=[]) (args0:=[.z k]) (bs':=[]) (v0:=.z (gu k)) hfr hs1 aC
    trivial fv ?_
    fun κ h1 h2=>⟨trivial,cH⟩
   rw [hgl]; exact(Ru k)
  ·cases hg
 ·cases hg
def Hb:Cx:=eP [(64,jm Ct),(84,Ef),(83,jm DL)]
theorem U0:cT prog (cv Hb):=fQ ⟨ju To,WL,ju SJ,trivial⟩
theorem PE (k:Int) (s:ap) (rest:aL) (K:Fk):(fG prog Hb 40 77 [.z k,.str s] (ai [] (aN rest)) (vF K))=(
 cond (ad .eql k 1) (cond (ad .eql k 1) (cond (ad .lss (↑(am s)) 1) (K (.tup [.int .u64 0,.b false]) [] (aN rest)) (ck (ag 1 (am s)) <|
 cond (ad .neq (bz s 0) 114) (K (.tup [.int .u64 0,.b false]) [] (aN rest)) (ck (ag 1 (am s)) <|
 ck (ag (am s) (am s)) <|
 K (.tup [.int .u64 (dL (aY s 1 (am s)) (ay .u64 (gu k))),.b (c_ (aY s 1 (am s)) (ay .u64 (gu k)))]) [] (aN rest)))) (cond (ad .eql k 6) (K (.tup [.int .u64 (ay .u64 (sH s)),.b (mz s)]) [] (aN rest)) (cond (ad .eql k 7) (K (.tup [.int .u64 (dL s 18446744073709551615),.b (c_ s 18446744073709551615)]) [] (aN rest)) (K (.tup [.int .u64 (dL s (ay .u64 (gu k))),.b (c_ s (ay .u64 (gu k)))]) [] (aN rest))))) (cond (ad .eql k 2) (cond (ad .lss (↑(am s)) 1) (K (.tup [.int .u64 0,.b false]) [] (aN rest)) (ck (ag 1 (am s)) <|
 cond (ad .neq (bz s 0) 114) (K (.tup [.int .u64 0,.b false]) [] (aN rest)) (ck (ag 1 (am s)) <|
 ck (ag (am s) (am s)) <|
 K (.tup [.int .u64 (dL (aY s 1 (am s)) (ay .u64 (gu k))),.b (c_ (aY s 1 (am s)) (ay .u64 (gu k)))]) [] (aN rest)))) (cond (ad .eql k 6) (K (.tup [.int .u64 (ay .u64 (sH s)),.b (mz s)]) [] (aN rest)) (cond (ad .eql k 7) (K (.tup [.int .u64 (dL s 18446744073709551615),.b (c_ s 18446744073709551615)]) [] (aN rest)) (K (.tup [.int .u64 (dL s (ay .u64 (gu k))),.b (c_ s (ay .u64 (gu k)))]) [] (aN rest)))))):=ak
def kf (k:Int) (s:ap):Int×Bool :=
 if k=1∨k=2 then
  if s.length < 1 then(0,false)
  else if bz s 0≠114 then(0,false)
  else(dL (aY s 1 s.length) (ay .u64 (gu k)),c_ (aY s 1 s.length) (ay .u64 (gu k)))
 else if k=6 then(ay .u64 (sH s),mz s)
 else if k=7 then(dL s 18446744073709551615,c_ s 18446744073709551615)
 else(dL s (ay .u64 (gu k)),c_ s (ay .u64 (gu k)))
def f7 (k:Int) (s:ap):Int:=(kf k s).1
def dP (k:Int) (s:ap):Bool:=(kf k s).2
theorem qq {x y:Int} {p q:Bool} {bs:bE} (h:y=x) (h2:q=p):gJ 0 1 [0] [.tup [.int .u64 x,.b p]] bs [] [(0,.tup [.int .u64 y,.b q])] []:=by subst h h2; (exact zC)
theorem RT (k:Int) (s:ap) (rest:aL):a0j prog 77 [.z k,.str s] (ai [] (aN rest)) fun l st=>l=.tup [.int .u64 (f7 k s),.b (dP k s)]∧st=ai [] (aN rest):=by
 refine a0j.mono (a0j.vc (Q:=fun l b=>l=.tup [.int .u64 (f7 k s),.b (dP k s)]∧b=[]) U0 (n:=40) 0 rfl ?_) fun l s' ⟨b0,⟨h1,h2⟩,h3⟩=>⟨h1,by rw [h3,h2]⟩
 rw [PE];have z2:ag (am s) (am s)=true:=aO (aR _);by_cases k1:k=1
 ·simp only [show ad .eql k 1=true from cD k1,aw];by_cases h1:s.length < 1
  ·simp only [show ad .lss ((am s:Nat):Int) 1=true from ga (show((s.length:Nat):Int) < 1 by omega),aw];refine⟨rfl,_,[],[],⟨rfl,rfl⟩,qq ?_ ?_⟩ <;> simp [f7,dP,kf,k1,h1]
  simp only [show ad .lss ((am s:Nat):Int) 1=false from f_ (show(1:Int)≤((s.length:Nat):Int) by omega),show ag 1 (am s)=true from aO (show 1≤s.length by omega),z2,aw,aD];by_cases h2:bz s 0=114
  ·simp only [show ad .neq (bz s 0) 114=false from lN h2,aD];refine⟨rfl,_,[],[],⟨rfl,rfl⟩,qq ?_ ?_⟩ <;> simp [f7,dP,kf,k1,h1,h2,am]
  ·simp only [show ad .neq (bz s 0) 114=true from kA h2,aw];refine⟨rfl,_,[],[],⟨rfl,rfl⟩,qq ?_ ?_⟩ <;> simp [f7,dP,kf,k1,h1,h2]
 simp only [show ad .eql k 1=false from cF k1,aD];by_cases k2:k=2
 ·simp only [show ad .eql k 2=true from cD k2,aw];by_cases h1:s.length < 1
  ·simp only [show ad .lss ((am s:Nat):Int) 1=true from ga (show((s.length:Nat):Int) < 1 by omega),aw];refine⟨rfl,_,[],[],⟨rfl,rfl⟩,qq ?_ ?_⟩ <;> simp [f7,dP,kf,k2,h1]
  simp only [show ad .lss ((am s:Nat):Int) 1=false from f_ (show(1:Int)≤((s.length:Nat):Int) by omega),show ag 1 (am s)=true from aO (show 1≤s.length by omega),z2,aw,aD];by_cases h2:bz s 0=114
  ·simp only [show ad .neq (bz s 0) 114=false from lN h2,aD];refine⟨rfl,_,[],[],⟨rfl,rfl⟩,qq ?_ ?_⟩ <;> simp [f7,dP,kf,k2,h1,h2,am]
  ·simp only [show ad .neq (bz s 0) 114=true from kA h2,aw];refine⟨rfl,_,[],[],⟨rfl,rfl⟩,qq ?_ ?_⟩ <;> simp [f7,dP,kf,k2,h1,h2]
 simp only [show ad .eql k 2=false from cF k2,aD];by_cases k6:k=6
 ·simp only [show ad .eql k 6=true from cD k6,aw];refine⟨rfl,_,[],[],⟨rfl,rfl⟩,qq ?_ ?_⟩ <;> simp [f7,dP,kf,k6]
 simp only [show ad .eql k 6=false from cF k6,aD];by_cases k7:k=7
 ·simp only [show ad .eql k 7=true from cD k7,aw];refine⟨rfl,_,[],[],⟨rfl,rfl⟩,qq ?_ ?_⟩ <;> simp [f7,dP,kf,k7]
 simp only [show ad .eql k 7=false from cF k7,aD];refine⟨rfl,_,[],[],⟨rfl,rfl⟩,qq ?_ ?_⟩ <;> simp [f7,dP,kf,k1,k2,k6,k7]
def B5:Gc:=fun args s=>match args,s.g with
 | [.int .i64 k,.str x],(g0,F0)::(g1,F1)::rest=>cond (Nat.beq g0 0 && aU F0 cj && (Nat.beq g1 2 && aU F1 cK)) (match s.lay [] [] [] with
   | some s'=>some ([],.tup [.int .u64 (f7 k x),.b (dP k x)],s')
   | none=>none) none
 | _,_=>none
theorem T1:bX prog 77 B5:=by
 intro args s bs l s' hg hb hfr;unfold B5 at hg;split at hg
 ·rename_i k x g0 F0 g1 F1 rest hgl;cases hc:(Nat.beq g0 0 && aU F0 cj && (Nat.beq g1 2 && aU F1 cK)) with
  | false=>exact eZ
  | true =>
    rw [hc] at hg;simp only [aw] at hg;rw [bg] at hc;replace hgl:s.g=aN rest:=by(have c1:=ig.1 hc.1; have c2:=ig.1 hc.2; rw [hgl,bt c1.1,bQ c1.2,bt c2.1,bQ c2.2] <;> rfl)
    split at hg
    ·rename_i s1 hs1;simp only [a8,bn] at hg;obtain⟨rfl,rfl,rfl⟩:=hg;refine a0j.lay (bs:=[]) (args0:=[.z k,.str x]) (bs':=[]) (v0:=.tup [.int .u64 (f7 k x),.b (dP k x)]) hfr hs1 aC
      trivial fv ?_
      fun κ h1 h2=>⟨trivial,cY rfl⟩
     rw [hgl]; exact(RT k x rest)
    ·cases hg
 ·cases hg
structure bq where
 nm:ap
 pl:Int
 ln:Int
 cl:Int
abbrev a_ (x:bq):al:=[.str x.nm,.z x.pl,.z x.ln,.z x.cl]
structure bL where
 op:Int
 a:Int
 b:Int
 c:Int
 n:Int
abbrev bI (x:bL):al:=[.z x.op,.z x.a,.z x.b,.z x.c,.int .u64 x.n]
theorem xZ (x:bq):(a_ x).length=4:=rfl
theorem I6 (x:bL):(bI x).length=5:=rfl
theorem zu (xs:List bq):(aj a_ xs).length=xs.length * 4:=iW xZ xs
theorem w6 (xs:List bL):(aj bI xs).length=xs.length * 5:=iW I6 xs
theorem eQ (xs:List bq):a1u (aj a_ xs)=true:=iu (fun _=>rfl) xs
theorem fW (xs:List bL):a1u (aj bI xs)=true:=iu (fun _=>rfl) xs
theorem Hl {xs:List bq} {i:Nat} (h:i < xs.length):af (aj a_ xs) (i * 4)=.str xs[i].nm:=gc xZ (j:=0) h ab
theorem Hm {xs:List bq} {i:Nat} (h:i < xs.length):af (aj a_ xs) (i * 4+1)=.z xs[i].pl:=gc xZ (j:=1) h ab
theorem Hn {xs:List bq} {i:Nat} (h:i < xs.length):af (aj a_ xs) (i * 4+2)=.z xs[i].ln:=gc xZ (j:=2) h ab
theorem Ho {xs:List bq} {i:Nat} (h:i < xs.length):af (aj a_ xs) (i * 4+3)=.z xs[i].cl:=gc xZ (j:=3) h ab
theorem I7 (xs:List bL) (op a b c n:Int):bM (bf (aj bI xs) 0 (xs.length * 5)) [.z op,.z a,.z b,.z c,.int .u64 n]=aj bI (xs++[⟨op,a,b,c,n⟩]):=by
 rw [j0 (by rw [w6]; omega),g9]; rfl
def iQ:al→List bq
 | .str a::.int _ b::.int _ c::.int _ d::r=>⟨a,b,c,d⟩::iQ r
 | _=>[]
theorem me:∀ xs,iQ (aj a_ xs)=xs
 | []=>rfl
 | x::r=>by simp [aj,a_,iQ,me r]
def nM:al→List bL
 | .int _ a::.int _ b::.int _ c::.int _ d::.int _ e::r=>⟨a,b,c,d,e⟩::nM r
 | _=>[]
theorem qv:∀ xs,nM (aj bI xs)=xs
 | []=>rfl
 | x::r=>by simp [aj,bI,nM,qv r]
def cr (n:Nat) (c:al):Bool:=@decide (∃ L,c=aj a_ L∧L.length=n∧n≤100000) (Classical.propDecidable _)
def fg (n:Nat) (c:al):Bool:=@decide (∃ L,c=aj bI L∧L.length=n∧n≤100000) (Classical.propDecidable _)
theorem mR {n:Nat} {c:al}:cr n c=true↔∃ L,c=aj a_ L∧L.length=n∧n≤100000:=by simp only [cr,cu]
theorem vQ {n:Nat} {c:al}:fg n c=true↔∃ L,c=aj bI L∧L.length=n∧n≤100000:=by simp only [fg,cu]
theorem jn {n:Nat} {c:al} (h:cr n c=true):a1u c=true:=by obtain⟨L,rfl,_⟩:=mR.1 h; exact eQ L
theorem qy {n:Nat} {c:al} (h:fg n c=true):a1u c=true:=by obtain⟨L,rfl,_⟩:=vQ.1 h; exact fW L
def eY (L:List bq) (s:ap):Option Int:=match L with
 | []=>none
 | x::r=>if x.nm == s then some x.pl else eY r s
def sV (bx:al) (s:ap):Int:=(eY (iQ bx) s).getD 0
def nS (bx:al) (s:ap):Bool:=(eY (iQ bx) s).isSome
abbrev dT (ni nl nj:Nat) (ln:Int) (ax bx cx:al):a9:=[.cells [.slo 1 0 ni 0,.slo 2 0 nl 0,.slo 3 0 nj 0,.z ln] none,.cells ax (some 5),.cells bx (some 4),.cells cx (some 4)]
abbrev zq:List Nat:=[1,4,5,11,12,13]
abbrev wZ (s:ap) (nl i:Nat):List (Nat×LV):=[(1,.str s),(4,.z 0),(5,.b false),(11,.slo 2 0 nl 0),(12,.z nl),(13,.z i)]
theorem QR (s:ap) (ni nl nj:Nat) (ln:Int) (ax bx cx:al) (g:aL) (K:Pk):(bc prog (fun _=>none) 40 24 (bS (sp prog 62) 0 2) (cO [.ptr 0 0,.str s]) (ai (dT ni nl nj ln ax bx cx) g) (vK zq K))=(
 K .normal [.str s,.z 0,.b false,.slo 2 0 nl 0,.z ↑nl,.z 0] [sN [.slo 1 0 ni 0,.slo 2 0 nl 0,.slo 3 0 nj 0,.z ln],sC ax 5,sC bx 4,sC cx 4] g):=ak
abbrev E8 (ni:Nat) (nl:Nat) (nj:Nat) (i:Nat) (ln:Int) (ax:al) (bx:al) (cx:al):bE:=[sN [.slo 1 0 ni 0,.slo 2 0 nl 0,.slo 3 0 nj 0,.z ln],sC ax 5,sC bx 4,sC cx 4,sN [.str (aK (af bx (ah 0 (ae ↑i) 4))),.z (ar (af bx (aa (ah 0 (ae ↑i) 4) 1))),.z (ar (af bx (aa (aa (ah 0 (ae ↑i) 4) 1) 1))),.z (ar (af bx (aa (aa (aa (ah 0 (ae ↑i) 4) 1) 1) 1)))]]
theorem QT (s:ap) (ni nl nj i:Nat) (ln:Int) (ax bx cx:al) (g:aL) (K:Pk):(aX prog (fun _=>none) 40 24 (ce (bi (sp prog 62) 2)) (aF 24 (wZ s nl i)) (ai (dT ni nl nj ln ax bx cx) g) (vK zq K))=(
 cond (ad .lss ↑i ↑nl) (ck (ag (aa (ae ↑i) 1) nl) <|
 ck (ag (aa (ah 0 (ae ↑i) 4) 4) (aG bx)) <|
 ck (cW (af bx (ah 0 (ae ↑i) 4))) <|
 ck (a7 .i64 (af bx (aa (ah 0 (ae ↑i) 4) 1))) <|
 ck (a7 .i64 (af bx (aa (aa (ah 0 (ae ↑i) 4) 1) 1))) <|
 ck (a7 .i64 (af bx (aa (aa (aa (ah 0 (ae ↑i) 4) 1) 1) 1))) <|
 cond (bA .eql (aK (af bx (ah 0 (ae ↑i) 4))) s) (K .ret [.str s,.z (ar (af bx (aa (ah 0 (ae ↑i) 4) 1))),.b true,.slo 2 0 nl 0,.z ↑nl,.z ↑i] (E8 ni nl nj i ln ax bx cx) g) (K .normal [.str s,.z 0,.b false,.slo 2 0 nl 0,.z ↑nl,.z (au .add .i64 (↑i) 1)] (E8 ni nl nj i ln ax bx cx) g)) (K (.exit 0) [.str s,.z 0,.b false,.slo 2 0 nl 0,.z ↑nl,.z ↑i] [sN [.slo 1 0 ni 0,.slo 2 0 nl 0,.slo 3 0 nj 0,.z ln],sC ax 5,sC bx 4,sC cx 4] g)):=ak
theorem QU (s:ap) (ni nl nj i:Nat) (ln:Int) (ax bx cx:al) (g:aL) (K:Pk):(bc prog (fun _=>none) 40 24 ((sp prog 62).drop 3) (aF 24 (wZ s nl i)) (ai (dT ni nl nj ln ax bx cx) g) (vK zq K))=(
 K .ret [.str s,.z 0,.b false,.slo 2 0 nl 0,.z ↑nl,.z ↑i] [sN [.slo 1 0 ni 0,.slo 2 0 nl 0,.slo 3 0 nj 0,.z ln],sC ax 5,sC bx 4,sC cx 4] g):=ak
theorem Wt {L:List bq} {s:ap} {i:Nat} (h:i < L.length):eY (L.drop i) s=if L[i].nm == s then some L[i].pl else eY (L.drop (i+1)) s:=by
 rw [jG h]; rfl
theorem SX (s:ap) (L:List bq) (ni nj:Nat) (ln:Int) (ax cx:al) (g:aL) (hL:L.length≤100000) (na:a1u ax=true) (nc:a1u cx=true) :
  a0j prog 62 [.ptr 0 0,.str s] (ai (dT ni L.length nj ln ax (aj a_ L) cx) g) fun l st=>l=.tup [.z ((eY L s).getD 0),.b (eY L s).isSome]∧st=ai (dT ni L.length nj ln ax (aj a_ L) cx) g:=by
 refine a0j.mono (a0j.i3y (Q:=fun l b=>l=.tup [.z ((eY L s).getD 0),.b (eY L s).isSome]∧b=dT ni L.length nj ln ax (aj a_ L) cx) 24 4 zq [4,5] ak rfl rfl rfl ?_) fun l s' ⟨b0,⟨h1,h2⟩,h3⟩=>⟨h1,by rw [h3,h2]⟩
 have nm:=eQ L; have lm:=zu L;have g0:=fun {i:Nat} (h:i < L.length)=>Hl h
 have g1:=fun {i:Nat} (h:i < L.length)=>Hm h
 have g2:=fun {i:Nat} (h:i < L.length)=>Hn h
 have g3:=fun {i:Nat} (h:i < L.length)=>Ho h
 generalize aj a_ L=bx at *;refine SSp.to cJ (n:=40) (g:=g) 2 2 rfl (σ:=Unit) (fun _=>wZ s L.length 0) (fun _=>dT ni L.length nj ln ax bx cx) (bh (aS rfl)) ak ?_ fun _=>?_
 ·rw [QR]; exact⟨rfl,(),[.id 0,.id 1,.id 2,.id 3],by(exact zC)⟩
 refine SSp.code_to (g:=g) 3 rfl (σ:={_u:Unit // eY L s=none}) (fun _=>wZ s L.length L.length) (fun _=>dT ni L.length nj ln ax bx cx) ak ?_ fun⟨_,hN⟩=>?_
 ·refine a0n.i3g cJ (n:=40) (n0:=4) 0 ak (σ:={i:Nat // i≤L.length∧eY (L.drop i) s=eY L s}) (fun i=>wZ s L.length i.1) (fun _=>dT ni L.length nj ln ax bx cx) (fun i=>L.length - i.1) (fun _=>aS rfl) (fun⟨i,hi,hN⟩=>?_) ⟨0,bk _,rfl⟩;dsimp only at hi hN ⊢;rw [QT]; simp only [E8];by_cases h:i < L.length
  ·have wS:∀ x,aK (.str x)=x:=fun _=>rfl
   have wB:∀ x,cW (.str x)=true:=fun _=>rfl
   have v0:=g0 h; have v1:=g1 h; have v2:=g2 h; have v3:=g3 h;have hM:=hN;rw [Wt h] at hM;have x0:ag (i+1) L.length=true:=aO ab;have x1:ag (i * 4+4) (L.length * 4)=true:=aO ab;have e3:au .add .i64 (i:Int) 1=((i+1:Nat):Int):=kE h ab;have q1:i * 4+1+1=i * 4+2:=ab;have q2:i * 4+2+1=i * 4+3:=ab;simp only [show ad .lss ((i:Nat):Int) ((L.length:Nat):Int)=true from ga ab,ct,cC,bP,cm,b_,bV,lm,q1,q2,x0,x1,v0,v1,v2,v3,e3,cf,cz,wS,wB,bD,aw];cases hb:L[i].nm == s with
   | true =>
     rw [hb,aB rfl] at hM;simp only [show bA .eql L[i].nm s=true from hb,aw];exact⟨trivial,rfl,.tup [.z L[i].pl,.b true],_,[.id 0,.id 1,.id 2,.id 3],⟨by rw [← hM]; rfl,rfl⟩,by(exact zC)⟩
   | false =>
     rw [hb,av aC] at hM;simp only [show bA .eql L[i].nm s=false from hb,aD];exact⟨rfl,⟨i+1,ab,hM⟩,by dsimp only; omega,[.id 0,.id 1,.id 2,.id 3],by(exact zC)⟩
  ·simp only [show ad .lss ((i:Nat):Int) ((L.length:Nat):Int)=false from f_ ab,aD];have ei:i=L.length:=ab;have hM:=hN;rw [ei,List.drop_length] at hM;subst ei;exact⟨rfl,⟨(),hM.symm⟩,[.id 0,.id 1,.id 2,.id 3],by(exact zC)⟩
 refine SSp.last cJ (n:=40) (bh (aS rfl)) ?_;rw [QU];exact⟨trivial,rfl,.tup [.z 0,.b false],_,[.id 0,.id 1,.id 2,.id 3],⟨by rw [hN]; rfl,rfl⟩,by(exact zC)⟩
theorem QS (x:ap) (ni nl nj:Nat) (ln:Int) (ax bx cx:al) (g:aL) (k1:fg ni ax=true) (k2:cr nl bx=true) (k3:cr nj cx=true) :
  a0j prog 62 [.ptr 0 0,.str x] (ai (dT ni nl nj ln ax bx cx) g) fun l st=>l=.tup [.z (sV bx x),.b (nS bx x)]∧st=ai (dT ni nl nj ln ax bx cx) g:=by
 obtain⟨L,rfl,rfl,hL⟩:=mR.1 k2;rw [sV,nS,me];exact SX x L ni nj ln ax cx g hL (qy k1) (jn k3)
def zU:Gc:=fun args s=>match args,s.g with
 | [.ptr p 0,.str x],(g0,F0)::(g1,F1)::rest=>cond (Nat.beq g0 0 && aU F0 cj && (Nat.beq g1 2 && aU F1 cK)) (match s.h.get p with
   | some (.cells [.slo a 0 ni 0,.slo b 0 nl 0,.slo c 0 nj 0,.int .i64 ln] none)=>(match s.h.get a with
     | some (.cells ax (some 5))=>(match s.h.get b with
       | some (.cells bx (some 4))=>(match s.h.get c with
         | some (.cells cx (some 4))=>cond (gj [p,a,b,c]) (match s.lay [p,a,b,c] [.cells [.slo a 0 ni 0,.slo b 0 nl 0,.slo c 0 nj 0,.int .i64 ln] none,.cells ax (some 5),.cells bx (some 4),.cells cx (some 4)] [] with
           | some s'=>some ([fg ni ax,cr nl bx,cr nj cx],.tup [.z (sV bx x),.b (nS bx x)],s')
           | none=>none) none
         | _=>none)
       | _=>none)
     | _=>none)
   | _=>none) none
 | _,_=>none
theorem Ka:bX prog 62 zU:=by
 intro args s bs l s' hg hb hfr;unfold zU at hg;split at hg
 ·rename_i p x g0 F0 g1 F1 rest hgl;cases hc:(Nat.beq g0 0 && aU F0 cj && (Nat.beq g1 2 && aU F1 cK)) with
  | false=>exact eZ
  | true =>
    rw [hc] at hg;simp only [aw] at hg;rw [bg] at hc;replace hgl:s.g=aN rest:=by(have c1:=ig.1 hc.1; have c2:=ig.1 hc.2; rw [hgl,bt c1.1,bQ c1.2,bt c2.1,bQ c2.2] <;> rfl)
    split at hg
    ·rename_i a ni b nl c nj ln hb0;split at hg
     ·rename_i ax hb1;split at hg
      ·rename_i bx hb2;split at hg
       ·rename_i cx hb3;cases hbc:gj [p,a,b,c] with
        | false=>exact qT
        | true =>
          rw [hbc] at hg;simp only [aw] at hg;split at hg
          ·rename_i s1 hs1;simp only [a8,bn] at hg;obtain⟨rfl,rfl,rfl⟩:=hg;simp only [bv] at hb;obtain⟨k1,k2,k3,_⟩:=hb;have n1:=qy k1; have n2:=jn k2; have n3:=jn k3;refine a0j.lay (bs:=[.cells [.slo 1 0 ni 0,.slo 2 0 nl 0,.slo 3 0 nj 0,.z ln] none,.cells ax (some 5),.cells bx (some 4),.cells cx (some 4)]) (args0:=[.ptr 0 0,.str x]) (bs':=[.cells [.slo 1 0 ni 0,.slo 2 0 nl 0,.slo 3 0 nj 0,.z ln] none,.cells ax (some 5),.cells bx (some 4),.cells cx (some 4)]) (v0:=.tup [.z (sV bx x),.b (nS bx x)]) hfr hs1 (pC hbc)
            ⟨⟨df hfr hb0,_,hb0,by first | exact be rfl | exact dF (aV (bC rfl) (aV (bC rfl) (aV (bC rfl) (aV (cH) cA)))) aC,fun κ hκ=>dF (aV (bC (hκ 1 a rfl)) (aV (bC (hκ 2 b rfl)) (aV (bC (hκ 3 c rfl)) (aV (cH) cA)))) aC⟩,⟨df hfr hb1,_,hb1,be bF,fun κ hκ=>be bF⟩,⟨df hfr hb2,_,hb2,be bF,fun κ hκ=>be bF⟩,⟨df hfr hb3,_,hb3,be bF,fun κ hκ=>be bF⟩,trivial⟩ fv ?_
            fun κ h1 h2=>⟨⟨dF (aV (bC (h1 1 a rfl)) (aV (bC (h1 2 b rfl)) (aV (bC (h1 3 c rfl)) (aV (cH) cA)))) aC,be bF,be bF,be bF,trivial⟩,cY rfl⟩
           rw [hgl]; exact(QS x ni nl nj ln ax bx cx (aN rest) k1 k2 k3)
          ·cases hg
       ·cases hg
      ·cases hg
     ·cases hg
    ·cases hg
 ·cases hg
def G_:Cx:=eP [(69,jm zc),(62,zU)]
def G9:Cx:=eP [(69,jm zc),(77,B5)]
theorem UY:cT prog (cv G_):=fQ ⟨ju Ir,Ka,trivial⟩
theorem UX:cT prog (cv G9):=fQ ⟨ju Ir,T1,trivial⟩
abbrev Jv (s:ap) (w:Int) (ni:Nat) (nl:Nat) (nj:Nat) (ln:Int) (ax:al) (bx:al) (cx:al):bE:=[sN [.slo 1 0 ni 0,.slo 2 0 nl 0,.slo 3 0 nj 0,.z ln],sC ax 5,sC bx 4,sC cx 4,sN [.str s,.z w]]
theorem Pw (s:ap) (w:Int) (ni nl nj:Nat) (ln:Int) (ax bx cx:al) (rest:aL) (K:Fk):(fG prog G_ 40 59 [.ptr 0 0,.agg [.str s,.z w]] (ai (dT ni nl nj ln ax bx cx) (aN rest)) (vF K))=(
 ck (b9 (au .sub .i64 (↑(am s)) 1)) <|
 ck (ag (ae (au .sub .i64 (↑(am s)) 1)) (am s)) <|
 ck (ag (am (aY s 0 (ae (au .sub .i64 (↑(am s)) 1)))) 1000000000) <|
 cond (bu (dW (aY s 0 (ae (au .sub .i64 (↑(am s)) 1))))) (K (.b false) (Jv s w ni nl nj ln ax bx cx) (aN rest)) (ck (fg ni ax) <|
 ck (cr nl bx) <|
 ck (cr nj cx) <|
 cond (nS bx (aY s 0 (ae (au .sub .i64 (↑(am s)) 1)))) (K (.b false) (Jv s w ni nl nj ln ax bx cx) (aN rest)) (ck (ag (aa nl 1) 1000000) <|
 ck (ag (aa 0 (aJ nl 4)) (aG bx)) <|
 ck (bR nl nl) <|
 ck (bR nl nl) <|
 K (.b true) [sN [.slo 1 0 ni 0,.slo 6 0 (aa nl 1) 0,.slo 3 0 nj 0,.z ln],sC ax 5,sD,sC cx 4,sN [.str s,.z w],sN [.str (aY s 0 (ae (au .sub .i64 (↑(am s)) 1))),.z ↑ni,.z 0,.z 0],sC (bM (bf bx 0 (aJ nl 4)) [.str (aY s 0 (ae (au .sub .i64 (↑(am s)) 1))),.z ↑ni,.z 0,.z 0]) 4] (aN rest)))):=ak
theorem Pr (s:ap) (w i k:Int) (op a b c n:Int) (ni nl nj:Nat) (ln:Int) (ax bx cx:al) (rest:aL) (K:Fk):(fG prog G9 40 71 [.ptr 0 0,.ptr 4 0,.z i,.z k,.agg [.str s,.z w]] (ai (dT ni nl nj ln ax bx cx++[.cells [.z op,.z a,.z b,.z c,.int .u64 n] none]) (aN rest)) (vF K))=(
 cond (ad .eql k 4) (ck (ag (aa nj 1) 1000000) <|
 ck (ag (aa 0 (aJ nj 4)) (aG cx)) <|
 ck (bR nj nj) <|
 ck (bR nj nj) <|
 ck (ag (am s) 1000000000) <|
 K (.b (dW s)) [sN [.slo 1 0 ni 0,.slo 2 0 nl 0,.slo 7 0 (aa nj 1) 0,.z ln],sC ax 5,sC bx 4,sD,sN [.z op,.z a,.z b,.z c,.int .u64 n],sN [.str s,.z w],sN [.str s,.z ↑ni,.z ln,.z w],sC (bM (bf cx 0 (aJ nj 4)) [.str s,.z ↑ni,.z ln,.z w]) 4] (aN rest)) (cond (ad .eql i 0) (K (.b (dP k s)) [sN [.slo 1 0 ni 0,.slo 2 0 nl 0,.slo 3 0 nj 0,.z ln],sC ax 5,sC bx 4,sC cx 4,sN [.z op,.z (ay .i64 (f7 k s)),.z b,.z c,.int .u64 n],sN [.str s,.z w]] (aN rest)) (cond (ad .eql i 1) (K (.b (dP k s)) [sN [.slo 1 0 ni 0,.slo 2 0 nl 0,.slo 3 0 nj 0,.z ln],sC ax 5,sC bx 4,sC cx 4,sN [.z op,.z a,.z (ay .i64 (f7 k s)),.z c,.int .u64 n],sN [.str s,.z w]] (aN rest)) (cond (ad .eql i 2) (K (.b (dP k s)) [sN [.slo 1 0 ni 0,.slo 2 0 nl 0,.slo 3 0 nj 0,.z ln],sC ax 5,sC bx 4,sC cx 4,sN [.z op,.z a,.z b,.z (ay .i64 (f7 k s)),.int .u64 n],sN [.str s,.z w]] (aN rest)) (K (.b (dP k s)) [sN [.slo 1 0 ni 0,.slo 2 0 nl 0,.slo 3 0 nj 0,.z ln],sC ax 5,sC bx 4,sC cx 4,sN [.z op,.z a,.z b,.z c,.int .u64 (f7 k s)],sN [.str s,.z w]] (aN rest)))))):=ak
end
end Go.Lev
