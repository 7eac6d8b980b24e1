import Derived.Test.YtnkkkihgljbllaaDoorCB8
import Derived.Test.YtnkkkihgljbllaaDoorCXE
import Derived.Test.YtnkkkihgljbllaaDoorCT7
/- text: the reference's Parse as a contract; same: its trees; the laws' trees -/
namespace Go.Lev
set_option linter.unusedSimpArgs false
set_option linter.unusedVariables false
open Go.RowKit
open Go.Proofs.Tryd (prog)
set_option maxRecDepth 100000
noncomputable section
theorem TI (t:ap) (k1:ag (am t) 4000=true) (k2:oS t=true):a0j prog 18 [.str t] (ai [] aq) fun l st=>l=.tup [.agg [.nils],.z (gR t),.z (gS t),.z (dU t)]∧st=ai [] aq:=by
 refine a0j.mono (HX t (show t.length≤4000 from eC.1 k1)) fun l st ⟨b,h,hs⟩=>?_
 have ne:dU t≠0:=by simpa [oS,dU] using k2
 rcases h with⟨_,h1,h2⟩ | ⟨h0,_⟩
 ·subst h2; exact⟨h1,hs⟩
 ·exact absurd h0 ne
theorem Vq (t:ap) (k1:ag (am t) 4000=true) (k2:oR t=true):a0j prog 18 [.str t] (ai [] aq) fun l st=>l=.tup [.agg [.slo 0 0 (fL t) 0],.z 0,.z 0,.z 0]∧st=ai [.cells (fE t) (some 5)] aq:=by
 refine a0j.mono (HX t (show t.length≤4000 from eC.1 k1)) fun l st ⟨b,h,hs⟩=>?_
 have ne:dU t=0:=by simpa [oR,dU] using k2
 rcases h with⟨h0,_⟩ | ⟨_,h1,h2⟩
 ·exact absurd ne h0
 ·subst h2; exact⟨h1,hs⟩
def Cd:Gc:=fun args s=>match args,s.g with
 | [.str t],[(g0,F0),(g1,F1),(g2,F2),(g3,[.fact F])]=>cond (Nat.beq g0 0 && aU F0 cj && (Nat.beq g1 2 && aU F1 cK) && (Nat.beq g2 1 && aU F2 gi) && Nat.beq g3 1000) (match s.lay [] [] [] with
   | some s'=>some ([dm F,ag (am t) 4000,oS t],.tup [.agg [.nils],.z (gR t),.z (gS t),.z (dU t)],s')
   | none=>none) none
 | _,_=>none
theorem TJ:bX prog 18 Cd:=by
 intro args s bs l s' hg hb hfr;unfold Cd at hg;split at hg
 ·rename_i t g0 F0 g1 F1 g2 F2 g3 F hgl;cases hc:(Nat.beq g0 0 && aU F0 cj && (Nat.beq g1 2 && aU F1 cK) && (Nat.beq g2 1 && aU F2 gi) && Nat.beq g3 1000) with
  | false=>exact eZ
  | true =>
    rw [hc] at hg;simp only [aw] at hg;simp only [bg] at hc;replace hgl:s.g=pY F:=by rw [hgl,bt hc.1.1.1.1,bQ hc.1.1.1.2,bt hc.1.1.2.1,bQ hc.1.1.2.2,bt hc.1.2.1,bQ hc.1.2.2,bt hc.2]
    split at hg
    ·rename_i s1 hs1;simp only [a8,bn] at hg;obtain⟨rfl,rfl,rfl⟩:=hg;simp only [bv] at hb;obtain⟨k1,k2,k3,_⟩:=hb;have eF:=mP k1;subst eF;refine a0j.lay (bs:=[]) (args0:=[.str t]) (bs':=[]) (v0:=.tup [.agg [.nils],.z (gR t),.z (gS t),.z (dU t)]) hfr hs1 aC
      trivial fv ?_
      fun κ h1 h2=>⟨trivial,cY rfl⟩
     rw [hgl]; exact(TI t k2 k3)
    ·cases hg
 ·cases hg
def Cc:Gc:=fun args s=>match args,s.g with
 | [.str t],[(g0,F0),(g1,F1),(g2,F2),(g3,[.fact F])]=>cond (Nat.beq g0 0 && aU F0 cj && (Nat.beq g1 2 && aU F1 cK) && (Nat.beq g2 1 && aU F2 gi) && Nat.beq g3 1000) (match s.lay [] [] [.cells (fE t) (some 5)] with
   | some s'=>some ([dm F,ag (am t) 4000,oR t],.tup [.agg [.slo s.n 0 (fL t) 0],.z 0,.z 0,.z 0],s')
   | none=>none) none
 | _,_=>none
theorem TK:bX prog 18 Cc:=by
 intro args s bs l s' hg hb hfr;unfold Cc at hg;split at hg
 ·rename_i t g0 F0 g1 F1 g2 F2 g3 F hgl;cases hc:(Nat.beq g0 0 && aU F0 cj && (Nat.beq g1 2 && aU F1 cK) && (Nat.beq g2 1 && aU F2 gi) && Nat.beq g3 1000) with
  | false=>exact eZ
  | true =>
    rw [hc] at hg;simp only [aw] at hg;simp only [bg] at hc;replace hgl:s.g=pY F:=by rw [hgl,bt hc.1.1.1.1,bQ hc.1.1.1.2,bt hc.1.1.2.1,bQ hc.1.1.2.2,bt hc.1.2.1,bQ hc.1.2.2,bt hc.2]
    split at hg
    ·rename_i s1 hs1;simp only [a8,bn] at hg;obtain⟨rfl,rfl,rfl⟩:=hg;simp only [bv] at hb;obtain⟨k1,k2,k3,_⟩:=hb;have eF:=mP k1;subst eF;have n1:a1u (fE t)=true:=fW _;refine a0j.lay (bs:=[]) (args0:=[.str t]) (bs':=[.cells (fE t) (some 5)]) (v0:=.tup [.agg [.slo 0 0 (fL t) 0],.z 0,.z 0,.z 0]) hfr hs1 aC
      trivial fv ?_
      fun κ h1 h2=>⟨⟨be bF,trivial⟩,(pu (aV ((tJ (aV (bC (h2 0 aC)) cA))) (aV (cH) (aV (cH) (aV (cH) cA)))))⟩
     rw [hgl]; exact(Vq t k2 k3)
    ·cases hg
 ·cases hg
def Hc:Cx:=eP [(14,Cj),(18,Cd)]
def Hd:Cx:=eP [(14,Ci),(18,Cc),(15,jm B3)]
theorem PF (t:ap) (K:Fk):(fG prog Hc 60 10 [.str t] (ai [] aq) (vF K))=(
 ck (kg t) <|
 ck (oS t) <|
 ck (dm dZ) <|
 ck (ag (am t) 4000) <|
 ck (oS t) <|
 cond (ad .eql (gR t) (gR t)) (cond (ad .eql (gS t) (gS t)) (K (.b (ad .eql (dU t) (dU t))) [sN [.nils],sN [.nils]] aq) (K (.b false) [sN [.nils],sN [.nils]] aq)) (K (.b false) [sN [.nils],sN [.nils]] aq)):=ak
abbrev JD (t:ap):bE:=[sC (fE t) 5,sN [.slo 0 0 (fL t) 0],sC (fE t) 5,sN [.slo 2 0 (fL t) 0]]
theorem PH (t:ap) (K:Fk):(fG prog Hd 60 10 [.str t] (ai [] aq) (vF K))=(
 ck (kg t) <|
 ck (oR t) <|
 ck (dm dZ) <|
 ck (ag (am t) 4000) <|
 ck (oR t) <|
 ck (oV (fL t) (fE t)) <|
 ck (oV (fL t) (fE t)) <|
 cond (kX (fL t) (fL t) (fE t) (fE t)) (K (.b true) (JD t) aq) (K (.b false) (JD t) aq)):=ak
theorem PG (K:Fk):(fG prog (fun _=>none) 400 10 [.str []] (ai [] aq) (vF K))=(
 K (.b true) [sN [.nils],sN [.nils,.nils,.nils,.z 0],sN [.z 0,.z 0,.z 0],sN [.str [],.nils,.nils,.z 0,.z 1,.z (-1),.z 0,.b false],some (.iter [] 0),sN [.z 0,.z 0,.z 0],sN [.z 0,.z 0,.z 0],sN [.nils],sN [.nils],sN [.nils],sC [] 1,some (.iter [] 0),sN [.nils]] aq):=ak
theorem U1:cT prog (cv Hc):=fQ ⟨TA,TJ,trivial⟩
theorem U2:cT prog (cv Hd):=fQ ⟨TB,TK,ju T3,trivial⟩
def GR (x:bL):bo:=⟨x.op,x.a,x.b,x.c,x.n⟩
theorem IY:∀ I:List bL,aj bI I=aj aW (I.map GR)
 | []=>rfl
 | x::r=>by simp only [lp,aj]; rw [IY r]; rfl
theorem Js:∀ (LS:List ic) (i:Nat) (I:List bL) (B J:List bq),pE I J→(jL LS i I B J).2.1.length≤I.length+LS.length
 | [],i,I,B,J,h=>by rw [jL]; show(gg B J I).2.length≤_; rw [EW]; simp
 | L::r,i,I,B,J,h=>by
   have pj:=DD (L:=L) (ln:=((i+1:Nat):Int)) (B:=B) h;rw [jL,cZ];split
   ·dsimp only; omega
   ·rename_i hz;have:=Js r (i+1) (cQ L ((i+1:Nat):Int) I B J).2.1 (cQ L ((i+1:Nat):Int) I B J).2.2.1 (cQ L ((i+1:Nat):Int) I B J).2.2.2 (pj.2.2.2 (by simpa using hz));omega
theorem EN (t:ap):∀ (n p:Nat) (S:eE),t.length - p≤n→(fx t p S).length≤n+1
 | 0,p,S,h=>by rw [Aj ab]; split <;> simp
 | n+1,p,S,h=>by
   by_cases hp:p < t.length
   ·have hw:=fF hp;rw [Ec hp];split
    ·have:=EN t n (p+aP t p) (iK S) ab;rw [cZ]; omega
    ·have:=EN t n (p+aP t p) (eW t S p (aM t p)) ab;omega
   ·rw [Aj ab]; split <;> simp
theorem TO (t:ap):(dz t).2.1.length≤t.length+1:=by
 have h1:=Js (gp t) 0 [] [] [] (fun j hj=>by cases hj);have h2:=EN t t.length 0 i4 ab;unfold dz;rw [eU] at h1;unfold gp at h1 ⊢;omega
theorem V9 (n:Nat) (cs:al):kX n n cs cs=true:=by simp [kX]
theorem RY (t:ap) (k:ag (am t) 4000=true):a0j prog 10 [.str t] (ai [] aq) fun l st=>l=.b true∧st=ai [] aq:=by
 have hl:t.length≤4000:=eC.1 k;have er:∀ x:Int,ad .eql x x=true:=fun x=>cD rfl
 by_cases h0:t.length=0
 ·obtain rfl:t=[]:=fY.1 h0;refine a0j.mono (a0j.vc (Q:=fun l b=>l=.b true∧b=[]) cJ (n:=400) 0 rfl ?_) fun l s' ⟨b0,⟨h1,h2⟩,h3⟩=>⟨h1,by rw [h3,h2]⟩
  rw [PG];exact⟨rfl,_,[],[],⟨rfl,rfl⟩,by(exact zC)⟩
 have kt:kg t=true:=x9.2 ⟨ab,hl⟩;by_cases hz:(dz t).1.2.2=0
 ·have hg:oR t=true:=by simp [oR,hz]
  have oe:oV (fL t) (fE t)=true:=Ax.2 ⟨(dz t).2.1.map GR,by rw [fE,IY],by rw [fL,ii],by
   have:=TO t;unfold fL; omega⟩
  have sa:kX (fL t) (fL t) (fE t) (fE t)=true:=V9 _ _;refine a0j.mono (a0j.vc (Q:=fun l b=>l=.b true∧b=[]) U2 (n:=60) 0 rfl ?_) fun l s' ⟨b0,⟨h1,h2⟩,h3⟩=>⟨h1,by rw [h3,h2]⟩
  rw [PH];simp only [kt,hg,k,oe,sa,qG,aw];exact⟨rfl,_,[],[],⟨rfl,rfl⟩,by(exact zC)⟩
 ·have hb:oS t=true:=by simp [oS,hz]
  refine a0j.mono (a0j.vc (Q:=fun l b=>l=.b true∧b=[]) U1 (n:=60) 0 rfl ?_) fun l s' ⟨b0,⟨h1,h2⟩,h3⟩=>⟨h1,by rw [h3,h2]⟩
  rw [PF];simp only [kt,hb,k,er,qG,aw];exact⟨rfl,_,[],[],⟨rfl,rfl⟩,by(exact zC)⟩
def BW:Gc:=fun args s=>match args,s.g with
 | [],[(g0,F0),(g1,F1),(g2,F2),(g3,[.fact F])]=>cond (Nat.beq g0 0 && aU F0 cj && (Nat.beq g1 2 && aU F1 cK) && (Nat.beq g2 1 && aU F2 gi) && Nat.beq g3 1000) (match s.lay [] [] [] with
   | some s'=>some ([dm F],.b true,s')
   | none=>none) none
 | _,_=>none
theorem Uc:bX prog 8 BW:=by
 intro args s bs l s' hg hb hfr;unfold BW at hg;split at hg
 ·rename_i  g0 F0 g1 F1 g2 F2 g3 F hgl;cases hc:(Nat.beq g0 0 && aU F0 cj && (Nat.beq g1 2 && aU F1 cK) && (Nat.beq g2 1 && aU F2 gi) && Nat.beq g3 1000) with
  | false=>exact eZ
  | true =>
    rw [hc] at hg;simp only [aw] at hg;simp only [bg] at hc;replace hgl:s.g=pY F:=by rw [hgl,bt hc.1.1.1.1,bQ hc.1.1.1.2,bt hc.1.1.2.1,bQ hc.1.1.2.2,bt hc.1.2.1,bQ hc.1.2.2,bt hc.2]
    split at hg
    ·rename_i s1 hs1;simp only [a8,bn] at hg;obtain⟨rfl,rfl,rfl⟩:=hg;simp only [bv] at hb;obtain⟨k1,_⟩:=hb;have eF:=mP k1;subst eF;refine a0j.lay (bs:=[]) (args0:=[]) (bs':=[]) (v0:=.b true) hfr hs1 aC
      trivial fv ?_
      fun κ h1 h2=>⟨trivial,ir⟩
     rw [hgl]; exact RS
    ·cases hg
 ·cases hg
def BZ:Gc:=fun args s=>match args,s.g with
 | [.str t],[(g0,F0),(g1,F1),(g2,F2),(g3,[.fact F])]=>cond (Nat.beq g0 0 && aU F0 cj && (Nat.beq g1 2 && aU F1 cK) && (Nat.beq g2 1 && aU F2 gi) && Nat.beq g3 1000) (match s.lay [] [] [] with
   | some s'=>some ([dm F,ag (am t) 4000],.b true,s')
   | none=>none) none
 | _,_=>none
theorem T6:bX prog 10 BZ:=by
 intro args s bs l s' hg hb hfr;unfold BZ at hg;split at hg
 ·rename_i t g0 F0 g1 F1 g2 F2 g3 F hgl;cases hc:(Nat.beq g0 0 && aU F0 cj && (Nat.beq g1 2 && aU F1 cK) && (Nat.beq g2 1 && aU F2 gi) && Nat.beq g3 1000) with
  | false=>exact eZ
  | true =>
    rw [hc] at hg;simp only [aw] at hg;simp only [bg] at hc;replace hgl:s.g=pY F:=by rw [hgl,bt hc.1.1.1.1,bQ hc.1.1.1.2,bt hc.1.1.2.1,bQ hc.1.1.2.2,bt hc.1.2.1,bQ hc.1.2.2,bt hc.2]
    split at hg
    ·rename_i s1 hs1;simp only [a8,bn] at hg;obtain⟨rfl,rfl,rfl⟩:=hg;simp only [bv] at hb;obtain⟨k1,k2,_⟩:=hb;have eF:=mP k1;subst eF;refine a0j.lay (bs:=[]) (args0:=[.str t]) (bs':=[]) (v0:=.b true) hfr hs1 aC
      trivial fv ?_
      fun κ h1 h2=>⟨trivial,ir⟩
     rw [hgl]; exact(RY t k2)
    ·cases hg
 ·cases hg
end
end Go.Lev
