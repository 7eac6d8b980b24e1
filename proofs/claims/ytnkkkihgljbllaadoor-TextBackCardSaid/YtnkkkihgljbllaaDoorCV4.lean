/- text: split -/
import Derived.Test.YtnkkkihgljbllaaDoorCV3
import Derived.Test.YtnkkkihgljbllaaDoorCV1
import Derived.Test.YtnkkkihgljbllaaDoorLc
import Derived.Test.YtnkkkihgljbllaaDoorChecked
import Derived.KernelRfl
namespace Go.Lev
set_option linter.unusedSimpArgs false
set_option linter.unusedVariables false
open Go.RowKit
open Go.Proofs.Tryd (prog)
set_option maxRecDepth 100000
noncomputable section
theorem stB_or (q:SQ) (γ : Nat):stB q γ = .dead∨∃ F,stB q γ = .obj stF [.fact F] γ:=by
 obtain⟨F,e,h⟩:=q
 cases e
 ·exact .inr ⟨F,rfl⟩
 ·exact .inl rfl
set_option maxHeartbeats 4000000 in
theorem split_ok (t:List UInt8) (ht:t.length≤4000):SFun prog 46 [.str t] (mkS [] []) fun l s=>∃ (q:SQ) (ls:List LnV),StL q ls∧ls.map LnV.s=spA t∧l=.slo 0 0 ls.length 0∧s=mkS [.cells (encL lnC ls) (some 2),stB q 2,.dead] []:=by
 refine SFun.mono (SFun.pieces (Q:=fun l b=>∃ (q:SQ) (ls:List LnV),StL q ls∧ls.map LnV.s=spA t∧l=.slo 0 0 ls.length 0∧b=[.cells (encL lnC ls) (some 2),stB q 2,.dead]) 34 0 slL [2] (by kernel_rfl) rfl rfl rfl ?_) fun l s' ⟨b0,⟨q,ls,h1,h2,h3,h4⟩,h5⟩=>⟨q,ls,h1,h2,h3,by rw [h5,h4]⟩
 refine SSp.to noCx_ok (n:=60) (g:=[]) 4 4 rfl (σ:=Unit) (fun _=>snT t) (fun _=>lpG t (stB stNil 5) [] spZ 0 none) (mkS_le (Nat.zero_le _)) (by kernel_rfl) ?_ fun _=>?_
 ·rw [sn_0]; exact⟨rfl,(),[.id 0,.none,.none,.id 1,.none,.none],by(exact zC)⟩
 refine SSp.code_to (g:=[]) 5 rfl (σ:={x:SQ×List LnV×SpS // StL x.1 x.2.1∧SpOk t t.length x.2.2∧x.2.1.length≤t.length∧x.2.1.map LnV.s++spG t t.length x.2.2=spA t}) (fun _=>snT2 t) (fun x=>lpG t (stB x.1.1 5) x.1.2.1 x.1.2.2 t.length none) (by kernel_rfl) ?_ fun⟨⟨q,ls,S⟩,hS,hO,hl,hR⟩=>?_
 ·refine SCode.loop_sp 0 (by kernel_rfl) (σ:=LpX t) (fun _=>snT t) (fun x=>lpG t (stB x.q 5) x.ls x.S x.p x.pd) (fun x=>t.length - x.p) (fun x=>Nat.zero_le _) (fun⟨q,ls,S,pd,p,hS,hO,hl,hR,hP⟩=>?_) ⟨stNil,[],spZ,none,0,StL.nil,SpOk.zero ht,by simp,by simp [spA],fun L h=>by cases h⟩
  dsimp only
  cases pd with
  | none =>
    have hR0:ls.map LnV.s++spG t p S=spA t:=hR
    have hl0:ls.length≤p:=by simpa using hl
    have nl:=noids_ln ls; have nw:=noids_wd S.ws
    refine SSp.to noCx_ok (n:=60) (g:=[]) 2 2 rfl (σ:={_u:Unit // p < t.length}) (fun _=>snT1 t p (xrn t p)) (fun _=>lpG t (stB q 5) ls S (p+xrw t p) none) (mkS_le (Nat.zero_le _)) (by kernel_rfl) ?_ fun⟨_,hp⟩=>?_
    ·dsimp only [lpG]
     rw [sn_a]
     by_cases hp:p < t.length
     ·have y0:xle (xadd p 1) (xsln t)=true:=t_le (show p+1≤t.length by omega)
      rw [y0]
      dsimp only [cond_true]
      obtain⟨F',e',h'⟩:=q
      cases e' <;> exact⟨rfl,⟨(),hp⟩,[.id 0,.id 1,.id 2,.id 3,.id 4,.id 5],by(exact zC)⟩
     ·have y0:xle (xadd p 1) (xsln t)=false:=f_le (show t.length < p+1 by omega)
      rw [y0]
      dsimp only [cond_false]
      have ep:p=t.length:=by have:=hO.hp; omega
      refine⟨rfl,⟨(q,ls,S),hS,ep▸hO,by rw [← ep]; exact hl0,by rw [← ep]; exact hR0⟩,[.id 0,.id 1,.id 2,.id 3,.id 4,.id 5],?_⟩
      dsimp only [lpG]
      rw [← ep]
      obtain⟨F',e',h'⟩:=q
      cases e' <;> (exact zC)
    refine SSp.last noCx_ok (n:=60) (mkS_le (Nat.zero_le _)) ?_
    have hw:=rn_w hp
    refine sn_round t (stB q 5) ls S p (stB_or q 5) hO hl0 hp _ fun S' pd ρ vs bs hG hO' hP' hc=>?_
    have hpl:ls.length+pd.toList.length≤p+xrw t p:=by
     have:pd.toList.length≤1:=by cases pd <;> simp
     omega
    exact⟨rfl,⟨q,ls,S',pd,p+xrw t p,hS,hO',hpl,by rw [← hG]; exact hR0,hP'⟩,by dsimp only; omega,ρ,hc⟩
  | some L =>
    have hP1:=hP L rfl
    refine SSp.absorbC 1 (ls.length * 2) 2 4 (γ:=5) (n:=L.ws.length) (cs:=encL wdC L.ws) (op:=some 2) (q:=q) (by kernel_rfl) (Nat.zero_le _) rfl (ln_at ls _ _) (by omega) (by omega) rfl rfl (noids_wd _) (fun h=>by rw [List.length_eq_zero_iff.1 h]; rfl) fun v q1 hq1=>?_
    have hS1:StL q1 (ls++[⟨v,L⟩]):=hS.push rfl rfl hq1
    rw [ln_set]
    change SSp _ _ _ _ (mkTm 34 (snT t)) (mkS (snQ t (ls.length+1) S.f (encL lnC (ls++[⟨v,L⟩])) p (stB q1 7)) []) _
    have hln:(ls++[(⟨v,L⟩:LnV)]).length=ls.length+1:=by simp
    rw [← hln]
    have hl0:(ls++[(⟨v,L⟩:LnV)]).length≤p:=by simp at hl ⊢; omega
    have hR0:(ls++[(⟨v,L⟩:LnV)]).map LnV.s++spG t p S=spA t:=by rw [← hR]; simp
    have hP2:S.ws=[]∧S.e=0∧S.c=1∧S.s = -1∧S.m=false:=by rw [hP1]; exact⟨rfl,rfl,rfl,rfl,rfl⟩
    clear hln hq1
    revert hl0 hR0 hS1
    generalize ls++[(⟨v,L⟩:LnV)]=ls1
    intro hS1 hl0 hR0
    refine SSp.to noCx_ok (n:=60) (g:=[]) 0 0 rfl (σ:=Unit) (fun _=>snT t) (fun _=>lpG t (stB q1 5) ls1 S p none) (mkS_le (Nat.zero_le _)) (by kernel_rfl) ?_ fun _=>?_
    ·rw [sn_z]
     have nl:=noids_ln ls1
     dsimp only [lpG]
     rw [hP2.1,hP2.2.1,hP2.2.2.1,hP2.2.2.2.1,hP2.2.2.2.2]
     obtain⟨F',e',h'⟩:=q1
     cases e' <;> exact⟨rfl,(),[.id 0,.id 1,.none,.id 3,.id 6,.id 7],by(exact zC)⟩
    have nl:=noids_ln ls1; have nw:=noids_wd S.ws
    refine SSp.to noCx_ok (n:=60) (g:=[]) 2 2 rfl (σ:={_u:Unit // p < t.length}) (fun _=>snT1 t p (xrn t p)) (fun _=>lpG t (stB q1 5) ls1 S (p+xrw t p) none) (mkS_le (Nat.zero_le _)) (by kernel_rfl) ?_ fun⟨_,hp⟩=>?_
    ·dsimp only [lpG]
     rw [sn_a]
     by_cases hp:p < t.length
     ·have y0:xle (xadd p 1) (xsln t)=true:=t_le (show p+1≤t.length by omega)
      rw [y0]
      dsimp only [cond_true]
      obtain⟨F',e',h'⟩:=q1
      cases e' <;> exact⟨rfl,⟨(),hp⟩,[.id 0,.id 1,.id 2,.id 3,.id 4,.id 5],by(exact zC)⟩
     ·have y0:xle (xadd p 1) (xsln t)=false:=f_le (show t.length < p+1 by omega)
      rw [y0]
      dsimp only [cond_false]
      have ep:p=t.length:=by have:=hO.hp; omega
      refine⟨rfl,⟨(q1,ls1,S),hS1,ep▸hO,by rw [← ep]; exact hl0,by rw [← ep]; exact hR0⟩,[.id 0,.id 1,.id 2,.id 3,.id 4,.id 5],?_⟩
      dsimp only [lpG]
      rw [← ep]
      obtain⟨F',e',h'⟩:=q1
      cases e' <;> (exact zC)
    refine SSp.last noCx_ok (n:=60) (mkS_le (Nat.zero_le _)) ?_
    have hw:=rn_w hp
    refine sn_round t (stB q1 5) ls1 S p (stB_or q1 5) hO hl0 hp _ fun S' pd ρ vs bs hG hO' hP' hc=>?_
    have hpl:ls1.length+pd.toList.length≤p+xrw t p:=by
     have:pd.toList.length≤1:=by cases pd <;> simp
     omega
    exact⟨rfl,⟨q1,ls1,S',pd,p+xrw t p,hS1,hO',hpl,by rw [← hG]; exact hR0,hP'⟩,by dsimp only; omega,ρ,hc⟩
 have nl:=noids_ln ls; have nw:=noids_wd S.ws
 refine SSp.to noCx_ok (n:=60) (g:=[]) 1 6 rfl (σ:=Unit) (fun _=>snT3 t (xcm .gtr S.c 1)) (fun _=>lpG t (stB q 5) ls S t.length none) (mkS_le (Nat.zero_le _)) (by kernel_rfl) ?_ fun _=>?_
 ·dsimp only [lpG]
  rw [sn_c]
  obtain⟨F',e',h'⟩:=q
  cases e' <;> exact⟨rfl,(),[.id 0,.id 1,.id 2,.id 3,.id 4,.id 5],by(exact zC)⟩
 refine SSp.code_to (g:=[]) 7 rfl (σ:=FnX t) (fun _=>snT2 t) (fun x=>lpG t (stB x.q 5) x.ls x.S t.length x.pd) (by kernel_rfl) ?_ fun⟨q,ls,S,pd,hS,hR⟩=>?_
 ·refine SCode.vc noCx_ok (n:=60) (mkS_le (Nat.zero_le _)) ?_
  dsimp only at hO hl hR hS ⊢
  rw [spG,dif_neg (by omega)] at hR
  by_cases c1:1 < S.c
  ·rw [if_pos c1] at hR
   rw [show xcm .gtr S.c 1=true from t_gtr c1]
   refine sn_fin t (stB q 5) ls S (stB_or q 5) hO hl _ fun S' pd ρ vs bs hL hc=>?_
   exact⟨rfl,⟨q,ls,S',pd,hS,by rw [← hL]; exact hR⟩,ρ,hc⟩
  ·rw [if_neg c1,List.append_nil] at hR
   dsimp only [lpG]
   rw [sn_d,show xcm .gtr S.c 1=false from f_gtr (by omega)]
   simp only [cond_false]
   refine⟨rfl,⟨q,ls,S,none,hS,by simpa using hR⟩,[.id 0,.id 1,.id 2,.id 3,.id 4,.id 5],?_⟩
   dsimp only [lpG]
   obtain⟨F',e',h'⟩:=q
   cases e' <;> (exact zC)
 dsimp only
 cases pd with
 | none =>
   dsimp only [lpG]
   refine SSp.last noCx_ok (n:=60) (mkS_le (Nat.zero_le _)) ?_
   rw [sn_e]
   have nl:=noids_ln ls
   refine⟨trivial,rfl,_,_,[.id 1,.id 4,.id 5],⟨q,ls,hS,by simpa using hR,rfl,rfl⟩,?_⟩
   obtain⟨F',e',h'⟩:=q
   cases e' <;> (exact zC)
 | some L =>
   refine SSp.absorbC 1 (ls.length * 2) 2 4 (γ:=5) (n:=L.ws.length) (cs:=encL wdC L.ws) (op:=some 2) (q:=q) (by kernel_rfl) (Nat.zero_le _) rfl (ln_at ls _ _) (by omega) (by omega) rfl rfl (noids_wd _) (fun h=>by rw [List.length_eq_zero_iff.1 h]; rfl) fun v q1 hq1=>?_
   have hS1:StL q1 (ls++[⟨v,L⟩]):=hS.push rfl rfl hq1
   rw [ln_set]
   change SSp _ _ _ _ (mkTm 34 (snT2 t)) (mkS (snQ t (ls.length+1) S.f (encL lnC (ls++[⟨v,L⟩])) t.length (stB q1 7)) []) _
   refine SSp.last noCx_ok (n:=60) (mkS_le (Nat.zero_le _)) ?_
   rw [sn_f]
   have nl:=noids_ln (ls++[(⟨v,L⟩:LnV)])
   have hl1:(ls++[(⟨v,L⟩:LnV)]).length=ls.length+1:=by simp
   rw [← hl1]
   have hR1:(ls++[(⟨v,L⟩:LnV)]).map LnV.s=spA t:=by rw [← hR]; simp
   clear hl1
   revert hR1 hS1 nl
   generalize ls++[(⟨v,L⟩:LnV)]=ls1
   intro hS1 nl hR1
   refine⟨trivial,rfl,_,_,[.id 1,.id 6,.id 7],⟨q1,ls1,hS1,hR1,rfl,rfl⟩,?_⟩
   obtain⟨F',e',h'⟩:=q1
   cases e' <;> (exact zC)
end
end Go.Lev
