/- the reference's Line: the same line -/
import Derived.Test.YticekakedhinkaaDoorCQ7
import Derived.Test.YticekakedhinkaaDoorLc
import Derived.Test.YticekakedhinkaaDoorChecked
import Derived.KernelRfl
namespace Go.Lev
set_option linter.unusedSimpArgs false
set_option linter.unusedVariables false
open Go.RowKit
open Go.Proofs.Tryd (prog)
set_option maxRecDepth 100000
noncomputable section
theorem catA (t u x:List UInt8):xscat (xscat t u) x=t++(u++x):=List.append_assoc _ _ _
theorem slenA (t u x:List UInt8) (h:t.length+(u.length+x.length)≤1000000000):xle (xadd (xsln (xscat t u)) (xsln x)) 1000000000=true:=t_le (by show(t++u).length+x.length≤_; rw [List.length_append]; omega)
theorem slenK (t:List UInt8) (k:Nat) (h:t.length+k≤1000000000):xle (xadd (xsln t) k) 1000000000=true:=t_le h
theorem call_len (n:Int):(callW n).length≤30:=by
 have hc:∀ m:Nat,(clN m).length≤30:=fun m=>by
  unfold clN; split <;> simp
 exact hc _
theorem if_len {p:Prop} [Decidable p] {a b:List UInt8} {k:Nat} (h1:a.length≤k) (h2:b.length≤k):(if p then a else b).length≤k:=by split <;> assumption
set_option maxHeartbeats 4000000 in
theorem ln_f (op a b c n:Int) (h:mayW op a b c n=true) (hn:0≤n∧n≤18446744073709551615):SFun prog 17 [insA op a b c n] (mkS [] gt4) fun l s=>l=.str (lineW op a b c n)∧s=mkS [] gt4:=by
 refine SFun.mono (SFun.pieces (Q:=fun l b'=>l=.str (lineW op a b c n)∧b'=[]) 119 0 lnL [2] (by kernel_rfl) rfl rfl rfl ?_) fun l s' ⟨b0,⟨h1,h2⟩,h3⟩=>⟨h1,by rw [h3,h2]⟩
 obtain⟨⟨o1,o2⟩,⟨a1,a2⟩,⟨b1,b2⟩,c1,c2⟩:=may_b h
 have wa:=w40 a1 a2; have wb:=w40 b1 b2; have wc:=w40 c1 c2
 have la:=decW_len a1 (by omega); have lb:=decW_len b1 (by omega); have lc:=decW_len c1 (by omega); have ld:=decW_len hn.1 hn.2
 have l0a:=t_leq a1; have l0b:=t_leq b1; have l0c:=t_leq c1; have l0n:=t_leq hn.1
 have l1a:xcm .leq a 18446744073709551615=true:=t_leq (by omega)
 have l1b:xcm .leq b 18446744073709551615=true:=t_leq (by omega)
 have l1c:xcm .leq c 18446744073709551615=true:=t_leq (by omega)
 have l1n:=t_leq hn.2
 have ln:=name_len op; have lk:=call_len a
 have s0:(r0W op a).length≤40:=if_len (by simp) (if_len (by simp only [List.length_cons]; omega) (by simp only [List.length_cons]; omega))
 have s1:(r1W op b).length≤40:=if_len (by simp) (if_len (by simp only [List.length_cons]; omega) (by simp only [List.length_cons]; omega))
 have s2:(r2W op c).length≤40:=if_len (by simp) (if_len (by simp only [List.length_cons]; omega) (if_len (by simp only [List.length_cons]; omega) (by simp only [List.length_cons]; omega)))
 let tx:Nat→List UInt8:=fun k=>match k with
  | 0=>nameW op
  | 1=>nameW op++r0W op a
  | 2=>nameW op++r0W op a++r1W op b
  | _=>nameW op++r0W op a++r1W op b++r2W op c
 refine SSp.to cxL_ok (n:=40) (g:=gt4) 5 5 rfl (σ:=Unit) (fun _=>lnT (nameW op) 0) (fun _=>lnH op a b c n) (mkS_le (Nat.zero_le _)) (by kernel_rfl) ?_ fun _=>?_
 ·rw [ln_a]
  exact⟨rfl,(),[.id 0,.id 1,.id 2],by(exact zC)⟩
 refine SSp.code_to (g:=gt4) 6 rfl (σ:=Unit) (fun _=>lnT (tx 3) 3) (fun _=>lnH op a b c n) (by kernel_rfl) ?_ fun _=>?_
 ·refine SCode.loop_vc cxL_ok (n:=40) (n0:=0) 0 (by kernel_rfl) (σ:={k:Nat // k≤3}) (fun k=>lnT (tx k.1) (k.1:Int)) (fun _=>lnH op a b c n) (fun k=>3 - k.1) (fun _=>Nat.zero_le _) (fun⟨k,hk⟩=>?_) ⟨0,by omega⟩
  dsimp only
  have hk:k=0∨k=1∨k=2∨k=3:=by omega
  rcases hk with rfl | rfl | rfl | rfl
  ·show xcode _ _ _ _ _ (mkTm 119 (lnT (tx 0) 0)) _ _
   have e:tx 1=tx 0++r0W op a:=rfl
   have lt:(tx 0).length≤150:=by show(nameW op).length≤150; first | omega | (simp only [List.length_append]; omega)
   generalize tx 0=t0 at *
   rw [ln_l0]
   have q1:=slenK t0 1 (by omega); have q2:=slenK t0 2 (by omega)
   by_cases z:rA op < 0
   ·rw [show r0W op a=[] from if_pos z,List.append_nil] at e
    (refine zR ?_)
    exact⟨rfl,⟨1,by omega⟩,by simp only; omega,[.id 0,.id 1,.id 2],by dsimp only; rw [e]; (exact zC)⟩
   by_cases y23:op=23
   ·have e2:r0W op a=[32]++callW a:=by unfold r0W; rw [if_neg z]; (repeat' split) <;> first | rfl | omega
    rw [e2] at e
    have q3:=slenA t0 [32] (callW a) (by simp only [List.length_cons,List.length_nil]; omega)
    simp only [wa,q1,q2,q3,l0a,l1a,catA]
    (refine zR ?_)
    exact⟨rfl,⟨1,by omega⟩,by simp only; omega,[.id 0,.id 1,.id 2],by dsimp only; rw [e]; (exact zC)⟩
   by_cases y8:op=8
   ·have e2:r0W op a=[32,114]++decW a:=by unfold r0W; rw [if_neg z]; (repeat' split) <;> first | rfl | omega
    rw [e2] at e
    have q3:=slenA t0 [32,114] (decW a) (by simp only [List.length_cons,List.length_nil]; omega)
    simp only [wa,q1,q2,q3,l0a,l1a,catA]
    (refine zR ?_)
    exact⟨rfl,⟨1,by omega⟩,by simp only; omega,[.id 0,.id 1,.id 2],by dsimp only; rw [e]; (exact zC)⟩
   by_cases y9:op=9
   ·have e2:r0W op a=[32,114]++decW a:=by unfold r0W; rw [if_neg z]; (repeat' split) <;> first | rfl | omega
    rw [e2] at e
    have q3:=slenA t0 [32,114] (decW a) (by simp only [List.length_cons,List.length_nil]; omega)
    simp only [wa,q1,q2,q3,l0a,l1a,catA]
    (refine zR ?_)
    exact⟨rfl,⟨1,by omega⟩,by simp only; omega,[.id 0,.id 1,.id 2],by dsimp only; rw [e]; (exact zC)⟩
   by_cases y12:op=12
   ·have e2:r0W op a=[32,114]++decW a:=by unfold r0W; rw [if_neg z]; (repeat' split) <;> first | rfl | omega
    rw [e2] at e
    have q3:=slenA t0 [32,114] (decW a) (by simp only [List.length_cons,List.length_nil]; omega)
    simp only [wa,q1,q2,q3,l0a,l1a,catA]
    (refine zR ?_)
    exact⟨rfl,⟨1,by omega⟩,by simp only; omega,[.id 0,.id 1,.id 2],by dsimp only; rw [e]; (exact zC)⟩
   by_cases y13:op=13
   ·have e2:r0W op a=[32,114]++decW a:=by unfold r0W; rw [if_neg z]; (repeat' split) <;> first | rfl | omega
    rw [e2] at e
    have q3:=slenA t0 [32,114] (decW a) (by simp only [List.length_cons,List.length_nil]; omega)
    simp only [wa,q1,q2,q3,l0a,l1a,catA]
    (refine zR ?_)
    exact⟨rfl,⟨1,by omega⟩,by simp only; omega,[.id 0,.id 1,.id 2],by dsimp only; rw [e]; (exact zC)⟩
   ·have e2:r0W op a=[32,114]++decW a:=by unfold r0W; rw [if_neg z]; (repeat' split) <;> first | rfl | omega
    rw [e2] at e
    have q3:=slenA t0 [32,114] (decW a) (by simp only [List.length_cons,List.length_nil]; omega)
    simp only [wa,q1,q2,q3,l0a,l1a,catA]
    (refine zR ?_)
    exact⟨rfl,⟨1,by omega⟩,by simp only; omega,[.id 0,.id 1,.id 2],by dsimp only; rw [e]; (exact zC)⟩
  ·show xcode _ _ _ _ _ (mkTm 119 (lnT (tx 1) 1)) _ _
   have e:tx 2=tx 1++r1W op b:=rfl
   have lt:(tx 1).length≤150:=by show(nameW op++r0W op a).length≤150; first | omega | (simp only [List.length_append]; omega)
   generalize tx 1=t0 at *
   rw [ln_l1]
   have q1:=slenK t0 1 (by omega); have q2:=slenK t0 2 (by omega)
   by_cases z:rB op < 0
   ·rw [show r1W op b=[] from if_pos z,List.append_nil] at e
    (refine zR ?_)
    exact⟨rfl,⟨2,by omega⟩,by simp only; omega,[.id 0,.id 1,.id 2],by dsimp only; rw [e]; (exact zC)⟩
   by_cases y23:op=23
   ·have e2:r1W op b=[32]++decW b:=by unfold r1W; rw [if_neg z]; (repeat' split) <;> first | rfl | omega
    rw [e2] at e
    have q3:=slenA t0 [32] (decW b) (by simp only [List.length_cons,List.length_nil]; omega)
    simp only [wb,q1,q2,q3,l0b,l1b,catA]
    (refine zR ?_)
    exact⟨rfl,⟨2,by omega⟩,by simp only; omega,[.id 0,.id 1,.id 2],by dsimp only; rw [e]; (exact zC)⟩
   by_cases y8:op=8
   ·have e2:r1W op b=[32,114]++decW b:=by unfold r1W; rw [if_neg z]; (repeat' split) <;> first | rfl | omega
    rw [e2] at e
    have q3:=slenA t0 [32,114] (decW b) (by simp only [List.length_cons,List.length_nil]; omega)
    simp only [wb,q1,q2,q3,l0b,l1b,catA]
    (refine zR ?_)
    exact⟨rfl,⟨2,by omega⟩,by simp only; omega,[.id 0,.id 1,.id 2],by dsimp only; rw [e]; (exact zC)⟩
   by_cases y9:op=9
   ·have e2:r1W op b=[32,114]++decW b:=by unfold r1W; rw [if_neg z]; (repeat' split) <;> first | rfl | omega
    rw [e2] at e
    have q3:=slenA t0 [32,114] (decW b) (by simp only [List.length_cons,List.length_nil]; omega)
    simp only [wb,q1,q2,q3,l0b,l1b,catA]
    (refine zR ?_)
    exact⟨rfl,⟨2,by omega⟩,by simp only; omega,[.id 0,.id 1,.id 2],by dsimp only; rw [e]; (exact zC)⟩
   by_cases y12:op=12
   ·have e2:r1W op b=[32,114]++decW b:=by unfold r1W; rw [if_neg z]; (repeat' split) <;> first | rfl | omega
    rw [e2] at e
    have q3:=slenA t0 [32,114] (decW b) (by simp only [List.length_cons,List.length_nil]; omega)
    simp only [wb,q1,q2,q3,l0b,l1b,catA]
    (refine zR ?_)
    exact⟨rfl,⟨2,by omega⟩,by simp only; omega,[.id 0,.id 1,.id 2],by dsimp only; rw [e]; (exact zC)⟩
   by_cases y13:op=13
   ·have e2:r1W op b=[32,114]++decW b:=by unfold r1W; rw [if_neg z]; (repeat' split) <;> first | rfl | omega
    rw [e2] at e
    have q3:=slenA t0 [32,114] (decW b) (by simp only [List.length_cons,List.length_nil]; omega)
    simp only [wb,q1,q2,q3,l0b,l1b,catA]
    (refine zR ?_)
    exact⟨rfl,⟨2,by omega⟩,by simp only; omega,[.id 0,.id 1,.id 2],by dsimp only; rw [e]; (exact zC)⟩
   ·have e2:r1W op b=[32,114]++decW b:=by unfold r1W; rw [if_neg z]; (repeat' split) <;> first | rfl | omega
    rw [e2] at e
    have q3:=slenA t0 [32,114] (decW b) (by simp only [List.length_cons,List.length_nil]; omega)
    simp only [wb,q1,q2,q3,l0b,l1b,catA]
    (refine zR ?_)
    exact⟨rfl,⟨2,by omega⟩,by simp only; omega,[.id 0,.id 1,.id 2],by dsimp only; rw [e]; (exact zC)⟩
  ·show xcode _ _ _ _ _ (mkTm 119 (lnT (tx 2) 2)) _ _
   have e:tx 3=tx 2++r2W op c:=rfl
   have lt:(tx 2).length≤150:=by show(nameW op++r0W op a++r1W op b).length≤150; first | omega | (simp only [List.length_append]; omega)
   generalize tx 2=t0 at *
   rw [ln_l2]
   have q1:=slenK t0 1 (by omega); have q2:=slenK t0 2 (by omega)
   by_cases z:rC op < 0
   ·rw [show r2W op c=[] from if_pos z,List.append_nil] at e
    (refine zR ?_)
    exact⟨rfl,⟨3,by omega⟩,by simp only; omega,[.id 0,.id 1,.id 2],by dsimp only; rw [e]; (exact zC)⟩
   by_cases y23:op=23
   ·have e2:r2W op c=[32,114]++decW c:=by unfold r2W; rw [if_neg z]; (repeat' split) <;> first | rfl | omega
    rw [e2] at e
    have q3:=slenA t0 [32,114] (decW c) (by simp only [List.length_cons,List.length_nil]; omega)
    simp only [wc,q1,q2,q3,l0c,l1c,catA]
    (refine zR ?_)
    exact⟨rfl,⟨3,by omega⟩,by simp only; omega,[.id 0,.id 1,.id 2],by dsimp only; rw [e]; (exact zC)⟩
   by_cases y8:op=8
   ·have e2:r2W op c=[32]++decW c:=by unfold r2W; rw [if_neg z]; (repeat' split) <;> first | rfl | omega
    rw [e2] at e
    have q3:=slenA t0 [32] (decW c) (by simp only [List.length_cons,List.length_nil]; omega)
    simp only [wc,q1,q2,q3,l0c,l1c,catA]
    (refine zR ?_)
    exact⟨rfl,⟨3,by omega⟩,by simp only; omega,[.id 0,.id 1,.id 2],by dsimp only; rw [e]; (exact zC)⟩
   by_cases y9:op=9
   ·have e2:r2W op c=[32]++decW c:=by unfold r2W; rw [if_neg z]; (repeat' split) <;> first | rfl | omega
    rw [e2] at e
    have q3:=slenA t0 [32] (decW c) (by simp only [List.length_cons,List.length_nil]; omega)
    simp only [wc,q1,q2,q3,l0c,l1c,catA]
    (refine zR ?_)
    exact⟨rfl,⟨3,by omega⟩,by simp only; omega,[.id 0,.id 1,.id 2],by dsimp only; rw [e]; (exact zC)⟩
   by_cases y12:op=12
   ·have e2:r2W op c=[32,108]++decW c:=by unfold r2W; rw [if_neg z]; (repeat' split) <;> first | rfl | omega
    rw [e2] at e
    have q3:=slenA t0 [32,108] (decW c) (by simp only [List.length_cons,List.length_nil]; omega)
    simp only [wc,q1,q2,q3,l0c,l1c,catA]
    (refine zR ?_)
    exact⟨rfl,⟨3,by omega⟩,by simp only; omega,[.id 0,.id 1,.id 2],by dsimp only; rw [e]; (exact zC)⟩
   by_cases y13:op=13
   ·have e2:r2W op c=[32,108]++decW c:=by unfold r2W; rw [if_neg z]; (repeat' split) <;> first | rfl | omega
    rw [e2] at e
    have q3:=slenA t0 [32,108] (decW c) (by simp only [List.length_cons,List.length_nil]; omega)
    simp only [wc,q1,q2,q3,l0c,l1c,catA]
    (refine zR ?_)
    exact⟨rfl,⟨3,by omega⟩,by simp only; omega,[.id 0,.id 1,.id 2],by dsimp only; rw [e]; (exact zC)⟩
   ·have e2:r2W op c=[32,114]++decW c:=by unfold r2W; rw [if_neg z]; (repeat' split) <;> first | rfl | omega
    rw [e2] at e
    have q3:=slenA t0 [32,114] (decW c) (by simp only [List.length_cons,List.length_nil]; omega)
    simp only [wc,q1,q2,q3,l0c,l1c,catA]
    (refine zR ?_)
    exact⟨rfl,⟨3,by omega⟩,by simp only; omega,[.id 0,.id 1,.id 2],by dsimp only; rw [e]; (exact zC)⟩
  ·show xcode _ _ _ _ _ (mkTm 119 (lnT (tx 3) 3)) _ _
   rw [ln_l3]
   exact⟨rfl,(),[.id 0,.id 1,.id 2],by(exact zC)⟩
 have e:lineW op a b c n=tx 3++r3W op n:=(line_eq o1 o2 a b c n).symm
 have lt:(tx 3).length≤200:=by show(nameW op++r0W op a++r1W op b++r2W op c).length≤200; simp only [List.length_append]; omega
 generalize tx 3=t0 at *
 refine SSp.last cxL_ok (n:=40) (mkS_le (Nat.zero_le _)) ?_
 rw [ln_z]
 cases z:rD op with
 | false =>
   rw [show r3W op n=[] by unfold r3W; rw [z]; rfl,List.append_nil] at e
   exact⟨trivial,rfl,_,_,[],⟨by rw [e],rfl⟩,by(exact zC)⟩
 | true =>
   rw [show r3W op n=[32]++decW n by unfold r3W; rw [if_pos z]; rfl] at e
   have q1:=slenK t0 1 (by omega)
   have q3:=slenA t0 [32] (decW n) (by simp only [List.length_cons,List.length_nil]; omega)
   simp only [q1,q3,l0n,l1n,catA]
   (refine zR ?_)
   exact⟨trivial,rfl,_,_,[],⟨by rw [e],rfl⟩,by(exact zC)⟩
end
end Go.Lev
