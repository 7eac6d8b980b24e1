import Derived.Test.YtnkkkihgljbllaaDoorCX7
import Derived.Test.YtnkkkihgljbllaaDoorCP5
/- text: the reference's instruction: its trees -/
namespace Go.Lev
set_option linter.unusedSimpArgs false
set_option linter.unusedVariables false
open Go.RowKit
open Go.Proofs.Tryd (prog)
set_option maxRecDepth 100000
noncomputable section
def Ea:Gc:=fun args s=>match args with
 | [.int .i64 op]=>some ([ad .leq 0 op,ad .leq op 23],uR op,s)
 | _=>none
theorem WI:bX prog 43 Ea:=by
 intro args s bs l s' hg hb hfr;unfold Ea at hg;split at hg
 ·rename_i op;simp only [a8,bn] at hg;obtain⟨rfl,rfl,rfl⟩:=hg;obtain⟨k1,k2⟩:=bv.1 hb;obtain⟨k2,_⟩:=bv.1 k2;rw [iq,cu] at k1 k2;exact a0j.i3i hfr rfl rfl (Jz op s.g)
 ·cases hg
abbrev oX:List Nat:=[0,1,2,3,8,9,10,11,12,15,16,17,18,19]
def o3:Cx:=eP [(43,Ea),(35,jm yT),(49,Dq)]
abbrev zk (op a b c n:Int):LB:=.cells [.z op,.z a,.z b,.z c,.int .u64 n] none
abbrev B4 (s:ap) (ln cl:Int) (bd:Bool):LB:=.cells [.str s,.z ln,.z cl,.b bd] none
abbrev Hr (a b c:Int):LB:=.cells [.z a,.z b,.z c] none
abbrev wQ (wx:al) (x:Int):a9:=[.cells wx (some 4),zk 0 0 0 0 0,B4 [] 0 0 false,Hr 0 0 0,zk x 0 0 0 0]
abbrev wP (o m:Nat) (e ln n:Int) (p:Nat):List (Nat×LV):=[(0,.slo 0 o m 0),(1,.z e),(2,.z ln),(3,.z n),(8,.ptr 1 0),(9,.ptr 2 0),(10,.ptr 3 0),(11,.ptr 4 0),(12,.z p)]
abbrev nV (wx:al) (x a b c n:Int) (js:ap) (jl jc:Int) (jb:Bool):a9:=[.cells wx (some 4),zk 0 0 0 0 0,B4 [] 0 0 false,Hr 0 0 0,zk x a b c n,.cells [.str (bB x),.z (rA x),.z (rB x),.z (rC x),.b (rD x)] none,B4 js jl jc jb]
abbrev lG (o m:Nat) (e ln n:Int) (k:Nat) (f:Int):List (Nat×LV):=[(0,.slo 0 o m 0),(1,.z e),(2,.z ln),(3,.z n),(8,.ptr 1 0),(9,.ptr 2 0),(10,.ptr 3 0),(11,.ptr 4 0),(15,.ptr 5 0),(17,.ptr 6 0),(18,.z k),(19,.z f)]
theorem xU:cT prog (cv o3):=fQ ⟨WI,ju IK,SP,trivial⟩
theorem NJ (o m:Nat) (e ln n:Int) (wx:al) (K:Pk):(bc prog o3 60 178 (bS (sp prog 37) 0 3) (cO [.slo 0 o m 0,.z e,.z ln,.z n]) (ai [.cells wx (some 4)] aq) (vK oX K))=(
 K .normal [.slo 0 o m 0,.z e,.z ln,.z n,.ptr 1 0,.ptr 2 0,.ptr 3 0,.ptr 4 0,.z 1,.tup [],.tup [],.tup [],.tup [],.tup []] [sC wx 4,sN [.z 0,.z 0,.z 0,.z 0,.int .u64 0],sN [.str [],.z 0,.z 0,.b false],sN [.z 0,.z 0,.z 0],sN [.z 0,.z 0,.z 0,.z 0,.int .u64 0]] aq):=ak
abbrev Ex (p:Nat) (x:Int) (wx:al):bE:=[sC wx 4,sN [.z 0,.z 0,.z 0,.z 0,.int .u64 0],sN [.str [],.z 0,.z 0,.b false],sN [.z 0,.z 0,.z 0],sN [.z x,.z 0,.z 0,.z 0,.int .u64 0],sN [.str (bB ↑p),.z (rA ↑p),.z (rB ↑p),.z (rC ↑p),.b (rD ↑p)]]
theorem NM (o m:Nat) (e ln n:Int) (p:Nat) (x:Int) (wx:al) (K:Pk):(aX prog o3 60 178 (ce (bi (sp prog 37) 3)) (aF 178 (wP o m e ln n p)) (ai (wQ wx x) aq) (vK oX K))=(
 cond (ad .leq (↑p) 23) (ck (ad .leq 0 ↑p) <|
 ck (ad .leq (↑p) 23) <|
 cond (iP ↑p) (ck (ag 1 m) <|
 ck (ag (aa (aa (ah o 0 4) 3) 1) (aG wx)) <|
 ck (eM (af wx (aa (ah o 0 4) 3))) <|
 cond (bu (ba (af wx (aa (ah o 0 4) 3)))) (ck (ag 1 m) <|
 ck (ag (aa (ah o 0 4) 1) (aG wx)) <|
 ck (cW (af wx (ah o 0 4))) <|
 cond (bA .eql (bB ↑p) (aK (af wx (ah o 0 4)))) (K .normal [.slo 0 o m 0,.z e,.z ln,.z n,.ptr 1 0,.ptr 2 0,.ptr 3 0,.ptr 4 0,.z (au .add .i64 (↑p) 1),.any,.any,.any,.any,.any] [sC wx 4,sN [.z 0,.z 0,.z 0,.z 0,.int .u64 0],sN [.str [],.z 0,.z 0,.b false],sN [.z 0,.z 0,.z 0],sN [.z ↑p,.z 0,.z 0,.z 0,.int .u64 0],sN [.str (bB ↑p),.z (rA ↑p),.z (rB ↑p),.z (rC ↑p),.b (rD ↑p)]] aq) (K .normal [.slo 0 o m 0,.z e,.z ln,.z n,.ptr 1 0,.ptr 2 0,.ptr 3 0,.ptr 4 0,.z (au .add .i64 (↑p) 1),.any,.any,.any,.any,.any] (Ex p x wx) aq)) (K .normal [.slo 0 o m 0,.z e,.z ln,.z n,.ptr 1 0,.ptr 2 0,.ptr 3 0,.ptr 4 0,.z (au .add .i64 (↑p) 1),.any,.any,.any,.any,.any] (Ex p x wx) aq)) (K .normal [.slo 0 o m 0,.z e,.z ln,.z n,.ptr 1 0,.ptr 2 0,.ptr 3 0,.ptr 4 0,.z (au .add .i64 (↑p) 1),.any,.any,.any,.any,.any] (Ex p x wx) aq)) (K (.exit 0) [.slo 0 o m 0,.z e,.z ln,.z n,.ptr 1 0,.ptr 2 0,.ptr 3 0,.ptr 4 0,.z ↑p,.any,.any,.any,.any,.any] [sC wx 4,sN [.z 0,.z 0,.z 0,.z 0,.int .u64 0],sN [.str [],.z 0,.z 0,.b false],sN [.z 0,.z 0,.z 0],sN [.z x,.z 0,.z 0,.z 0,.int .u64 0]] aq)):=ak
theorem NK (o m:Nat) (e ln n:Int) (p:Nat) (x:Int) (wx:al) (K:Pk):(bc prog o3 60 178 (bS (sp prog 37) 4 8) (aF 178 (wP o m e ln n p)) (ai (wQ wx x) aq) (vK oX K))=(
 ck (ad .leq 0 x) <|
 ck (ad .leq x 23) <|
 cond (bu (iP x)) (ck (ag 1 m) <|
 ck (ag (aa (aa (ah o 0 4) 2) 1) (aG wx)) <|
 ck (a7 .i64 (af wx (aa (ah o 0 4) 2))) <|
 ck (ag (aa (aa (ah o 0 4) 2) 1) (aG wx)) <|
 ck (a7 .i64 (af wx (aa (ah o 0 4) 2))) <|
 ck (ad .eql (ar (af wx (aa (ah o 0 4) 2))) (ar (af wx (aa (ah o 0 4) 2)))) <|
 ck (ag (aa (aa (ah o 0 4) 2) 1) (aG wx)) <|
 ck (a7 .i64 (af wx (aa (ah o 0 4) 2))) <|
 ck (ad .eql (ar (af wx (aa (ah o 0 4) 2))) (ar (af wx (aa (ah o 0 4) 2)))) <|
 ck (ag (aa (aa (ah o 0 4) 2) 1) (aG wx)) <|
 ck (a7 .i64 (af wx (aa (ah o 0 4) 2))) <|
 ck (ad .eql (ar (af wx (aa (ah o 0 4) 2))) (ar (af wx (aa (ah o 0 4) 2)))) <|
 ck (ag (aa (aa (ah o 0 4) 2) 1) (aG wx)) <|
 ck (a7 .i64 (af wx (aa (ah o 0 4) 2))) <|
 ck (ad .eql (ar (af wx (aa (ah o 0 4) 2))) (ar (af wx (aa (ah o 0 4) 2)))) <|
 K .ret [.slo 0 o m 0,.z e,.z ln,.z n,.ptr 1 0,.ptr 2 0,.ptr 3 0,.ptr 4 0,.z ↑p,.ptr 5 0,.b (iP x),.any,.any,.any] [sC wx 4,sN [.z x,.z 0,.z 0,.z 0,.int .u64 0],sN [.str [],.z 0,.z 0,.b false],sN [.z ln,.z (ar (af wx (aa (ah o 0 4) 2))),.z 12],sN [.z x,.z 0,.z 0,.z 0,.int .u64 0],sN [.str (bB x),.z (rA x),.z (rB x),.z (rC x),.b (rD x)]] aq) (cond (ad .geq n 40) (ck (ag 1 m) <|
 ck (ag (aa (aa (ah o 0 4) 2) 1) (aG wx)) <|
 ck (a7 .i64 (af wx (aa (ah o 0 4) 2))) <|
 ck (ag (aa (aa (ah o 0 4) 2) 1) (aG wx)) <|
 ck (a7 .i64 (af wx (aa (ah o 0 4) 2))) <|
 ck (ad .eql (ar (af wx (aa (ah o 0 4) 2))) (ar (af wx (aa (ah o 0 4) 2)))) <|
 ck (ag (aa (aa (ah o 0 4) 2) 1) (aG wx)) <|
 ck (a7 .i64 (af wx (aa (ah o 0 4) 2))) <|
 ck (ad .eql (ar (af wx (aa (ah o 0 4) 2))) (ar (af wx (aa (ah o 0 4) 2)))) <|
 ck (ag (aa (aa (ah o 0 4) 2) 1) (aG wx)) <|
 ck (a7 .i64 (af wx (aa (ah o 0 4) 2))) <|
 ck (ad .eql (ar (af wx (aa (ah o 0 4) 2))) (ar (af wx (aa (ah o 0 4) 2)))) <|
 ck (ag (aa (aa (ah o 0 4) 2) 1) (aG wx)) <|
 ck (a7 .i64 (af wx (aa (ah o 0 4) 2))) <|
 ck (ad .eql (ar (af wx (aa (ah o 0 4) 2))) (ar (af wx (aa (ah o 0 4) 2)))) <|
 K .ret [.slo 0 o m 0,.z e,.z ln,.z n,.ptr 1 0,.ptr 2 0,.ptr 3 0,.ptr 4 0,.z ↑p,.ptr 5 0,.b (iP x),.any,.any,.any] [sC wx 4,sN [.z x,.z 0,.z 0,.z 0,.int .u64 0],sN [.str [],.z 0,.z 0,.b false],sN [.z ln,.z (ar (af wx (aa (ah o 0 4) 2))),.z 4],sN [.z x,.z 0,.z 0,.z 0,.int .u64 0],sN [.str (bB x),.z (rA x),.z (rB x),.z (rC x),.b (rD x)]] aq) (K .normal [.slo 0 o m 0,.z e,.z ln,.z n,.ptr 1 0,.ptr 2 0,.ptr 3 0,.ptr 4 0,.z ↑p,.ptr 5 0,.b (iP x),.ptr 6 0,.z 1,.z 0] [sC wx 4,sN [.z 0,.z 0,.z 0,.z 0,.int .u64 0],sN [.str [],.z 0,.z 0,.b false],sN [.z 0,.z 0,.z 0],sN [.z x,.z 0,.z 0,.z 0,.int .u64 0],sN [.str (bB x),.z (rA x),.z (rB x),.z (rC x),.b (rD x)],sN [.str [],.z 0,.z 0,.b false]] aq))):=ak
theorem Q0 (o m:Nat) (e ln n:Int) (k:Nat) (x a b c d:Int) (js:ap) (jl jc:Int) (jb:Bool) (wx:al) (K:Pk):(aX prog o3 60 178 (ce (bi (sp prog 37) 12)) (aF 178 (lG o m e ln n k 0)) (ai (nV wx x a b c d js jl jc jb) aq) (vK oX K))=(
 cond (ad .lss (rA x) 0) (K .normal [.slo 0 o m 0,.z e,.z ln,.z n,.ptr 1 0,.ptr 2 0,.ptr 3 0,.ptr 4 0,.any,.ptr 5 0,.any,.ptr 6 0,.z ↑k,.z 1] [sC wx 4,sN [.z 0,.z 0,.z 0,.z 0,.int .u64 0],sN [.str [],.z 0,.z 0,.b false],sN [.z 0,.z 0,.z 0],sN [.z x,.z a,.z b,.z c,.int .u64 d],sN [.str (bB x),.z (rA x),.z (rB x),.z (rC x),.b (rD x)],sN [.str js,.z jl,.z jc,.b jb]] aq) (cond (ad .geq ↑k ↑m) (K .ret [.slo 0 o m 0,.z e,.z ln,.z n,.ptr 1 0,.ptr 2 0,.ptr 3 0,.ptr 4 0,.any,.ptr 5 0,.any,.ptr 6 0,.z ↑k,.z 0] [sC wx 4,sN [.z x,.z a,.z b,.z c,.int .u64 d],sN [.str [],.z 0,.z 0,.b false],sN [.z ln,.z e,.z 12],sN [.z x,.z a,.z b,.z c,.int .u64 d],sN [.str (bB x),.z (rA x),.z (rB x),.z (rC x),.b (rD x)],sN [.str js,.z jl,.z jc,.b jb]] aq) (ck (ag (aa (ae ↑k) 1) m) <|
 ck (ag (aa (ah o (ae ↑k) 4) 4) (aG wx)) <|
 ck (cW (af wx (ah o (ae ↑k) 4))) <|
 ck (a7 .i64 (af wx (aa (ah o (ae ↑k) 4) 1))) <|
 ck (a7 .i64 (af wx (aa (aa (ah o (ae ↑k) 4) 1) 1))) <|
 ck (eM (af wx (aa (aa (aa (ah o (ae ↑k) 4) 1) 1) 1))) <|
 ck (dm dZ) <|
 cond (bu (dr x 0 (aK (af wx (ah o (ae ↑k) 4))) (ba (af wx (aa (aa (aa (ah o (ae ↑k) 4) 1) 1) 1))) (rA x) (rB x) (rC x))) (ck (ad .eql (ar (af wx (aa (aa (ah o (ae ↑k) 4) 1) 1))) (ar (af wx (aa (aa (ah o (ae ↑k) 4) 1) 1)))) <|
 ck (ad .eql (ar (af wx (aa (aa (ah o (ae ↑k) 4) 1) 1))) (ar (af wx (aa (aa (ah o (ae ↑k) 4) 1) 1)))) <|
 ck (ad .eql (ar (af wx (aa (aa (ah o (ae ↑k) 4) 1) 1))) (ar (af wx (aa (aa (ah o (ae ↑k) 4) 1) 1)))) <|
 ck (ad .eql (ar (af wx (aa (aa (ah o (ae ↑k) 4) 1) 1))) (ar (af wx (aa (aa (ah o (ae ↑k) 4) 1) 1)))) <|
 K .ret [.slo 0 o m 0,.z e,.z ln,.z n,.ptr 1 0,.ptr 2 0,.ptr 3 0,.ptr 4 0,.any,.ptr 5 0,.b (dr x 0 (aK (af wx (ah o (ae ↑k) 4))) (ba (af wx (aa (aa (aa (ah o (ae ↑k) 4) 1) 1) 1))) (rA x) (rB x) (rC x)),.ptr 6 0,.z (au .add .i64 (↑k) 1),.z 0] [sC wx 4,sN [.z x,.z (bl 0 x 0 (aK (af wx (ah o (ae ↑k) 4))) (ba (af wx (aa (aa (aa (ah o (ae ↑k) 4) 1) 1) 1))) (rA x) (rB x) (rC x) a),.z (bl 1 x 0 (aK (af wx (ah o (ae ↑k) 4))) (ba (af wx (aa (aa (aa (ah o (ae ↑k) 4) 1) 1) 1))) (rA x) (rB x) (rC x) b),.z (bl 2 x 0 (aK (af wx (ah o (ae ↑k) 4))) (ba (af wx (aa (aa (aa (ah o (ae ↑k) 4) 1) 1) 1))) (rA x) (rB x) (rC x) c),.int .u64 (bl 3 x 0 (aK (af wx (ah o (ae ↑k) 4))) (ba (af wx (aa (aa (aa (ah o (ae ↑k) 4) 1) 1) 1))) (rA x) (rB x) (rC x) d)],sN [.str [],.z 0,.z 0,.b false],sN [.z ln,.z (ar (af wx (aa (aa (ah o (ae ↑k) 4) 1) 1))),.z 12],sN [.z x,.z (bl 0 x 0 (aK (af wx (ah o (ae ↑k) 4))) (ba (af wx (aa (aa (aa (ah o (ae ↑k) 4) 1) 1) 1))) (rA x) (rB x) (rC x) a),.z (bl 1 x 0 (aK (af wx (ah o (ae ↑k) 4))) (ba (af wx (aa (aa (aa (ah o (ae ↑k) 4) 1) 1) 1))) (rA x) (rB x) (rC x) b),.z (bl 2 x 0 (aK (af wx (ah o (ae ↑k) 4))) (ba (af wx (aa (aa (aa (ah o (ae ↑k) 4) 1) 1) 1))) (rA x) (rB x) (rC x) c),.int .u64 (bl 3 x 0 (aK (af wx (ah o (ae ↑k) 4))) (ba (af wx (aa (aa (aa (ah o (ae ↑k) 4) 1) 1) 1))) (rA x) (rB x) (rC x) d)],sN [.str (bB x),.z (rA x),.z (rB x),.z (rC x),.b (rD x)],sN [.str js,.z jl,.z jc,.b jb],sN [.str (aK (af wx (ah o (ae ↑k) 4))),.z (ar (af wx (aa (ah o (ae ↑k) 4) 1))),.z (ar (af wx (aa (aa (ah o (ae ↑k) 4) 1) 1))),.b (ba (af wx (aa (aa (aa (ah o (ae ↑k) 4) 1) 1) 1)))]] aq) (K .normal [.slo 0 o m 0,.z e,.z ln,.z n,.ptr 1 0,.ptr 2 0,.ptr 3 0,.ptr 4 0,.any,.ptr 5 0,.b (dr x 0 (aK (af wx (ah o (ae ↑k) 4))) (ba (af wx (aa (aa (aa (ah o (ae ↑k) 4) 1) 1) 1))) (rA x) (rB x) (rC x)),.ptr 6 0,.z (au .add .i64 (↑k) 1),.z 1] [sC wx 4,sN [.z 0,.z 0,.z 0,.z 0,.int .u64 0],sN [.str [],.z 0,.z 0,.b false],sN [.z 0,.z 0,.z 0],sN [.z x,.z (bl 0 x 0 (aK (af wx (ah o (ae ↑k) 4))) (ba (af wx (aa (aa (aa (ah o (ae ↑k) 4) 1) 1) 1))) (rA x) (rB x) (rC x) a),.z (bl 1 x 0 (aK (af wx (ah o (ae ↑k) 4))) (ba (af wx (aa (aa (aa (ah o (ae ↑k) 4) 1) 1) 1))) (rA x) (rB x) (rC x) b),.z (bl 2 x 0 (aK (af wx (ah o (ae ↑k) 4))) (ba (af wx (aa (aa (aa (ah o (ae ↑k) 4) 1) 1) 1))) (rA x) (rB x) (rC x) c),.int .u64 (bl 3 x 0 (aK (af wx (ah o (ae ↑k) 4))) (ba (af wx (aa (aa (aa (ah o (ae ↑k) 4) 1) 1) 1))) (rA x) (rB x) (rC x) d)],sN [.str (bB x),.z (rA x),.z (rB x),.z (rC x),.b (rD x)],sN [.str js,.z jl,.z jc,.b jb],sN [.str (aK (af wx (ah o (ae ↑k) 4))),.z (ar (af wx (aa (ah o (ae ↑k) 4) 1))),.z (ar (af wx (aa (aa (ah o (ae ↑k) 4) 1) 1))),.b (ba (af wx (aa (aa (aa (ah o (ae ↑k) 4) 1) 1) 1)))]] aq)))):=ak
theorem Q1 (o m:Nat) (e ln n:Int) (k:Nat) (x a b c d:Int) (js:ap) (jl jc:Int) (jb:Bool) (wx:al) (K:Pk):(aX prog o3 60 178 (ce (bi (sp prog 37) 12)) (aF 178 (lG o m e ln n k 1)) (ai (nV wx x a b c d js jl jc jb) aq) (vK oX K))=(
 cond (ad .lss (rB x) 0) (K .normal [.slo 0 o m 0,.z e,.z ln,.z n,.ptr 1 0,.ptr 2 0,.ptr 3 0,.ptr 4 0,.any,.ptr 5 0,.any,.ptr 6 0,.z ↑k,.z 2] [sC wx 4,sN [.z 0,.z 0,.z 0,.z 0,.int .u64 0],sN [.str [],.z 0,.z 0,.b false],sN [.z 0,.z 0,.z 0],sN [.z x,.z a,.z b,.z c,.int .u64 d],sN [.str (bB x),.z (rA x),.z (rB x),.z (rC x),.b (rD x)],sN [.str js,.z jl,.z jc,.b jb]] aq) (cond (ad .geq ↑k ↑m) (K .ret [.slo 0 o m 0,.z e,.z ln,.z n,.ptr 1 0,.ptr 2 0,.ptr 3 0,.ptr 4 0,.any,.ptr 5 0,.any,.ptr 6 0,.z ↑k,.z 1] [sC wx 4,sN [.z x,.z a,.z b,.z c,.int .u64 d],sN [.str [],.z 0,.z 0,.b false],sN [.z ln,.z e,.z 12],sN [.z x,.z a,.z b,.z c,.int .u64 d],sN [.str (bB x),.z (rA x),.z (rB x),.z (rC x),.b (rD x)],sN [.str js,.z jl,.z jc,.b jb]] aq) (ck (ag (aa (ae ↑k) 1) m) <|
 ck (ag (aa (ah o (ae ↑k) 4) 4) (aG wx)) <|
 ck (cW (af wx (ah o (ae ↑k) 4))) <|
 ck (a7 .i64 (af wx (aa (ah o (ae ↑k) 4) 1))) <|
 ck (a7 .i64 (af wx (aa (aa (ah o (ae ↑k) 4) 1) 1))) <|
 ck (eM (af wx (aa (aa (aa (ah o (ae ↑k) 4) 1) 1) 1))) <|
 ck (dm dZ) <|
 cond (bu (dr x 1 (aK (af wx (ah o (ae ↑k) 4))) (ba (af wx (aa (aa (aa (ah o (ae ↑k) 4) 1) 1) 1))) (rA x) (rB x) (rC x))) (ck (ad .eql (ar (af wx (aa (aa (ah o (ae ↑k) 4) 1) 1))) (ar (af wx (aa (aa (ah o (ae ↑k) 4) 1) 1)))) <|
 ck (ad .eql (ar (af wx (aa (aa (ah o (ae ↑k) 4) 1) 1))) (ar (af wx (aa (aa (ah o (ae ↑k) 4) 1) 1)))) <|
 ck (ad .eql (ar (af wx (aa (aa (ah o (ae ↑k) 4) 1) 1))) (ar (af wx (aa (aa (ah o (ae ↑k) 4) 1) 1)))) <|
 ck (ad .eql (ar (af wx (aa (aa (ah o (ae ↑k) 4) 1) 1))) (ar (af wx (aa (aa (ah o (ae ↑k) 4) 1) 1)))) <|
 K .ret [.slo 0 o m 0,.z e,.z ln,.z n,.ptr 1 0,.ptr 2 0,.ptr 3 0,.ptr 4 0,.any,.ptr 5 0,.b (dr x 1 (aK (af wx (ah o (ae ↑k) 4))) (ba (af wx (aa (aa (aa (ah o (ae ↑k) 4) 1) 1) 1))) (rA x) (rB x) (rC x)),.ptr 6 0,.z (au .add .i64 (↑k) 1),.z 1] [sC wx 4,sN [.z x,.z (bl 0 x 1 (aK (af wx (ah o (ae ↑k) 4))) (ba (af wx (aa (aa (aa (ah o (ae ↑k) 4) 1) 1) 1))) (rA x) (rB x) (rC x) a),.z (bl 1 x 1 (aK (af wx (ah o (ae ↑k) 4))) (ba (af wx (aa (aa (aa (ah o (ae ↑k) 4) 1) 1) 1))) (rA x) (rB x) (rC x) b),.z (bl 2 x 1 (aK (af wx (ah o (ae ↑k) 4))) (ba (af wx (aa (aa (aa (ah o (ae ↑k) 4) 1) 1) 1))) (rA x) (rB x) (rC x) c),.int .u64 (bl 3 x 1 (aK (af wx (ah o (ae ↑k) 4))) (ba (af wx (aa (aa (aa (ah o (ae ↑k) 4) 1) 1) 1))) (rA x) (rB x) (rC x) d)],sN [.str [],.z 0,.z 0,.b false],sN [.z ln,.z (ar (af wx (aa (aa (ah o (ae ↑k) 4) 1) 1))),.z 12],sN [.z x,.z (bl 0 x 1 (aK (af wx (ah o (ae ↑k) 4))) (ba (af wx (aa (aa (aa (ah o (ae ↑k) 4) 1) 1) 1))) (rA x) (rB x) (rC x) a),.z (bl 1 x 1 (aK (af wx (ah o (ae ↑k) 4))) (ba (af wx (aa (aa (aa (ah o (ae ↑k) 4) 1) 1) 1))) (rA x) (rB x) (rC x) b),.z (bl 2 x 1 (aK (af wx (ah o (ae ↑k) 4))) (ba (af wx (aa (aa (aa (ah o (ae ↑k) 4) 1) 1) 1))) (rA x) (rB x) (rC x) c),.int .u64 (bl 3 x 1 (aK (af wx (ah o (ae ↑k) 4))) (ba (af wx (aa (aa (aa (ah o (ae ↑k) 4) 1) 1) 1))) (rA x) (rB x) (rC x) d)],sN [.str (bB x),.z (rA x),.z (rB x),.z (rC x),.b (rD x)],sN [.str js,.z jl,.z jc,.b jb],sN [.str (aK (af wx (ah o (ae ↑k) 4))),.z (ar (af wx (aa (ah o (ae ↑k) 4) 1))),.z (ar (af wx (aa (aa (ah o (ae ↑k) 4) 1) 1))),.b (ba (af wx (aa (aa (aa (ah o (ae ↑k) 4) 1) 1) 1)))]] aq) (K .normal [.slo 0 o m 0,.z e,.z ln,.z n,.ptr 1 0,.ptr 2 0,.ptr 3 0,.ptr 4 0,.any,.ptr 5 0,.b (dr x 1 (aK (af wx (ah o (ae ↑k) 4))) (ba (af wx (aa (aa (aa (ah o (ae ↑k) 4) 1) 1) 1))) (rA x) (rB x) (rC x)),.ptr 6 0,.z (au .add .i64 (↑k) 1),.z 2] [sC wx 4,sN [.z 0,.z 0,.z 0,.z 0,.int .u64 0],sN [.str [],.z 0,.z 0,.b false],sN [.z 0,.z 0,.z 0],sN [.z x,.z (bl 0 x 1 (aK (af wx (ah o (ae ↑k) 4))) (ba (af wx (aa (aa (aa (ah o (ae ↑k) 4) 1) 1) 1))) (rA x) (rB x) (rC x) a),.z (bl 1 x 1 (aK (af wx (ah o (ae ↑k) 4))) (ba (af wx (aa (aa (aa (ah o (ae ↑k) 4) 1) 1) 1))) (rA x) (rB x) (rC x) b),.z (bl 2 x 1 (aK (af wx (ah o (ae ↑k) 4))) (ba (af wx (aa (aa (aa (ah o (ae ↑k) 4) 1) 1) 1))) (rA x) (rB x) (rC x) c),.int .u64 (bl 3 x 1 (aK (af wx (ah o (ae ↑k) 4))) (ba (af wx (aa (aa (aa (ah o (ae ↑k) 4) 1) 1) 1))) (rA x) (rB x) (rC x) d)],sN [.str (bB x),.z (rA x),.z (rB x),.z (rC x),.b (rD x)],sN [.str js,.z jl,.z jc,.b jb],sN [.str (aK (af wx (ah o (ae ↑k) 4))),.z (ar (af wx (aa (ah o (ae ↑k) 4) 1))),.z (ar (af wx (aa (aa (ah o (ae ↑k) 4) 1) 1))),.b (ba (af wx (aa (aa (aa (ah o (ae ↑k) 4) 1) 1) 1)))]] aq)))):=ak
abbrev qE (o:Nat) (ln:Int) (k:Nat) (x:Int) (a:Int) (b:Int) (c:Int) (d:Int) (js:ap) (jl:Int) (jc:Int) (jb:Bool) (wx:al):bE:=[sC wx 4,sN [.z x,.z a,.z b,.z c,.int .u64 d],sN [.str [],.z 0,.z 0,.b false],sN [.z ln,.z (ar (af wx (aa (aa (ah o (ae ↑k) 4) 1) 1))),.z 12],sN [.z x,.z a,.z b,.z c,.int .u64 d],sN [.str (bB x),.z (rA x),.z (rB x),.z (rC x),.b (rD x)],sN [.str js,.z jl,.z jc,.b jb],sN [.str (aK (af wx (ah o (ae ↑k) 4))),.z (ar (af wx (aa (ah o (ae ↑k) 4) 1))),.z (ar (af wx (aa (aa (ah o (ae ↑k) 4) 1) 1))),.b (ba (af wx (aa (aa (aa (ah o (ae ↑k) 4) 1) 1) 1)))]]
abbrev yi (o:Nat) (k:Nat) (x:Int) (a:Int) (b:Int) (c:Int) (d:Int) (wx:al):bE:=[sC wx 4,sN [.z 0,.z 0,.z 0,.z 0,.int .u64 0],sN [.str [],.z 0,.z 0,.b false],sN [.z 0,.z 0,.z 0],sN [.z x,.z a,.z b,.z c,.int .u64 d],sN [.str (bB x),.z (rA x),.z (rB x),.z (rC x),.b (rD x)],sN [.str (aK (af wx (ah o (ae ↑k) 4))),.z (ar (af wx (aa (ah o (ae ↑k) 4) 1))),.z (ar (af wx (aa (aa (ah o (ae ↑k) 4) 1) 1))),.b (ba (af wx (aa (aa (aa (ah o (ae ↑k) 4) 1) 1) 1)))],sN [.str (aK (af wx (ah o (ae ↑k) 4))),.z (ar (af wx (aa (ah o (ae ↑k) 4) 1))),.z (ar (af wx (aa (aa (ah o (ae ↑k) 4) 1) 1))),.b (ba (af wx (aa (aa (aa (ah o (ae ↑k) 4) 1) 1) 1)))]]
theorem Q2 (o m:Nat) (e ln n:Int) (k:Nat) (x a b c d:Int) (js:ap) (jl jc:Int) (jb:Bool) (wx:al) (K:Pk):(aX prog o3 60 178 (ce (bi (sp prog 37) 12)) (aF 178 (lG o m e ln n k 2)) (ai (nV wx x a b c d js jl jc jb) aq) (vK oX K))=(
 cond (ad .lss (rC x) 0) (K .normal [.slo 0 o m 0,.z e,.z ln,.z n,.ptr 1 0,.ptr 2 0,.ptr 3 0,.ptr 4 0,.any,.ptr 5 0,.any,.ptr 6 0,.z ↑k,.z 3] [sC wx 4,sN [.z 0,.z 0,.z 0,.z 0,.int .u64 0],sN [.str [],.z 0,.z 0,.b false],sN [.z 0,.z 0,.z 0],sN [.z x,.z a,.z b,.z c,.int .u64 d],sN [.str (bB x),.z (rA x),.z (rB x),.z (rC x),.b (rD x)],sN [.str js,.z jl,.z jc,.b jb]] aq) (cond (ad .geq ↑k ↑m) (K .ret [.slo 0 o m 0,.z e,.z ln,.z n,.ptr 1 0,.ptr 2 0,.ptr 3 0,.ptr 4 0,.any,.ptr 5 0,.any,.ptr 6 0,.z ↑k,.z 2] [sC wx 4,sN [.z x,.z a,.z b,.z c,.int .u64 d],sN [.str [],.z 0,.z 0,.b false],sN [.z ln,.z e,.z 12],sN [.z x,.z a,.z b,.z c,.int .u64 d],sN [.str (bB x),.z (rA x),.z (rB x),.z (rC x),.b (rD x)],sN [.str js,.z jl,.z jc,.b jb]] aq) (ck (ag (aa (ae ↑k) 1) m) <|
 ck (ag (aa (ah o (ae ↑k) 4) 4) (aG wx)) <|
 ck (cW (af wx (ah o (ae ↑k) 4))) <|
 ck (a7 .i64 (af wx (aa (ah o (ae ↑k) 4) 1))) <|
 ck (a7 .i64 (af wx (aa (aa (ah o (ae ↑k) 4) 1) 1))) <|
 ck (eM (af wx (aa (aa (aa (ah o (ae ↑k) 4) 1) 1) 1))) <|
 cond (ad .eql x 12) (cond (ba (af wx (aa (aa (aa (ah o (ae ↑k) 4) 1) 1) 1))) (ck (ad .eql (ar (af wx (aa (aa (ah o (ae ↑k) 4) 1) 1))) (ar (af wx (aa (aa (ah o (ae ↑k) 4) 1) 1)))) <|
 ck (ad .eql (ar (af wx (aa (aa (ah o (ae ↑k) 4) 1) 1))) (ar (af wx (aa (aa (ah o (ae ↑k) 4) 1) 1)))) <|
 ck (ad .eql (ar (af wx (aa (aa (ah o (ae ↑k) 4) 1) 1))) (ar (af wx (aa (aa (ah o (ae ↑k) 4) 1) 1)))) <|
 ck (ad .eql (ar (af wx (aa (aa (ah o (ae ↑k) 4) 1) 1))) (ar (af wx (aa (aa (ah o (ae ↑k) 4) 1) 1)))) <|
 K .ret [.slo 0 o m 0,.z e,.z ln,.z n,.ptr 1 0,.ptr 2 0,.ptr 3 0,.ptr 4 0,.any,.ptr 5 0,.any,.ptr 6 0,.z (au .add .i64 (↑k) 1),.z 2] (qE o ln k x a b c d js jl jc jb wx) aq) (ck (ag (am (aK (af wx (ah o (ae ↑k) 4)))) 1000000000) <|
 cond (bu (dW (aK (af wx (ah o (ae ↑k) 4))))) (ck (ad .eql (ar (af wx (aa (aa (ah o (ae ↑k) 4) 1) 1))) (ar (af wx (aa (aa (ah o (ae ↑k) 4) 1) 1)))) <|
 ck (ad .eql (ar (af wx (aa (aa (ah o (ae ↑k) 4) 1) 1))) (ar (af wx (aa (aa (ah o (ae ↑k) 4) 1) 1)))) <|
 ck (ad .eql (ar (af wx (aa (aa (ah o (ae ↑k) 4) 1) 1))) (ar (af wx (aa (aa (ah o (ae ↑k) 4) 1) 1)))) <|
 ck (ad .eql (ar (af wx (aa (aa (ah o (ae ↑k) 4) 1) 1))) (ar (af wx (aa (aa (ah o (ae ↑k) 4) 1) 1)))) <|
 K .ret [.slo 0 o m 0,.z e,.z ln,.z n,.ptr 1 0,.ptr 2 0,.ptr 3 0,.ptr 4 0,.any,.ptr 5 0,.any,.ptr 6 0,.z (au .add .i64 (↑k) 1),.z 2] (qE o ln k x a b c d js jl jc jb wx) aq) (K .normal [.slo 0 o m 0,.z e,.z ln,.z n,.ptr 1 0,.ptr 2 0,.ptr 3 0,.ptr 4 0,.any,.ptr 5 0,.any,.ptr 6 0,.z (au .add .i64 (↑k) 1),.z 3] (yi o k x a b c d wx) aq))) (cond (ad .eql x 13) (cond (ba (af wx (aa (aa (aa (ah o (ae ↑k) 4) 1) 1) 1))) (ck (ad .eql (ar (af wx (aa (aa (ah o (ae ↑k) 4) 1) 1))) (ar (af wx (aa (aa (ah o (ae ↑k) 4) 1) 1)))) <|
 ck (ad .eql (ar (af wx (aa (aa (ah o (ae ↑k) 4) 1) 1))) (ar (af wx (aa (aa (ah o (ae ↑k) 4) 1) 1)))) <|
 ck (ad .eql (ar (af wx (aa (aa (ah o (ae ↑k) 4) 1) 1))) (ar (af wx (aa (aa (ah o (ae ↑k) 4) 1) 1)))) <|
 ck (ad .eql (ar (af wx (aa (aa (ah o (ae ↑k) 4) 1) 1))) (ar (af wx (aa (aa (ah o (ae ↑k) 4) 1) 1)))) <|
 K .ret [.slo 0 o m 0,.z e,.z ln,.z n,.ptr 1 0,.ptr 2 0,.ptr 3 0,.ptr 4 0,.any,.ptr 5 0,.any,.ptr 6 0,.z (au .add .i64 (↑k) 1),.z 2] (qE o ln k x a b c d js jl jc jb wx) aq) (ck (ag (am (aK (af wx (ah o (ae ↑k) 4)))) 1000000000) <|
 cond (bu (dW (aK (af wx (ah o (ae ↑k) 4))))) (ck (ad .eql (ar (af wx (aa (aa (ah o (ae ↑k) 4) 1) 1))) (ar (af wx (aa (aa (ah o (ae ↑k) 4) 1) 1)))) <|
 ck (ad .eql (ar (af wx (aa (aa (ah o (ae ↑k) 4) 1) 1))) (ar (af wx (aa (aa (ah o (ae ↑k) 4) 1) 1)))) <|
 ck (ad .eql (ar (af wx (aa (aa (ah o (ae ↑k) 4) 1) 1))) (ar (af wx (aa (aa (ah o (ae ↑k) 4) 1) 1)))) <|
 ck (ad .eql (ar (af wx (aa (aa (ah o (ae ↑k) 4) 1) 1))) (ar (af wx (aa (aa (ah o (ae ↑k) 4) 1) 1)))) <|
 K .ret [.slo 0 o m 0,.z e,.z ln,.z n,.ptr 1 0,.ptr 2 0,.ptr 3 0,.ptr 4 0,.any,.ptr 5 0,.any,.ptr 6 0,.z (au .add .i64 (↑k) 1),.z 2] (qE o ln k x a b c d js jl jc jb wx) aq) (K .normal [.slo 0 o m 0,.z e,.z ln,.z n,.ptr 1 0,.ptr 2 0,.ptr 3 0,.ptr 4 0,.any,.ptr 5 0,.any,.ptr 6 0,.z (au .add .i64 (↑k) 1),.z 3] (yi o k x a b c d wx) aq))) (ck (dm dZ) <|
 cond (bu (dr x 2 (aK (af wx (ah o (ae ↑k) 4))) (ba (af wx (aa (aa (aa (ah o (ae ↑k) 4) 1) 1) 1))) (rA x) (rB x) (rC x))) (ck (ad .eql (ar (af wx (aa (aa (ah o (ae ↑k) 4) 1) 1))) (ar (af wx (aa (aa (ah o (ae ↑k) 4) 1) 1)))) <|
 ck (ad .eql (ar (af wx (aa (aa (ah o (ae ↑k) 4) 1) 1))) (ar (af wx (aa (aa (ah o (ae ↑k) 4) 1) 1)))) <|
 ck (ad .eql (ar (af wx (aa (aa (ah o (ae ↑k) 4) 1) 1))) (ar (af wx (aa (aa (ah o (ae ↑k) 4) 1) 1)))) <|
 ck (ad .eql (ar (af wx (aa (aa (ah o (ae ↑k) 4) 1) 1))) (ar (af wx (aa (aa (ah o (ae ↑k) 4) 1) 1)))) <|
 K .ret [.slo 0 o m 0,.z e,.z ln,.z n,.ptr 1 0,.ptr 2 0,.ptr 3 0,.ptr 4 0,.any,.ptr 5 0,.b (dr x 2 (aK (af wx (ah o (ae ↑k) 4))) (ba (af wx (aa (aa (aa (ah o (ae ↑k) 4) 1) 1) 1))) (rA x) (rB x) (rC x)),.ptr 6 0,.z (au .add .i64 (↑k) 1),.z 2] [sC wx 4,sN [.z x,.z (bl 0 x 2 (aK (af wx (ah o (ae ↑k) 4))) (ba (af wx (aa (aa (aa (ah o (ae ↑k) 4) 1) 1) 1))) (rA x) (rB x) (rC x) a),.z (bl 1 x 2 (aK (af wx (ah o (ae ↑k) 4))) (ba (af wx (aa (aa (aa (ah o (ae ↑k) 4) 1) 1) 1))) (rA x) (rB x) (rC x) b),.z (bl 2 x 2 (aK (af wx (ah o (ae ↑k) 4))) (ba (af wx (aa (aa (aa (ah o (ae ↑k) 4) 1) 1) 1))) (rA x) (rB x) (rC x) c),.int .u64 (bl 3 x 2 (aK (af wx (ah o (ae ↑k) 4))) (ba (af wx (aa (aa (aa (ah o (ae ↑k) 4) 1) 1) 1))) (rA x) (rB x) (rC x) d)],sN [.str [],.z 0,.z 0,.b false],sN [.z ln,.z (ar (af wx (aa (aa (ah o (ae ↑k) 4) 1) 1))),.z 12],sN [.z x,.z (bl 0 x 2 (aK (af wx (ah o (ae ↑k) 4))) (ba (af wx (aa (aa (aa (ah o (ae ↑k) 4) 1) 1) 1))) (rA x) (rB x) (rC x) a),.z (bl 1 x 2 (aK (af wx (ah o (ae ↑k) 4))) (ba (af wx (aa (aa (aa (ah o (ae ↑k) 4) 1) 1) 1))) (rA x) (rB x) (rC x) b),.z (bl 2 x 2 (aK (af wx (ah o (ae ↑k) 4))) (ba (af wx (aa (aa (aa (ah o (ae ↑k) 4) 1) 1) 1))) (rA x) (rB x) (rC x) c),.int .u64 (bl 3 x 2 (aK (af wx (ah o (ae ↑k) 4))) (ba (af wx (aa (aa (aa (ah o (ae ↑k) 4) 1) 1) 1))) (rA x) (rB x) (rC x) d)],sN [.str (bB x),.z (rA x),.z (rB x),.z (rC x),.b (rD x)],sN [.str js,.z jl,.z jc,.b jb],sN [.str (aK (af wx (ah o (ae ↑k) 4))),.z (ar (af wx (aa (ah o (ae ↑k) 4) 1))),.z (ar (af wx (aa (aa (ah o (ae ↑k) 4) 1) 1))),.b (ba (af wx (aa (aa (aa (ah o (ae ↑k) 4) 1) 1) 1)))]] aq) (K .normal [.slo 0 o m 0,.z e,.z ln,.z n,.ptr 1 0,.ptr 2 0,.ptr 3 0,.ptr 4 0,.any,.ptr 5 0,.b (dr x 2 (aK (af wx (ah o (ae ↑k) 4))) (ba (af wx (aa (aa (aa (ah o (ae ↑k) 4) 1) 1) 1))) (rA x) (rB x) (rC x)),.ptr 6 0,.z (au .add .i64 (↑k) 1),.z 3] [sC wx 4,sN [.z 0,.z 0,.z 0,.z 0,.int .u64 0],sN [.str [],.z 0,.z 0,.b false],sN [.z 0,.z 0,.z 0],sN [.z x,.z (bl 0 x 2 (aK (af wx (ah o (ae ↑k) 4))) (ba (af wx (aa (aa (aa (ah o (ae ↑k) 4) 1) 1) 1))) (rA x) (rB x) (rC x) a),.z (bl 1 x 2 (aK (af wx (ah o (ae ↑k) 4))) (ba (af wx (aa (aa (aa (ah o (ae ↑k) 4) 1) 1) 1))) (rA x) (rB x) (rC x) b),.z (bl 2 x 2 (aK (af wx (ah o (ae ↑k) 4))) (ba (af wx (aa (aa (aa (ah o (ae ↑k) 4) 1) 1) 1))) (rA x) (rB x) (rC x) c),.int .u64 (bl 3 x 2 (aK (af wx (ah o (ae ↑k) 4))) (ba (af wx (aa (aa (aa (ah o (ae ↑k) 4) 1) 1) 1))) (rA x) (rB x) (rC x) d)],sN [.str (bB x),.z (rA x),.z (rB x),.z (rC x),.b (rD x)],sN [.str js,.z jl,.z jc,.b jb],sN [.str (aK (af wx (ah o (ae ↑k) 4))),.z (ar (af wx (aa (ah o (ae ↑k) 4) 1))),.z (ar (af wx (aa (aa (ah o (ae ↑k) 4) 1) 1))),.b (ba (af wx (aa (aa (aa (ah o (ae ↑k) 4) 1) 1) 1)))]] aq)))))):=ak
theorem Q3 (o m:Nat) (e ln n:Int) (k:Nat) (x a b c d:Int) (js:ap) (jl jc:Int) (jb:Bool) (wx:al) (K:Pk):(aX prog o3 60 178 (ce (bi (sp prog 37) 12)) (aF 178 (lG o m e ln n k 3)) (ai (nV wx x a b c d js jl jc jb) aq) (vK oX K))=(
 cond (bu (rD x)) (K .normal [.slo 0 o m 0,.z e,.z ln,.z n,.ptr 1 0,.ptr 2 0,.ptr 3 0,.ptr 4 0,.any,.ptr 5 0,.any,.ptr 6 0,.z ↑k,.z 4] [sC wx 4,sN [.z 0,.z 0,.z 0,.z 0,.int .u64 0],sN [.str [],.z 0,.z 0,.b false],sN [.z 0,.z 0,.z 0],sN [.z x,.z a,.z b,.z c,.int .u64 d],sN [.str (bB x),.z (rA x),.z (rB x),.z (rC x),.b (rD x)],sN [.str js,.z jl,.z jc,.b jb]] aq) (cond (ad .geq ↑k ↑m) (K .ret [.slo 0 o m 0,.z e,.z ln,.z n,.ptr 1 0,.ptr 2 0,.ptr 3 0,.ptr 4 0,.any,.ptr 5 0,.any,.ptr 6 0,.z ↑k,.z 3] [sC wx 4,sN [.z x,.z a,.z b,.z c,.int .u64 d],sN [.str [],.z 0,.z 0,.b false],sN [.z ln,.z e,.z 12],sN [.z x,.z a,.z b,.z c,.int .u64 d],sN [.str (bB x),.z (rA x),.z (rB x),.z (rC x),.b (rD x)],sN [.str js,.z jl,.z jc,.b jb]] aq) (ck (ag (aa (ae ↑k) 1) m) <|
 ck (ag (aa (ah o (ae ↑k) 4) 4) (aG wx)) <|
 ck (cW (af wx (ah o (ae ↑k) 4))) <|
 ck (a7 .i64 (af wx (aa (ah o (ae ↑k) 4) 1))) <|
 ck (a7 .i64 (af wx (aa (aa (ah o (ae ↑k) 4) 1) 1))) <|
 ck (eM (af wx (aa (aa (aa (ah o (ae ↑k) 4) 1) 1) 1))) <|
 ck (dm dZ) <|
 cond (bu (dr x 3 (aK (af wx (ah o (ae ↑k) 4))) (ba (af wx (aa (aa (aa (ah o (ae ↑k) 4) 1) 1) 1))) (rA x) (rB x) (rC x))) (ck (ad .eql (ar (af wx (aa (aa (ah o (ae ↑k) 4) 1) 1))) (ar (af wx (aa (aa (ah o (ae ↑k) 4) 1) 1)))) <|
 ck (ad .eql (ar (af wx (aa (aa (ah o (ae ↑k) 4) 1) 1))) (ar (af wx (aa (aa (ah o (ae ↑k) 4) 1) 1)))) <|
 ck (ad .eql (ar (af wx (aa (aa (ah o (ae ↑k) 4) 1) 1))) (ar (af wx (aa (aa (ah o (ae ↑k) 4) 1) 1)))) <|
 ck (ad .eql (ar (af wx (aa (aa (ah o (ae ↑k) 4) 1) 1))) (ar (af wx (aa (aa (ah o (ae ↑k) 4) 1) 1)))) <|
 K .ret [.slo 0 o m 0,.z e,.z ln,.z n,.ptr 1 0,.ptr 2 0,.ptr 3 0,.ptr 4 0,.any,.ptr 5 0,.b (dr x 3 (aK (af wx (ah o (ae ↑k) 4))) (ba (af wx (aa (aa (aa (ah o (ae ↑k) 4) 1) 1) 1))) (rA x) (rB x) (rC x)),.ptr 6 0,.z (au .add .i64 (↑k) 1),.z 3] [sC wx 4,sN [.z x,.z (bl 0 x 3 (aK (af wx (ah o (ae ↑k) 4))) (ba (af wx (aa (aa (aa (ah o (ae ↑k) 4) 1) 1) 1))) (rA x) (rB x) (rC x) a),.z (bl 1 x 3 (aK (af wx (ah o (ae ↑k) 4))) (ba (af wx (aa (aa (aa (ah o (ae ↑k) 4) 1) 1) 1))) (rA x) (rB x) (rC x) b),.z (bl 2 x 3 (aK (af wx (ah o (ae ↑k) 4))) (ba (af wx (aa (aa (aa (ah o (ae ↑k) 4) 1) 1) 1))) (rA x) (rB x) (rC x) c),.int .u64 (bl 3 x 3 (aK (af wx (ah o (ae ↑k) 4))) (ba (af wx (aa (aa (aa (ah o (ae ↑k) 4) 1) 1) 1))) (rA x) (rB x) (rC x) d)],sN [.str [],.z 0,.z 0,.b false],sN [.z ln,.z (ar (af wx (aa (aa (ah o (ae ↑k) 4) 1) 1))),.z 12],sN [.z x,.z (bl 0 x 3 (aK (af wx (ah o (ae ↑k) 4))) (ba (af wx (aa (aa (aa (ah o (ae ↑k) 4) 1) 1) 1))) (rA x) (rB x) (rC x) a),.z (bl 1 x 3 (aK (af wx (ah o (ae ↑k) 4))) (ba (af wx (aa (aa (aa (ah o (ae ↑k) 4) 1) 1) 1))) (rA x) (rB x) (rC x) b),.z (bl 2 x 3 (aK (af wx (ah o (ae ↑k) 4))) (ba (af wx (aa (aa (aa (ah o (ae ↑k) 4) 1) 1) 1))) (rA x) (rB x) (rC x) c),.int .u64 (bl 3 x 3 (aK (af wx (ah o (ae ↑k) 4))) (ba (af wx (aa (aa (aa (ah o (ae ↑k) 4) 1) 1) 1))) (rA x) (rB x) (rC x) d)],sN [.str (bB x),.z (rA x),.z (rB x),.z (rC x),.b (rD x)],sN [.str js,.z jl,.z jc,.b jb],sN [.str (aK (af wx (ah o (ae ↑k) 4))),.z (ar (af wx (aa (ah o (ae ↑k) 4) 1))),.z (ar (af wx (aa (aa (ah o (ae ↑k) 4) 1) 1))),.b (ba (af wx (aa (aa (aa (ah o (ae ↑k) 4) 1) 1) 1)))]] aq) (K .normal [.slo 0 o m 0,.z e,.z ln,.z n,.ptr 1 0,.ptr 2 0,.ptr 3 0,.ptr 4 0,.any,.ptr 5 0,.b (dr x 3 (aK (af wx (ah o (ae ↑k) 4))) (ba (af wx (aa (aa (aa (ah o (ae ↑k) 4) 1) 1) 1))) (rA x) (rB x) (rC x)),.ptr 6 0,.z (au .add .i64 (↑k) 1),.z 4] [sC wx 4,sN [.z 0,.z 0,.z 0,.z 0,.int .u64 0],sN [.str [],.z 0,.z 0,.b false],sN [.z 0,.z 0,.z 0],sN [.z x,.z (bl 0 x 3 (aK (af wx (ah o (ae ↑k) 4))) (ba (af wx (aa (aa (aa (ah o (ae ↑k) 4) 1) 1) 1))) (rA x) (rB x) (rC x) a),.z (bl 1 x 3 (aK (af wx (ah o (ae ↑k) 4))) (ba (af wx (aa (aa (aa (ah o (ae ↑k) 4) 1) 1) 1))) (rA x) (rB x) (rC x) b),.z (bl 2 x 3 (aK (af wx (ah o (ae ↑k) 4))) (ba (af wx (aa (aa (aa (ah o (ae ↑k) 4) 1) 1) 1))) (rA x) (rB x) (rC x) c),.int .u64 (bl 3 x 3 (aK (af wx (ah o (ae ↑k) 4))) (ba (af wx (aa (aa (aa (ah o (ae ↑k) 4) 1) 1) 1))) (rA x) (rB x) (rC x) d)],sN [.str (bB x),.z (rA x),.z (rB x),.z (rC x),.b (rD x)],sN [.str js,.z jl,.z jc,.b jb],sN [.str (aK (af wx (ah o (ae ↑k) 4))),.z (ar (af wx (aa (ah o (ae ↑k) 4) 1))),.z (ar (af wx (aa (aa (ah o (ae ↑k) 4) 1) 1))),.b (ba (af wx (aa (aa (aa (ah o (ae ↑k) 4) 1) 1) 1)))]] aq)))):=ak
theorem Q4 (o m:Nat) (e ln n:Int) (k:Nat) (x a b c d:Int) (js:ap) (jl jc:Int) (jb:Bool) (wx:al) (K:Pk):(aX prog o3 60 178 (ce (bi (sp prog 37) 12)) (aF 178 (lG o m e ln n k 4)) (ai (nV wx x a b c d js jl jc jb) aq) (vK oX K))=(
 K (.exit 2) [.slo 0 o m 0,.z e,.z ln,.z n,.ptr 1 0,.ptr 2 0,.ptr 3 0,.ptr 4 0,.any,.ptr 5 0,.any,.ptr 6 0,.z ↑k,.z 4] [sC wx 4,sN [.z 0,.z 0,.z 0,.z 0,.int .u64 0],sN [.str [],.z 0,.z 0,.b false],sN [.z 0,.z 0,.z 0],sN [.z x,.z a,.z b,.z c,.int .u64 d],sN [.str (bB x),.z (rA x),.z (rB x),.z (rC x),.b (rD x)],sN [.str js,.z jl,.z jc,.b jb]] aq):=ak
theorem NN (o m:Nat) (e ln n:Int) (k:Nat) (x a b c d:Int) (js:ap) (jl jc:Int) (jb:Bool) (wx:al) (K:Pk):(bc prog o3 60 178 ((sp prog 37).drop 13) (aF 178 (lG o m e ln n k 4)) (ai (nV wx x a b c d js jl jc jb) aq) (vK oX K))=(
 cond (ad .lss ↑k ↑m) (ck (ag (aa (ae ↑k) 1) m) <|
 ck (ag (aa (aa (ah o (ae ↑k) 4) 2) 1) (aG wx)) <|
 ck (a7 .i64 (af wx (aa (ah o (ae ↑k) 4) 2))) <|
 ck (ag (aa (aa (ah o (ae ↑k) 4) 2) 1) (aG wx)) <|
 ck (a7 .i64 (af wx (aa (ah o (ae ↑k) 4) 2))) <|
 ck (ad .eql (ar (af wx (aa (ah o (ae ↑k) 4) 2))) (ar (af wx (aa (ah o (ae ↑k) 4) 2)))) <|
 ck (ag (aa (aa (ah o (ae ↑k) 4) 2) 1) (aG wx)) <|
 ck (a7 .i64 (af wx (aa (ah o (ae ↑k) 4) 2))) <|
 ck (ad .eql (ar (af wx (aa (ah o (ae ↑k) 4) 2))) (ar (af wx (aa (ah o (ae ↑k) 4) 2)))) <|
 ck (ag (aa (aa (ah o (ae ↑k) 4) 2) 1) (aG wx)) <|
 ck (a7 .i64 (af wx (aa (ah o (ae ↑k) 4) 2))) <|
 ck (ad .eql (ar (af wx (aa (ah o (ae ↑k) 4) 2))) (ar (af wx (aa (ah o (ae ↑k) 4) 2)))) <|
 ck (ag (aa (aa (ah o (ae ↑k) 4) 2) 1) (aG wx)) <|
 ck (a7 .i64 (af wx (aa (ah o (ae ↑k) 4) 2))) <|
 ck (ad .eql (ar (af wx (aa (ah o (ae ↑k) 4) 2))) (ar (af wx (aa (ah o (ae ↑k) 4) 2)))) <|
 K .ret [.slo 0 o m 0,.z e,.z ln,.z n,.ptr 1 0,.ptr 2 0,.ptr 3 0,.ptr 4 0,.any,.ptr 5 0,.any,.ptr 6 0,.z ↑k,.z 4] [sC wx 4,sN [.z x,.z a,.z b,.z c,.int .u64 d],sN [.str [],.z 0,.z 0,.b false],sN [.z ln,.z (ar (af wx (aa (ah o (ae ↑k) 4) 2))),.z 12],sN [.z x,.z a,.z b,.z c,.int .u64 d],sN [.str (bB x),.z (rA x),.z (rB x),.z (rC x),.b (rD x)],sN [.str js,.z jl,.z jc,.b jb]] aq) (ck (bA .eql js js) <|
 ck (ad .eql jl jl) <|
 ck (ad .eql jc jc) <|
 ck (ge jb jb) <|
 ck (bA .eql js js) <|
 ck (ad .eql jl jl) <|
 ck (ad .eql jc jc) <|
 ck (ge jb jb) <|
 K .ret [.slo 0 o m 0,.z e,.z ln,.z n,.ptr 1 0,.ptr 2 0,.ptr 3 0,.ptr 4 0,.any,.ptr 5 0,.any,.ptr 6 0,.z ↑k,.z 4] [sC wx 4,sN [.z x,.z a,.z b,.z c,.int .u64 d],sN [.str js,.z jl,.z jc,.b jb],sN [.z 0,.z 0,.z 0],sN [.z x,.z a,.z b,.z c,.int .u64 d],sN [.str (bB x),.z (rA x),.z (rB x),.z (rC x),.b (rD x)],sN [.str js,.z jl,.z jc,.b jb]] aq)):=ak
def kJ:RW:=⟨[],0,0,false⟩
def gV (op f:Int):Bool:=if f=0 then !decide (rA op < 0) else if f=1 then !decide (rB op < 0) else if f=2 then !decide (rC op < 0) else rD op
def kq (op f:Int):Bool:=decide (f=2) && (decide (op=12) || decide (op=13))
def mF (w:RW):Bool:=!w.bd && dW w.s
def im (op f:Int) (w:RW) (x:bL):bL:=⟨x.op,bl 0 op f w.s w.bd (rA op) (rB op) (rC op) x.a,bl 1 op f w.s w.bd (rA op) (rB op) (rC op) x.b,bl 2 op f w.s w.bd (rA op) (rB op) (rC op) x.c,bl 3 op f w.s w.bd (rA op) (rB op) (rC op) x.n⟩
def kr (op f:Int) (w:RW):Bool:=dr op f w.s w.bd (rA op) (rB op) (rC op)
def gH (e op:Int):List Int→List RW→bL→RW→Option Int×List RW×bL×RW
 | [],ws,x,j=>(none,ws,x,j)
 | f::r,ws,x,j=>if gV op f=false then gH e op r ws x j else match ws with
   | []=>(some e,[],x,j)
   | w::ws'=>if kq op f then(if mF w then gH e op r ws' x w else(some w.cl,ws',x,j))
     else if kr op f w then gH e op r ws' (im op f w x) j else(some w.cl,ws',im op f w x,j)
def jN (v:RW):Int:=if v.bd then 0 else dV v.s
def w7 (ln:Int) (R:Option Int×List RW×bL×RW):bL×RW×(Int×Int×Int):=match R with
 | (some c,_,x,_)=>(x,kJ,(ln,c,12))
 | (none,[],x,j)=>(x,j,(0,0,0))
 | (none,w::_,x,_)=>(x,kJ,(ln,w.cl,12))
def ma (e ln n:Int) (ws:List RW):bL×RW×(Int×Int×Int) :=
 match ws with
 | []=>(⟨0,0,0,0,0⟩,kJ,(0,0,0))
 | v::r =>
   if iP (jN v)=false then(⟨jN v,0,0,0,0⟩,kJ,(ln,v.cl,12))
   else if 40≤n then(⟨jN v,0,0,0,0⟩,kJ,(ln,v.cl,4))
   else w7 ln (gH e (jN v) [0,1,2,3] r ⟨jN v,0,0,0,0⟩ kJ)
theorem xL {e op:Int} {f:Int} {r:List Int} {ws:List RW} {x:bL} {j:RW} (h:gV op f=false):gH e op (f::r) ws x j=gH e op r ws x j:=by cases ws <;> simp [gH,h]
theorem KW {e op:Int} {f:Int} {r:List Int} {x:bL} {j:RW} (h:gV op f=true):gH e op (f::r) [] x j=(some e,[],x,j):=by simp [gH,h]
theorem xK {e op:Int} {f:Int} {r:List Int} {w:RW} {ws:List RW} {x:bL} {j:RW} (h:gV op f=true):gH e op (f::r) (w::ws) x j=if kq op f then(if mF w then gH e op r ws x w else(some w.cl,ws,x,j)) else if kr op f w then gH e op r ws (im op f w x) j else(some w.cl,ws,im op f w x,j):=by simp [gH,h]
abbrev gI (x:bL):LV:=dq x.op x.a x.b x.c x.n
abbrev zy (x:RW):LV:=eH x.s x.ln x.cl x.bd
abbrev fT (z:Int×Int×Int):LV:=.agg [.z z.1,.z z.2.1,.z z.2.2]
def nE (v:RW) (k:Nat):Int:=if v.bd then 0 else fh jO k v.s
theorem Kz (f:Nat→ap) (s:ap):∀ k,0≤fh f k s∧fh f k s≤k
 | 0=>⟨Int.le_refl _,Int.le_refl _⟩
 | k+1=>by
   have:=Kz f s k;rw [fh];cases f (k+1) == s
   ·simp only [aD]; omega
   ·simp only [aw]; omega
theorem Tv (v:RW):0≤jN v∧jN v≤23:=by
 unfold jN;split
 ·omega
 ·exact Kz _ _ 23
structure Mm where
 k:Nat
 x:bL
 j:RW
structure WrP (wx:al) (o:Nat) (L:List RW):Prop where
 n:o+L.length * 4≤wx.length
 g:∀ i (h:i < L.length),af wx (o+i * 4)=.str L[i].s∧af wx (o+i * 4+1)=.z L[i].ln∧af wx (o+i * 4+1+1)=.z L[i].cl∧af wx (o+i * 4+1+1+1)=.b L[i].bd
theorem WrP.of (A L:List RW):WrP (aj cV (A++L)) (A.length * 4) L:=by
 refine⟨by rw [o6,cg]; omega,fun i h=>?_⟩;have hi:A.length+i < (A++L).length:=by rw [cg]; omega
 have eg:(A++L)[A.length+i]=L[i]:=by rw [List.getElem_append_right ab]; congr 1; omega
 have G:=fun j (hj:j < 4)=>gc (f:=cV) yd (j:=j) hi hj
 have g0:=G 0 ab; have g1:=G 1 ab; have g2:=G 2 ab; have g3:=G 3 ab;rw [eg] at g0 g1 g2 g3;rw [show A.length * 4+i * 4=(A.length+i) * 4+0 by omega];exact⟨g0,g1,g2,g3⟩
set_option maxHeartbeats 8000000 in
theorem Q5 (wx:al) (o:Nat) (L:List RW) (e ln n:Int) (hwx:a1u wx=true) (hW:WrP wx o L) (h1:1≤L.length) (hl:L.length≤100000) (hs:∀ w∈L,w.s.length≤1000000000) :
  a0j prog 37 [.slo 0 o L.length 0,.z e,.z ln,.z n] (ai [.cells wx (some 4)] aq) fun l st=>l=LV.tup [gI (ma e ln n L).1,zy (ma e ln n L).2.1,fT (ma e ln n L).2.2]∧st=ai [.cells wx (some 4)] aq:=by
 obtain⟨Z,hZ⟩:∃ Z,Z=ma e ln n L:=⟨_,rfl⟩;rw [← hZ];refine a0j.mono (a0j.i4j (Q:=fun l b=>l=LV.tup [gI Z.1,zy Z.2.1,fT Z.2.2]∧b=[.cells wx (some 4)]) 178 1 [.cell 8 42,.cell 9 90,.cell 10 95] oX ak rfl rfl ak ?_) fun l s' ⟨b0,⟨h1,h2⟩,h3⟩=>⟨h1,by rw [h3,h2]⟩
 obtain⟨v,ws,rfl⟩:∃ v ws,L=v::ws:=by
  cases L with
  | nil=>simp at h1
  | cons v ws=>exact⟨v,ws,rfl⟩
 generalize hL:v::ws=L at *;have v0:L[0]=v:=by subst hL; rfl
 obtain⟨z0,z1,z2,z3⟩:=hW.g 0 ab;simp only [lh,gA,v0] at z0 z1 z2 z3;have z2':af wx (o+2)=.z v.cl:=z2;have z3':af wx (o+3)=.b v.bd:=z3;have wn:=hW.n;have wS:∀ x,aK (.str x)=x:=fun _=>rfl
 have wiS:∀ x,cW (.str x)=true:=fun _=>rfl
 have wB:∀ x,ba (.b x)=x:=fun _=>rfl
 have wiB:∀ x,eM (.b x)=true:=fun _=>rfl
 have er:∀ x:Int,ad .eql x x=true:=fun x=>cD rfl
 have es:∀ x:ap,bA .eql x x=true:=fun x=>by show(x == x)=true; simp
 have eb:∀ x:Bool,ge x x=true:=fun x=>by cases x <;> rfl
 have m1:ag 1 L.length=true:=aO h1;have y1:ag (o+1) wx.length=true:=aO ab;have y3:ag (o+2+1) wx.length=true:=aO ab;have y4:ag (o+3+1) wx.length=true:=aO ab;have pF:dm dZ=true:=qG;refine SSp.to xU (n:=60) (g:=aq) 3 3 rfl (σ:=Unit) (fun _=>wP o L.length e ln n 1) (fun _=>wQ wx (nE v 0)) (bh (aS rfl)) ak ?_ fun _=>?_
 ·rw [NJ];have k0:nE v 0=0:=by unfold nE; split <;> rfl
  exact⟨rfl,(),[.id 0,.id 1,.id 2,.id 3,.id 4],by dsimp only; rw [k0]; (exact zC)⟩
 refine SSp.code_to (g:=aq) 4 rfl (σ:=Unit) (fun _=>wP o L.length e ln n 24) (fun _=>wQ wx (jN v)) ak ?_ fun _=>?_
 ·refine a0n.i3g xU (n:=60) (n0:=1) 0 ak (σ:={p:Nat // 1≤p∧p≤24}) (fun p=>wP o L.length e ln n p.1) (fun p=>wQ wx (nE v (p.1 - 1))) (fun p=>24 - p.1) (fun _=>aS rfl) (fun⟨p,hp1,hp2⟩=>?_) ⟨1,aR _,ab⟩;dsimp only at hp1 hp2 ⊢;generalize hx:nE v (p - 1)=x;rw [NM];by_cases h:p≤23
  ·have e3:au .add .i64 (p:Int) 1=((p+1:Nat):Int):=by rw [gb ab ab]; rfl
   simp only [show ad .leq 0 ((p:Nat):Int)=true from dX ab,show ad .leq ((p:Nat):Int) 23=true from dX ab,show iP ((p:Nat):Int)=true from by(simp [iP]; omega),cC,bP,b_,lh,gA,m1,y1,y4,z0,z3',wS,wiS,wB,wiB,e3,aw];have nx:∀ y,y=nE v p→nE v (p+1 - 1)=y:=fun y hy=>by rw [hy]; rfl
   have pe:p=(p - 1)+1:=ab;cases hb:v.bd with
   | true =>
     have:=nx x (by rw [← hx]; simp [nE,hb]);simp only [show bu true=false from rfl,aD];exact⟨rfl,⟨p+1,ab,ab⟩,by simp only; omega,[.id 0,.id 1,.id 2,.id 3,.id 4],by dsimp only; rw [this]; (exact zC)⟩
   | false =>
     simp only [show bu false=true from rfl,aw];have en:bB ((p:Nat):Int)=jO p:=rfl;cases hq:jO p == v.s with
     | true =>
       have:=nx ((p:Nat):Int) (by rw [nE,hb]; simp only [gd,dn]; rw [pe,fh,← pe,hq]; rfl);simp only [show bA .eql (bB ((p:Nat):Int)) v.s=true from hq,aw];exact⟨rfl,⟨p+1,ab,ab⟩,by simp only; omega,[.id 0,.id 1,.id 2,.id 3,.id 4],by dsimp only; rw [this]; (exact zC)⟩
     | false =>
       have:=nx x (by rw [← hx,nE,nE,hb]; simp only [gd,dn]; rw [pe,fh,← pe,hq]; rfl);simp only [show bA .eql (bB ((p:Nat):Int)) v.s=false from hq,aD];exact⟨rfl,⟨p+1,ab,ab⟩,by simp only; omega,[.id 0,.id 1,.id 2,.id 3,.id 4],by dsimp only; rw [this]; (exact zC)⟩
  ·simp only [show ad .leq ((p:Nat):Int) 23=false from tn ab,aD];obtain rfl:p=24:=ab;have hx:jN v=x:=hx;exact⟨rfl,(),[.id 0,.id 1,.id 2,.id 3,.id 4],by rw [hx]; (exact zC)⟩
 have hin:=Tv v;generalize hop:jN v=op at *;refine SSp.to xU (n:=60) (g:=aq) 8 12 rfl (σ:={_u:Unit // iP op=true∧¬ 40≤n}) (fun _=>lG o L.length e ln n 1 0) (fun _=>nV wx op 0 0 0 0 [] 0 0 false) (bh (aS rfl)) ak ?_ fun⟨_,ho,h40⟩=>?_
 ·rw [NK];simp only [cC,bP,b_,lh,gA,m1,y3,z2',er,dX hin.1,dX hin.2,cz,cf,bD,aw];cases ho:iP op with
  | false =>
    have hz:Z=(⟨op,0,0,0,0⟩,kJ,(ln,v.cl,12)):=by rw [hZ,← hL,ma,hop,aB ho]
    subst hz;simp only [show bu false=true from rfl,aw];exact⟨trivial,rfl,[dq op 0 0 0 0,eH [] 0 0 false,fT (ln,v.cl,12)],LV.tup [dq op 0 0 0 0,eH [] 0 0 false,fT (ln,v.cl,12)],[.cells wx (some 4)],[.id 0],ak,⟨rfl,rfl⟩,by(exact zC)⟩
  | true =>
    simp only [show bu true=false from rfl,aD];by_cases h40:40≤n
    ·have hz:Z=(⟨op,0,0,0,0⟩,kJ,(ln,v.cl,4)):=by rw [hZ,← hL,ma,hop,av (by rw [ho]; simp),aB h40]
     subst hz;simp only [show ad .geq n 40=true from qn h40,aw];exact⟨trivial,rfl,[dq op 0 0 0 0,eH [] 0 0 false,fT (ln,v.cl,4)],LV.tup [dq op 0 0 0 0,eH [] 0 0 false,fT (ln,v.cl,4)],[.cells wx (some 4)],[.id 0],ak,⟨rfl,rfl⟩,by(exact zC)⟩
    ·simp only [show ad .geq n 40=false from qk ab,aD];exact⟨rfl,⟨(),rfl,h40⟩,[.id 0,.id 1,.id 2,.id 3,.id 4,.id 5,.id 6],by(exact zC)⟩
 obtain⟨RES,hRES⟩:∃ R,R=gH e op [0,1,2,3] ws ⟨op,0,0,0,0⟩ kJ:=⟨_,rfl⟩;have hz:Z=w7 ln RES:=by
  rw [hZ,← hL,ma,hop,av (by rw [ho]; simp),av h40,hRES]
 have fin:∀ (c:Int) (w':List RW) (x:bL) (j:RW),(some c,w',x,j)=RES→Z=(x,kJ,(ln,c,12)):=fun c w' x j h=>by rw [hz,← h]; rfl
 refine SSp.code_to (g:=aq) 13 rfl (σ:={S:Mm // S.x.op=op∧S.k≤L.length∧(none,L.drop S.k,S.x,S.j)=RES}) (fun S=>lG o L.length e ln n S.1.k 4) (fun S=>nV wx op S.1.x.a S.1.x.b S.1.x.c S.1.x.n S.1.j.s S.1.j.ln S.1.j.cl S.1.j.bd) ak ?_ fun⟨⟨k,x,j⟩,hxo,hk,hR⟩=>?_
 ·refine a0n.i3g xU (n:=60) (n0:=1) 2 ak (σ:={p:Nat×Mm // p.1≤4∧p.2.x.op=op∧p.2.k≤L.length∧gH e op (([0,1,2,3]:List Int).drop p.1) (L.drop p.2.k) p.2.x p.2.j=RES}) (fun p=>lG o L.length e ln n p.1.2.k p.1.1) (fun p=>nV wx op p.1.2.x.a p.1.2.x.b p.1.2.x.c p.1.2.x.n p.1.2.j.s p.1.2.j.ln p.1.2.j.cl p.1.2.j.bd) (fun p=>4 - p.1.1) (fun _=>aS rfl) (fun⟨⟨f,⟨k,x,j⟩⟩,hf,hxo,hk,hR⟩=>?_) ⟨(0,⟨1,⟨op,0,0,0,0⟩,kJ⟩),ab,rfl,h1,by rw [hRES,← hL]; rfl⟩;dsimp only at hf hxo hk hR ⊢;subst hxo;have hf':f=0∨f=1∨f=2∨f=3∨f=4:=ab;rcases hf' with rfl | rfl | rfl | rfl | rfl
  ·change aX _ _ _ _ _ (aF 178 (lG o L.length e ln n k 0)) _ _;change gH e x.op (0::[1,2,3]) (L.drop k) x j=RES at hR;rw [Q0];by_cases hA:rA x.op < 0
   ·have ha:gV x.op 0=false:=by simp [gV,hA]
    rw [xL ha] at hR;simp only [show ad .lss (rA x.op) 0=true from ga hA,aw];exact⟨rfl,⟨(1,⟨k,x,j⟩),ab,rfl,hk,hR⟩,by simp only; omega,[.id 0,.id 1,.id 2,.id 3,.id 4,.id 5,.id 6],by(exact zC)⟩
   have ha:gV x.op 0=true:=by simp [gV,hA]
   simp only [show ad .lss (rA x.op) 0=false from f_ ab,aD];by_cases hkm:L.length≤k
   ·exact yJ
   have hkl:k < L.length:=ab;rw [jG hkl,xK ha] at hR;obtain⟨g0,g1,g2,g3⟩:=hW.g k hkl;have hsk:=hs _ (iw hkl);generalize L[k]=w at *;have b1:ag (k+1) L.length=true:=aO ab;have b2:ag (o+k * 4+4) wx.length=true:=aO ab;have b3:ag (am w.s) 1000000000=true:=aO hsk;have e3:au .add .i64 (k:Int) 1=((k+1:Nat):Int):=by rw [gb ab ab]; rfl
   simp only [show ad .geq ((k:Nat):Int) ((L.length:Nat):Int)=false from qk ab,ct,cC,bP,b_,b1,b2,b3,g0,g1,g2,g3,wS,wiS,wB,wiB,cf,cz,er,e3,pF,bD,aw,aD];have nj:kq x.op 0=false:=by simp [kq]
   rw [av (by rw [nj]; simp)] at hR;cases hO:kr x.op 0 w with
   | false =>
     rw [hO,av aC] at hR;have hz2:=fin _ _ _ _ hR;subst hz2;have hO':dr x.op 0 w.s w.bd (rA x.op) (rB x.op) (rC x.op)=false:=hO;simp only [hO',show bu false=true from rfl,aw];exact⟨trivial,rfl,[gI (im x.op 0 w x),eH [] 0 0 false,fT (ln,w.cl,12)],LV.tup [gI (im x.op 0 w x),eH [] 0 0 false,fT (ln,w.cl,12)],[.cells wx (some 4)],[.id 0],ak,⟨rfl,rfl⟩,by(exact zC)⟩
   | true =>
     rw [hO,aB rfl] at hR;have hO':dr x.op 0 w.s w.bd (rA x.op) (rB x.op) (rC x.op)=true:=hO;simp only [hO',show bu true=false from rfl,aD];exact⟨rfl,⟨(1,⟨k+1,im x.op 0 w x,j⟩),ab,rfl,hkl,hR⟩,by simp only; omega,[.id 0,.id 1,.id 2,.id 3,.id 4,.id 5,.id 6],by(exact zC)⟩
  ·change aX _ _ _ _ _ (aF 178 (lG o L.length e ln n k 1)) _ _;change gH e x.op (1::[2,3]) (L.drop k) x j=RES at hR;rw [Q1];by_cases hA:rB x.op < 0
   ·have ha:gV x.op 1=false:=by simp [gV,hA]
    rw [xL ha] at hR;simp only [show ad .lss (rB x.op) 0=true from ga hA,aw];exact⟨rfl,⟨(2,⟨k,x,j⟩),ab,rfl,hk,hR⟩,by simp only; omega,[.id 0,.id 1,.id 2,.id 3,.id 4,.id 5,.id 6],by(exact zC)⟩
   have ha:gV x.op 1=true:=by simp [gV,hA]
   simp only [show ad .lss (rB x.op) 0=false from f_ ab,aD];by_cases hkm:L.length≤k
   ·exact yJ
   have hkl:k < L.length:=ab;rw [jG hkl,xK ha] at hR;obtain⟨g0,g1,g2,g3⟩:=hW.g k hkl;have hsk:=hs _ (iw hkl);generalize L[k]=w at *;have b1:ag (k+1) L.length=true:=aO ab;have b2:ag (o+k * 4+4) wx.length=true:=aO ab;have b3:ag (am w.s) 1000000000=true:=aO hsk;have e3:au .add .i64 (k:Int) 1=((k+1:Nat):Int):=by rw [gb ab ab]; rfl
   simp only [show ad .geq ((k:Nat):Int) ((L.length:Nat):Int)=false from qk ab,ct,cC,bP,b_,b1,b2,b3,g0,g1,g2,g3,wS,wiS,wB,wiB,cf,cz,er,e3,pF,bD,aw,aD];have nj:kq x.op 1=false:=by simp [kq]
   rw [av (by rw [nj]; simp)] at hR;cases hO:kr x.op 1 w with
   | false =>
     rw [hO,av aC] at hR;have hz2:=fin _ _ _ _ hR;subst hz2;have hO':dr x.op 1 w.s w.bd (rA x.op) (rB x.op) (rC x.op)=false:=hO;simp only [hO',show bu false=true from rfl,aw];exact⟨trivial,rfl,[gI (im x.op 1 w x),eH [] 0 0 false,fT (ln,w.cl,12)],LV.tup [gI (im x.op 1 w x),eH [] 0 0 false,fT (ln,w.cl,12)],[.cells wx (some 4)],[.id 0],ak,⟨rfl,rfl⟩,by(exact zC)⟩
   | true =>
     rw [hO,aB rfl] at hR;have hO':dr x.op 1 w.s w.bd (rA x.op) (rB x.op) (rC x.op)=true:=hO;simp only [hO',show bu true=false from rfl,aD];exact⟨rfl,⟨(2,⟨k+1,im x.op 1 w x,j⟩),ab,rfl,hkl,hR⟩,by simp only; omega,[.id 0,.id 1,.id 2,.id 3,.id 4,.id 5,.id 6],by(exact zC)⟩
  ·change aX _ _ _ _ _ (aF 178 (lG o L.length e ln n k 2)) _ _;change gH e x.op (2::[3]) (L.drop k) x j=RES at hR;rw [Q2]; simp only [qE,yi];by_cases hA:rC x.op < 0
   ·have ha:gV x.op 2=false:=by simp [gV,hA]
    rw [xL ha] at hR;simp only [show ad .lss (rC x.op) 0=true from ga hA,aw];exact⟨rfl,⟨(3,⟨k,x,j⟩),ab,rfl,hk,hR⟩,by simp only; omega,[.id 0,.id 1,.id 2,.id 3,.id 4,.id 5,.id 6],by(exact zC)⟩
   have ha:gV x.op 2=true:=by simp [gV,hA]
   simp only [show ad .lss (rC x.op) 0=false from f_ ab,aD];by_cases hkm:L.length≤k
   ·exact yJ
   have hkl:k < L.length:=ab;rw [jG hkl,xK ha] at hR;obtain⟨g0,g1,g2,g3⟩:=hW.g k hkl;have hsk:=hs _ (iw hkl);generalize L[k]=w at *;have b1:ag (k+1) L.length=true:=aO ab;have b2:ag (o+k * 4+4) wx.length=true:=aO ab;have b3:ag (am w.s) 1000000000=true:=aO hsk;have e3:au .add .i64 (k:Int) 1=((k+1:Nat):Int):=by rw [gb ab ab]; rfl
   simp only [show ad .geq ((k:Nat):Int) ((L.length:Nat):Int)=false from qk ab,ct,cC,bP,b_,b1,b2,b3,g0,g1,g2,g3,wS,wiS,wB,wiB,cf,cz,er,e3,pF,bD,aw,aD];by_cases p12:x.op=12
   ·have nj:kq x.op 2=true:=by simp [kq,p12]
    rw [aB nj] at hR;simp only [show ad .eql x.op 12=true from cD p12,aw,aD];cases hb:w.bd with
    | true =>
      rw [av (by simp [mF,hb])] at hR;have hz2:=fin _ _ _ _ hR;subst hz2;simp only [aw];exact⟨trivial,rfl,[gI x,eH [] 0 0 false,fT (ln,w.cl,12)],LV.tup [gI x,eH [] 0 0 false,fT (ln,w.cl,12)],[.cells wx (some 4)],[.id 0],ak,⟨rfl,rfl⟩,by(try simp only [qE,ct,cC,bP,g0,g1,g2,g3,hb,wS,wB,cf]); (exact zC)⟩
    | false =>
      simp only [aD];cases hN:dW w.s with
      | false =>
        rw [av (by simp [mF,hb,hN])] at hR;have hz2:=fin _ _ _ _ hR;subst hz2;simp only [show bu false=true from rfl,aw];exact⟨trivial,rfl,[gI x,eH [] 0 0 false,fT (ln,w.cl,12)],LV.tup [gI x,eH [] 0 0 false,fT (ln,w.cl,12)],[.cells wx (some 4)],[.id 0],ak,⟨rfl,rfl⟩,by(try simp only [qE,ct,cC,bP,g0,g1,g2,g3,hb,wS,wB,cf]); (exact zC)⟩
      | true =>
        rw [aB (by simp [mF,hb,hN])] at hR;simp only [show bu true=false from rfl,aD];exact⟨rfl,⟨(3,⟨k+1,x,w⟩),ab,rfl,hkl,hR⟩,by simp only; omega,[.id 0,.id 1,.id 2,.id 3,.id 4,.id 5,.id 6],by(try simp only [yi,ct,cC,bP,g0,g1,g2,g3,hb,wS,wB,cf]); (exact zC)⟩
   by_cases p13:x.op=13
   ·have nj:kq x.op 2=true:=by simp [kq,p13]
    rw [aB nj] at hR;simp only [show ad .eql x.op 12=false from cF p12,show ad .eql x.op 13=true from cD p13,aw,aD];cases hb:w.bd with
    | true =>
      rw [av (by simp [mF,hb])] at hR;have hz2:=fin _ _ _ _ hR;subst hz2;simp only [aw];exact⟨trivial,rfl,[gI x,eH [] 0 0 false,fT (ln,w.cl,12)],LV.tup [gI x,eH [] 0 0 false,fT (ln,w.cl,12)],[.cells wx (some 4)],[.id 0],ak,⟨rfl,rfl⟩,by(try simp only [qE,ct,cC,bP,g0,g1,g2,g3,hb,wS,wB,cf]); (exact zC)⟩
    | false =>
      simp only [aD];cases hN:dW w.s with
      | false =>
        rw [av (by simp [mF,hb,hN])] at hR;have hz2:=fin _ _ _ _ hR;subst hz2;simp only [show bu false=true from rfl,aw];exact⟨trivial,rfl,[gI x,eH [] 0 0 false,fT (ln,w.cl,12)],LV.tup [gI x,eH [] 0 0 false,fT (ln,w.cl,12)],[.cells wx (some 4)],[.id 0],ak,⟨rfl,rfl⟩,by(try simp only [qE,ct,cC,bP,g0,g1,g2,g3,hb,wS,wB,cf]); (exact zC)⟩
      | true =>
        rw [aB (by simp [mF,hb,hN])] at hR;simp only [show bu true=false from rfl,aD];exact⟨rfl,⟨(3,⟨k+1,x,w⟩),ab,rfl,hkl,hR⟩,by simp only; omega,[.id 0,.id 1,.id 2,.id 3,.id 4,.id 5,.id 6],by(try simp only [yi,ct,cC,bP,g0,g1,g2,g3,hb,wS,wB,cf]); (exact zC)⟩
   have nj:kq x.op 2=false:=by simp [kq,p12,p13]
   simp only [show ad .eql x.op 12=false from cF p12,show ad .eql x.op 13=false from cF p13,aD];rw [av (by rw [nj]; simp)] at hR;cases hO:kr x.op 2 w with
   | false =>
     rw [hO,av aC] at hR;have hz2:=fin _ _ _ _ hR;subst hz2;have hO':dr x.op 2 w.s w.bd (rA x.op) (rB x.op) (rC x.op)=false:=hO;simp only [hO',show bu false=true from rfl,aw];exact⟨trivial,rfl,[gI (im x.op 2 w x),eH [] 0 0 false,fT (ln,w.cl,12)],LV.tup [gI (im x.op 2 w x),eH [] 0 0 false,fT (ln,w.cl,12)],[.cells wx (some 4)],[.id 0],ak,⟨rfl,rfl⟩,by(exact zC)⟩
   | true =>
     rw [hO,aB rfl] at hR;have hO':dr x.op 2 w.s w.bd (rA x.op) (rB x.op) (rC x.op)=true:=hO;simp only [hO',show bu true=false from rfl,aD];exact⟨rfl,⟨(3,⟨k+1,im x.op 2 w x,j⟩),ab,rfl,hkl,hR⟩,by simp only; omega,[.id 0,.id 1,.id 2,.id 3,.id 4,.id 5,.id 6],by(exact zC)⟩
  ·change aX _ _ _ _ _ (aF 178 (lG o L.length e ln n k 3)) _ _;change gH e x.op (3::[]) (L.drop k) x j=RES at hR;rw [Q3];cases hA:rD x.op with
   | false =>
     have ha:gV x.op 3=false:=by simp [gV,hA]
     rw [xL ha] at hR;simp only [show bu false=true from rfl,aw];exact⟨rfl,⟨(4,⟨k,x,j⟩),ab,rfl,hk,(show gH e x.op (([0,1,2,3]:List Int).drop 4) (L.drop k) x j=RES by rw [show([0,1,2,3]:List Int).drop 4=[] from rfl]; exact hR)⟩,by simp only; omega,[.id 0,.id 1,.id 2,.id 3,.id 4,.id 5,.id 6],by simp only [nV,hA]; (exact zC)⟩
   | true =>
   have ha:gV x.op 3=true:=by simp [gV,hA]
   simp only [show bu true=false from rfl,aD];by_cases hkm:L.length≤k
   ·exact yJ
   have hkl:k < L.length:=ab;rw [jG hkl,xK ha] at hR;obtain⟨g0,g1,g2,g3⟩:=hW.g k hkl;have hsk:=hs _ (iw hkl);generalize L[k]=w at *;have b1:ag (k+1) L.length=true:=aO ab;have b2:ag (o+k * 4+4) wx.length=true:=aO ab;have b3:ag (am w.s) 1000000000=true:=aO hsk;have e3:au .add .i64 (k:Int) 1=((k+1:Nat):Int):=by rw [gb ab ab]; rfl
   simp only [show ad .geq ((k:Nat):Int) ((L.length:Nat):Int)=false from qk ab,ct,cC,bP,b_,b1,b2,b3,g0,g1,g2,g3,wS,wiS,wB,wiB,cf,cz,er,e3,pF,bD,aw,aD];have nj:kq x.op 3=false:=by simp [kq]
   rw [av (by rw [nj]; simp)] at hR;cases hO:kr x.op 3 w with
   | false =>
     rw [hO,av aC] at hR;have hz2:=fin _ _ _ _ hR;subst hz2;have hO':dr x.op 3 w.s w.bd (rA x.op) (rB x.op) (rC x.op)=false:=hO;simp only [hO',show bu false=true from rfl,aw];exact⟨trivial,rfl,[gI (im x.op 3 w x),eH [] 0 0 false,fT (ln,w.cl,12)],LV.tup [gI (im x.op 3 w x),eH [] 0 0 false,fT (ln,w.cl,12)],[.cells wx (some 4)],[.id 0],ak,⟨rfl,rfl⟩,by(exact zC)⟩
   | true =>
     rw [hO,aB rfl] at hR;have hO':dr x.op 3 w.s w.bd (rA x.op) (rB x.op) (rC x.op)=true:=hO;simp only [hO',show bu true=false from rfl,aD];exact⟨rfl,⟨(4,⟨k+1,im x.op 3 w x,j⟩),ab,rfl,hkl,hR⟩,by simp only; omega,[.id 0,.id 1,.id 2,.id 3,.id 4,.id 5,.id 6],by simp only [nV,hA]; (exact zC)⟩
  ·change aX _ _ _ _ _ (aF 178 (lG o L.length e ln n k 4)) _ _;rw [Q4];exact⟨rfl,⟨⟨k,x,j⟩,rfl,hk,hR⟩,[.id 0,.id 1,.id 2,.id 3,.id 4,.id 5,.id 6],by(exact zC)⟩
 dsimp only at hxo hk hR ⊢;subst hxo;refine zE xU ?_;rw [NN];rw [← hR] at hz;by_cases hkl:k < L.length
 ·rw [jG hkl] at hz;simp only [w7] at hz;obtain⟨g0,g1,g2,g3⟩:=hW.g k hkl;generalize L[k]=w at *;have g2':af wx (o+k * 4+2)=.z w.cl:=g2;have b1:ag (k+1) L.length=true:=aO ab;have b2:ag (o+k * 4+2+1) wx.length=true:=aO ab;subst hz;simp only [show ad .lss ((k:Nat):Int) ((L.length:Nat):Int)=true from ga ab,ct,cC,bP,b_,b1,b2,g2',cf,cz,er,bD,aw];exact⟨trivial,rfl,[gI x,eH [] 0 0 false,fT (ln,w.cl,12)],LV.tup [gI x,eH [] 0 0 false,fT (ln,w.cl,12)],[.cells wx (some 4)],[.id 0],ak,⟨rfl,rfl⟩,by(exact zC)⟩
 ·rw [mo ab] at hz;simp only [w7] at hz;subst hz;simp only [show ad .lss ((k:Nat):Int) ((L.length:Nat):Int)=false from f_ ab,er,es,eb,aw,aD];exact⟨trivial,rfl,[gI x,zy j,fT (0,0,0)],LV.tup [gI x,zy j,fT (0,0,0)],[.cells wx (some 4)],[.id 0],ak,⟨rfl,rfl⟩,by(exact zC)⟩
end
end Go.Lev
