import Derived.Test.YtnkkkihgljbllaaDoorCX7
import Derived.Test.YtnkkkihgljbllaaDoorLc
import Derived.Test.YtnkkkihgljbllaaDoorChecked
import Derived.KernelRfl
import Derived.Test.YtnkkkihgljbllaaDoorCP5
/- text: the reference's instruction: its trees -/
namespace Go.Lev
set_option linter.unusedSimpArgs false
set_option linter.unusedVariables false
open Go.RowKit
open Go.Proofs.Tryd (prog)
set_option maxRecDepth 100000
noncomputable section
theorem g4d (g:Glb) (K:Fk):(a4w prog (fun _=>none) 100 43 [.int .i64 0] (mkS [] g) (vF K))=(
 K (.tup [.agg [.str [],.int .i64 0,.int .i64 0,.int .i64 0,.bool false],.bool false]) [sN [.str [],.int .i64 0,.int .i64 0,.int .i64 0,.bool false]] g):=by kernel_rfl
theorem f7u (g:Glb):a0k prog 43 [.int .i64 0] (mkS [] g) fun l st=>l=a6k 0∧st=mkS [] g:=by
 refine a0k.mono (a0k.vc (Q:=fun l bb=>l=a6k 0∧bb=[]) a0j (n:=100) 0 rfl ?_) fun l s' ⟨b0,⟨h1,h2⟩,h3⟩=>⟨h1,by rw [h3,h2]⟩
 rw [g4d]
 exact⟨rfl,a6k 0,[],[],⟨rfl,rfl⟩,by exact a6q rfl rfl rfl rfl rfl rfl⟩
theorem f2j (op:Int) (g:Glb) (h1:0≤op) (h2:op≤23):a0k prog 43 [.int .i64 op] (mkS [] g) fun l st=>l=a6k op∧st=mkS [] g:=by
 have:op=0∨op=1∨op=2∨op=3∨op=4∨op=5∨op=6∨op=7∨op=8∨op=9∨op=10∨op=11∨op=12∨op=13∨op=14∨op=15∨op=16∨op=17∨op=18∨op=19∨op=20∨op=21∨op=22∨op=23:=by omega
 rcases this with rfl | rfl | rfl | rfl | rfl | rfl | rfl | rfl | rfl | rfl | rfl | rfl | rfl | rfl | rfl | rfl | rfl | rfl | rfl | rfl | rfl | rfl | rfl | rfl
 ·exact f7u g
 ·exact g5e g
 ·exact g5d g
 ·exact g5c g
 ·exact g5b g
 ·exact g5a g
 ·exact g4z g
 ·exact g4y g
 ·exact g4x g
 ·exact g4w g
 ·exact f8i g
 ·exact f8h g
 ·exact f8g g
 ·exact f8f g
 ·exact f8e g
 ·exact f8d g
 ·exact f8c g
 ·exact f8b g
 ·exact f8a g
 ·exact f7z g
 ·exact f7y g
 ·exact f7x g
 ·exact f7w g
 ·exact f7v g
def d0f:Gc:=fun args s=>match args with
 | [.int .i64 op]=>some ([xcm .leq 0 op,xcm .leq op 23],a6k op,s)
 | _=>none
theorem d0e:GOk prog 43 d0f:=by
 intro args s bs l s' hg hb hfr
 unfold d0f at hg
 split at hg
 ·rename_i op
  simp only [Option.some.injEq,Prod.mk.injEq] at hg
  obtain⟨rfl,rfl,rfl⟩:=hg
  obtain⟨k1,k2⟩:=a0g.1 hb
  obtain⟨k2,_⟩:=a0g.1 k2
  rw [a7q,decide_eq_true_eq] at k1 k2
  exact a0k.h0b hfr rfl rfl (f2j op s.g k1 k2)
 ·cases hg
abbrev iiL:List Nat:=[0,1,2,3,8,9,10,11,12,15,16,17,18,19]
def d3r:Cx:=cxl [(43,d0f),(35,b1a xnG),(49,fiG)]
abbrev inB (op a b c n:Int):LB:=.cells [.int .i64 op,.int .i64 a,.int .i64 b,.int .i64 c,.int .u64 n] none
abbrev rwB (s:List UInt8) (ln cl:Int) (bd:Bool):LB:=.cells [.str s,.int .i64 ln,.int .i64 cl,.bool bd] none
abbrev g2e (a b c:Int):LB:=.cells [.int .i64 a,.int .i64 b,.int .i64 c] none
abbrev iiH (wx:List LV) (x:Int):List LB:=[.cells wx (some 4),inB 0 0 0 0 0,rwB [] 0 0 false,g2e 0 0 0,inB x 0 0 0 0]
abbrev iiT (o m:Nat) (e ln n:Int) (p:Nat):List (Nat×LV):=[(0,.slo 0 o m 0),(1,.int .i64 e),(2,.int .i64 ln),(3,.int .i64 n),(8,.ptr 1 0),(9,.ptr 2 0),(10,.ptr 3 0),(11,.ptr 4 0),(12,.int .i64 p)]
abbrev d2e (wx:List LV) (x a b c n:Int) (js:List UInt8) (jl jc:Int) (jb:Bool):List LB:=[.cells wx (some 4),inB 0 0 0 0 0,rwB [] 0 0 false,g2e 0 0 0,inB x a b c n,.cells [.str (a4u x),.int .i64 (rA x),.int .i64 (rB x),.int .i64 (rC x),.bool (rD x)] none,rwB js jl jc jb]
abbrev c6l (o m:Nat) (e ln n:Int) (k:Nat) (f:Int):List (Nat×LV):=[(0,.slo 0 o m 0),(1,.int .i64 e),(2,.int .i64 ln),(3,.int .i64 n),(8,.ptr 1 0),(9,.ptr 2 0),(10,.ptr 3 0),(11,.ptr 4 0),(15,.ptr 5 0),(17,.ptr 6 0),(18,.int .i64 k),(19,.int .i64 f)]
theorem b6r:a3w prog (a2z d3r):=a6i ⟨d0e,a4j d5g,f4u,trivial⟩
theorem g7b (o m:Nat) (e ln n:Int) (wx:List LV) (K:Pk):(xsp prog d3r 60 178 (seg (sp prog 37) 0 3) (tm0 [.slo 0 o m 0,.int .i64 e,.int .i64 ln,.int .i64 n]) (mkS [.cells wx (some 4)] gt4) (vK iiL K))=(
 K .normal [.slo 0 o m 0,.int .i64 e,.int .i64 ln,.int .i64 n,.ptr 1 0,.ptr 2 0,.ptr 3 0,.ptr 4 0,.int .i64 1,.tup [],.tup [],.tup [],.tup [],.tup []] [sC wx 4,sN [.int .i64 0,.int .i64 0,.int .i64 0,.int .i64 0,.int .u64 0],sN [.str [],.int .i64 0,.int .i64 0,.bool false],sN [.int .i64 0,.int .i64 0,.int .i64 0],sN [.int .i64 0,.int .i64 0,.int .i64 0,.int .i64 0,.int .u64 0]] gt4):=by kernel_rfl
abbrev c4x (p:Nat) (x:Int) (wx:List LV):List (Option LB):=[sC wx 4,sN [.int .i64 0,.int .i64 0,.int .i64 0,.int .i64 0,.int .u64 0],sN [.str [],.int .i64 0,.int .i64 0,.bool false],sN [.int .i64 0,.int .i64 0,.int .i64 0],sN [.int .i64 x,.int .i64 0,.int .i64 0,.int .i64 0,.int .u64 0],sN [.str (a4u ↑p),.int .i64 (rA ↑p),.int .i64 (rB ↑p),.int .i64 (rC ↑p),.bool (rD ↑p)]]
theorem g6y (o m:Nat) (e ln n:Int) (p:Nat) (x:Int) (wx:List LV) (K:Pk):(a1h prog d3r 60 178 (a1w (a4i (sp prog 37) 3)) (a1p 178 (iiT o m e ln n p)) (mkS (iiH wx x) gt4) (vK iiL K))=(
 bif xcm .leq (↑p) 23 then(
 ck (xcm .leq 0 ↑p) <|
 ck (xcm .leq (↑p) 23) <|
 bif rOk ↑p then(
 ck (xle 1 m) <|
 ck (xle (a0a (a0a (xix o 0 4) 3) 1) (xln wx)) <|
 ck (isB (a0b wx (a0a (xix o 0 4) 3))) <|
 bif a3i (asB (a0b wx (a0a (xix o 0 4) 3))) then(
 ck (xle 1 m) <|
 ck (xle (a0a (xix o 0 4) 1) (xln wx)) <|
 ck (isS (a0b wx (xix o 0 4))) <|
 bif a3h .eql (a4u ↑p) (asS (a0b wx (xix o 0 4))) then(
 K .normal [.slo 0 o m 0,.int .i64 e,.int .i64 ln,.int .i64 n,.ptr 1 0,.ptr 2 0,.ptr 3 0,.ptr 4 0,.int .i64 (xar .add .i64 (↑p) 1),.any,.any,.any,.any,.any] [sC wx 4,sN [.int .i64 0,.int .i64 0,.int .i64 0,.int .i64 0,.int .u64 0],sN [.str [],.int .i64 0,.int .i64 0,.bool false],sN [.int .i64 0,.int .i64 0,.int .i64 0],sN [.int .i64 ↑p,.int .i64 0,.int .i64 0,.int .i64 0,.int .u64 0],sN [.str (a4u ↑p),.int .i64 (rA ↑p),.int .i64 (rB ↑p),.int .i64 (rC ↑p),.bool (rD ↑p)]] gt4)
 else(
 K .normal [.slo 0 o m 0,.int .i64 e,.int .i64 ln,.int .i64 n,.ptr 1 0,.ptr 2 0,.ptr 3 0,.ptr 4 0,.int .i64 (xar .add .i64 (↑p) 1),.any,.any,.any,.any,.any] (c4x p x wx) gt4))
 else(
 K .normal [.slo 0 o m 0,.int .i64 e,.int .i64 ln,.int .i64 n,.ptr 1 0,.ptr 2 0,.ptr 3 0,.ptr 4 0,.int .i64 (xar .add .i64 (↑p) 1),.any,.any,.any,.any,.any] (c4x p x wx) gt4))
 else(
 K .normal [.slo 0 o m 0,.int .i64 e,.int .i64 ln,.int .i64 n,.ptr 1 0,.ptr 2 0,.ptr 3 0,.ptr 4 0,.int .i64 (xar .add .i64 (↑p) 1),.any,.any,.any,.any,.any] (c4x p x wx) gt4))
 else(
 K (.exit 0) [.slo 0 o m 0,.int .i64 e,.int .i64 ln,.int .i64 n,.ptr 1 0,.ptr 2 0,.ptr 3 0,.ptr 4 0,.int .i64 ↑p,.any,.any,.any,.any,.any] [sC wx 4,sN [.int .i64 0,.int .i64 0,.int .i64 0,.int .i64 0,.int .u64 0],sN [.str [],.int .i64 0,.int .i64 0,.bool false],sN [.int .i64 0,.int .i64 0,.int .i64 0],sN [.int .i64 x,.int .i64 0,.int .i64 0,.int .i64 0,.int .u64 0]] gt4)):=by kernel_rfl
theorem g7a (o m:Nat) (e ln n:Int) (p:Nat) (x:Int) (wx:List LV) (K:Pk):(xsp prog d3r 60 178 (seg (sp prog 37) 4 8) (a1p 178 (iiT o m e ln n p)) (mkS (iiH wx x) gt4) (vK iiL K))=(
 ck (xcm .leq 0 x) <|
 ck (xcm .leq x 23) <|
 bif a3i (rOk x) then(
 ck (xle 1 m) <|
 ck (xle (a0a (a0a (xix o 0 4) 2) 1) (xln wx)) <|
 ck (isI .i64 (a0b wx (a0a (xix o 0 4) 2))) <|
 ck (xle (a0a (a0a (xix o 0 4) 2) 1) (xln wx)) <|
 ck (isI .i64 (a0b wx (a0a (xix o 0 4) 2))) <|
 ck (xcm .eql (asI (a0b wx (a0a (xix o 0 4) 2))) (asI (a0b wx (a0a (xix o 0 4) 2)))) <|
 ck (xle (a0a (a0a (xix o 0 4) 2) 1) (xln wx)) <|
 ck (isI .i64 (a0b wx (a0a (xix o 0 4) 2))) <|
 ck (xcm .eql (asI (a0b wx (a0a (xix o 0 4) 2))) (asI (a0b wx (a0a (xix o 0 4) 2)))) <|
 ck (xle (a0a (a0a (xix o 0 4) 2) 1) (xln wx)) <|
 ck (isI .i64 (a0b wx (a0a (xix o 0 4) 2))) <|
 ck (xcm .eql (asI (a0b wx (a0a (xix o 0 4) 2))) (asI (a0b wx (a0a (xix o 0 4) 2)))) <|
 ck (xle (a0a (a0a (xix o 0 4) 2) 1) (xln wx)) <|
 ck (isI .i64 (a0b wx (a0a (xix o 0 4) 2))) <|
 ck (xcm .eql (asI (a0b wx (a0a (xix o 0 4) 2))) (asI (a0b wx (a0a (xix o 0 4) 2)))) <|
 K .ret [.slo 0 o m 0,.int .i64 e,.int .i64 ln,.int .i64 n,.ptr 1 0,.ptr 2 0,.ptr 3 0,.ptr 4 0,.int .i64 ↑p,.ptr 5 0,.bool (rOk x),.any,.any,.any] [sC wx 4,sN [.int .i64 x,.int .i64 0,.int .i64 0,.int .i64 0,.int .u64 0],sN [.str [],.int .i64 0,.int .i64 0,.bool false],sN [.int .i64 ln,.int .i64 (asI (a0b wx (a0a (xix o 0 4) 2))),.int .i64 12],sN [.int .i64 x,.int .i64 0,.int .i64 0,.int .i64 0,.int .u64 0],sN [.str (a4u x),.int .i64 (rA x),.int .i64 (rB x),.int .i64 (rC x),.bool (rD x)]] gt4)
 else(
 bif xcm .geq n 40 then(
 ck (xle 1 m) <|
 ck (xle (a0a (a0a (xix o 0 4) 2) 1) (xln wx)) <|
 ck (isI .i64 (a0b wx (a0a (xix o 0 4) 2))) <|
 ck (xle (a0a (a0a (xix o 0 4) 2) 1) (xln wx)) <|
 ck (isI .i64 (a0b wx (a0a (xix o 0 4) 2))) <|
 ck (xcm .eql (asI (a0b wx (a0a (xix o 0 4) 2))) (asI (a0b wx (a0a (xix o 0 4) 2)))) <|
 ck (xle (a0a (a0a (xix o 0 4) 2) 1) (xln wx)) <|
 ck (isI .i64 (a0b wx (a0a (xix o 0 4) 2))) <|
 ck (xcm .eql (asI (a0b wx (a0a (xix o 0 4) 2))) (asI (a0b wx (a0a (xix o 0 4) 2)))) <|
 ck (xle (a0a (a0a (xix o 0 4) 2) 1) (xln wx)) <|
 ck (isI .i64 (a0b wx (a0a (xix o 0 4) 2))) <|
 ck (xcm .eql (asI (a0b wx (a0a (xix o 0 4) 2))) (asI (a0b wx (a0a (xix o 0 4) 2)))) <|
 ck (xle (a0a (a0a (xix o 0 4) 2) 1) (xln wx)) <|
 ck (isI .i64 (a0b wx (a0a (xix o 0 4) 2))) <|
 ck (xcm .eql (asI (a0b wx (a0a (xix o 0 4) 2))) (asI (a0b wx (a0a (xix o 0 4) 2)))) <|
 K .ret [.slo 0 o m 0,.int .i64 e,.int .i64 ln,.int .i64 n,.ptr 1 0,.ptr 2 0,.ptr 3 0,.ptr 4 0,.int .i64 ↑p,.ptr 5 0,.bool (rOk x),.any,.any,.any] [sC wx 4,sN [.int .i64 x,.int .i64 0,.int .i64 0,.int .i64 0,.int .u64 0],sN [.str [],.int .i64 0,.int .i64 0,.bool false],sN [.int .i64 ln,.int .i64 (asI (a0b wx (a0a (xix o 0 4) 2))),.int .i64 4],sN [.int .i64 x,.int .i64 0,.int .i64 0,.int .i64 0,.int .u64 0],sN [.str (a4u x),.int .i64 (rA x),.int .i64 (rB x),.int .i64 (rC x),.bool (rD x)]] gt4)
 else(
 K .normal [.slo 0 o m 0,.int .i64 e,.int .i64 ln,.int .i64 n,.ptr 1 0,.ptr 2 0,.ptr 3 0,.ptr 4 0,.int .i64 ↑p,.ptr 5 0,.bool (rOk x),.ptr 6 0,.int .i64 1,.int .i64 0] [sC wx 4,sN [.int .i64 0,.int .i64 0,.int .i64 0,.int .i64 0,.int .u64 0],sN [.str [],.int .i64 0,.int .i64 0,.bool false],sN [.int .i64 0,.int .i64 0,.int .i64 0],sN [.int .i64 x,.int .i64 0,.int .i64 0,.int .i64 0,.int .u64 0],sN [.str (a4u x),.int .i64 (rA x),.int .i64 (rB x),.int .i64 (rC x),.bool (rD x)],sN [.str [],.int .i64 0,.int .i64 0,.bool false]] gt4))):=by kernel_rfl
theorem f9r (o m:Nat) (e ln n:Int) (k:Nat) (x a b c d:Int) (js:List UInt8) (jl jc:Int) (jb:Bool) (wx:List LV) (K:Pk):(a1h prog d3r 60 178 (a1w (a4i (sp prog 37) 12)) (a1p 178 (c6l o m e ln n k 0)) (mkS (d2e wx x a b c d js jl jc jb) gt4) (vK iiL K))=(
 bif xcm .lss (rA x) 0 then(
 K .normal [.slo 0 o m 0,.int .i64 e,.int .i64 ln,.int .i64 n,.ptr 1 0,.ptr 2 0,.ptr 3 0,.ptr 4 0,.any,.ptr 5 0,.any,.ptr 6 0,.int .i64 ↑k,.int .i64 1] [sC wx 4,sN [.int .i64 0,.int .i64 0,.int .i64 0,.int .i64 0,.int .u64 0],sN [.str [],.int .i64 0,.int .i64 0,.bool false],sN [.int .i64 0,.int .i64 0,.int .i64 0],sN [.int .i64 x,.int .i64 a,.int .i64 b,.int .i64 c,.int .u64 d],sN [.str (a4u x),.int .i64 (rA x),.int .i64 (rB x),.int .i64 (rC x),.bool (rD x)],sN [.str js,.int .i64 jl,.int .i64 jc,.bool jb]] gt4)
 else(
 bif xcm .geq ↑k ↑m then(
 K .ret [.slo 0 o m 0,.int .i64 e,.int .i64 ln,.int .i64 n,.ptr 1 0,.ptr 2 0,.ptr 3 0,.ptr 4 0,.any,.ptr 5 0,.any,.ptr 6 0,.int .i64 ↑k,.int .i64 0] [sC wx 4,sN [.int .i64 x,.int .i64 a,.int .i64 b,.int .i64 c,.int .u64 d],sN [.str [],.int .i64 0,.int .i64 0,.bool false],sN [.int .i64 ln,.int .i64 e,.int .i64 12],sN [.int .i64 x,.int .i64 a,.int .i64 b,.int .i64 c,.int .u64 d],sN [.str (a4u x),.int .i64 (rA x),.int .i64 (rB x),.int .i64 (rC x),.bool (rD x)],sN [.str js,.int .i64 jl,.int .i64 jc,.bool jb]] gt4)
 else(
 ck (xle (a0a (a0c ↑k) 1) m) <|
 ck (xle (a0a (xix o (a0c ↑k) 4) 4) (xln wx)) <|
 ck (isS (a0b wx (xix o (a0c ↑k) 4))) <|
 ck (isI .i64 (a0b wx (a0a (xix o (a0c ↑k) 4) 1))) <|
 ck (isI .i64 (a0b wx (a0a (a0a (xix o (a0c ↑k) 4) 1) 1))) <|
 ck (isB (a0b wx (a0a (a0a (a0a (xix o (a0c ↑k) 4) 1) 1) 1))) <|
 ck (b6j b8t) <|
 bif a3i (fiO x 0 (asS (a0b wx (xix o (a0c ↑k) 4))) (asB (a0b wx (a0a (a0a (a0a (xix o (a0c ↑k) 4) 1) 1) 1))) (rA x) (rB x) (rC x)) then(
 ck (xcm .eql (asI (a0b wx (a0a (a0a (xix o (a0c ↑k) 4) 1) 1))) (asI (a0b wx (a0a (a0a (xix o (a0c ↑k) 4) 1) 1)))) <|
 ck (xcm .eql (asI (a0b wx (a0a (a0a (xix o (a0c ↑k) 4) 1) 1))) (asI (a0b wx (a0a (a0a (xix o (a0c ↑k) 4) 1) 1)))) <|
 ck (xcm .eql (asI (a0b wx (a0a (a0a (xix o (a0c ↑k) 4) 1) 1))) (asI (a0b wx (a0a (a0a (xix o (a0c ↑k) 4) 1) 1)))) <|
 ck (xcm .eql (asI (a0b wx (a0a (a0a (xix o (a0c ↑k) 4) 1) 1))) (asI (a0b wx (a0a (a0a (xix o (a0c ↑k) 4) 1) 1)))) <|
 K .ret [.slo 0 o m 0,.int .i64 e,.int .i64 ln,.int .i64 n,.ptr 1 0,.ptr 2 0,.ptr 3 0,.ptr 4 0,.any,.ptr 5 0,.bool (fiO x 0 (asS (a0b wx (xix o (a0c ↑k) 4))) (asB (a0b wx (a0a (a0a (a0a (xix o (a0c ↑k) 4) 1) 1) 1))) (rA x) (rB x) (rC x)),.ptr 6 0,.int .i64 (xar .add .i64 (↑k) 1),.int .i64 0] [sC wx 4,sN [.int .i64 x,.int .i64 (fiX 0 x 0 (asS (a0b wx (xix o (a0c ↑k) 4))) (asB (a0b wx (a0a (a0a (a0a (xix o (a0c ↑k) 4) 1) 1) 1))) (rA x) (rB x) (rC x) a),.int .i64 (fiX 1 x 0 (asS (a0b wx (xix o (a0c ↑k) 4))) (asB (a0b wx (a0a (a0a (a0a (xix o (a0c ↑k) 4) 1) 1) 1))) (rA x) (rB x) (rC x) b),.int .i64 (fiX 2 x 0 (asS (a0b wx (xix o (a0c ↑k) 4))) (asB (a0b wx (a0a (a0a (a0a (xix o (a0c ↑k) 4) 1) 1) 1))) (rA x) (rB x) (rC x) c),.int .u64 (fiX 3 x 0 (asS (a0b wx (xix o (a0c ↑k) 4))) (asB (a0b wx (a0a (a0a (a0a (xix o (a0c ↑k) 4) 1) 1) 1))) (rA x) (rB x) (rC x) d)],sN [.str [],.int .i64 0,.int .i64 0,.bool false],sN [.int .i64 ln,.int .i64 (asI (a0b wx (a0a (a0a (xix o (a0c ↑k) 4) 1) 1))),.int .i64 12],sN [.int .i64 x,.int .i64 (fiX 0 x 0 (asS (a0b wx (xix o (a0c ↑k) 4))) (asB (a0b wx (a0a (a0a (a0a (xix o (a0c ↑k) 4) 1) 1) 1))) (rA x) (rB x) (rC x) a),.int .i64 (fiX 1 x 0 (asS (a0b wx (xix o (a0c ↑k) 4))) (asB (a0b wx (a0a (a0a (a0a (xix o (a0c ↑k) 4) 1) 1) 1))) (rA x) (rB x) (rC x) b),.int .i64 (fiX 2 x 0 (asS (a0b wx (xix o (a0c ↑k) 4))) (asB (a0b wx (a0a (a0a (a0a (xix o (a0c ↑k) 4) 1) 1) 1))) (rA x) (rB x) (rC x) c),.int .u64 (fiX 3 x 0 (asS (a0b wx (xix o (a0c ↑k) 4))) (asB (a0b wx (a0a (a0a (a0a (xix o (a0c ↑k) 4) 1) 1) 1))) (rA x) (rB x) (rC x) d)],sN [.str (a4u x),.int .i64 (rA x),.int .i64 (rB x),.int .i64 (rC x),.bool (rD x)],sN [.str js,.int .i64 jl,.int .i64 jc,.bool jb],sN [.str (asS (a0b wx (xix o (a0c ↑k) 4))),.int .i64 (asI (a0b wx (a0a (xix o (a0c ↑k) 4) 1))),.int .i64 (asI (a0b wx (a0a (a0a (xix o (a0c ↑k) 4) 1) 1))),.bool (asB (a0b wx (a0a (a0a (a0a (xix o (a0c ↑k) 4) 1) 1) 1)))]] gt4)
 else(
 K .normal [.slo 0 o m 0,.int .i64 e,.int .i64 ln,.int .i64 n,.ptr 1 0,.ptr 2 0,.ptr 3 0,.ptr 4 0,.any,.ptr 5 0,.bool (fiO x 0 (asS (a0b wx (xix o (a0c ↑k) 4))) (asB (a0b wx (a0a (a0a (a0a (xix o (a0c ↑k) 4) 1) 1) 1))) (rA x) (rB x) (rC x)),.ptr 6 0,.int .i64 (xar .add .i64 (↑k) 1),.int .i64 1] [sC wx 4,sN [.int .i64 0,.int .i64 0,.int .i64 0,.int .i64 0,.int .u64 0],sN [.str [],.int .i64 0,.int .i64 0,.bool false],sN [.int .i64 0,.int .i64 0,.int .i64 0],sN [.int .i64 x,.int .i64 (fiX 0 x 0 (asS (a0b wx (xix o (a0c ↑k) 4))) (asB (a0b wx (a0a (a0a (a0a (xix o (a0c ↑k) 4) 1) 1) 1))) (rA x) (rB x) (rC x) a),.int .i64 (fiX 1 x 0 (asS (a0b wx (xix o (a0c ↑k) 4))) (asB (a0b wx (a0a (a0a (a0a (xix o (a0c ↑k) 4) 1) 1) 1))) (rA x) (rB x) (rC x) b),.int .i64 (fiX 2 x 0 (asS (a0b wx (xix o (a0c ↑k) 4))) (asB (a0b wx (a0a (a0a (a0a (xix o (a0c ↑k) 4) 1) 1) 1))) (rA x) (rB x) (rC x) c),.int .u64 (fiX 3 x 0 (asS (a0b wx (xix o (a0c ↑k) 4))) (asB (a0b wx (a0a (a0a (a0a (xix o (a0c ↑k) 4) 1) 1) 1))) (rA x) (rB x) (rC x) d)],sN [.str (a4u x),.int .i64 (rA x),.int .i64 (rB x),.int .i64 (rC x),.bool (rD x)],sN [.str js,.int .i64 jl,.int .i64 jc,.bool jb],sN [.str (asS (a0b wx (xix o (a0c ↑k) 4))),.int .i64 (asI (a0b wx (a0a (xix o (a0c ↑k) 4) 1))),.int .i64 (asI (a0b wx (a0a (a0a (xix o (a0c ↑k) 4) 1) 1))),.bool (asB (a0b wx (a0a (a0a (a0a (xix o (a0c ↑k) 4) 1) 1) 1)))]] gt4)))):=by kernel_rfl
theorem f9q (o m:Nat) (e ln n:Int) (k:Nat) (x a b c d:Int) (js:List UInt8) (jl jc:Int) (jb:Bool) (wx:List LV) (K:Pk):(a1h prog d3r 60 178 (a1w (a4i (sp prog 37) 12)) (a1p 178 (c6l o m e ln n k 1)) (mkS (d2e wx x a b c d js jl jc jb) gt4) (vK iiL K))=(
 bif xcm .lss (rB x) 0 then(
 K .normal [.slo 0 o m 0,.int .i64 e,.int .i64 ln,.int .i64 n,.ptr 1 0,.ptr 2 0,.ptr 3 0,.ptr 4 0,.any,.ptr 5 0,.any,.ptr 6 0,.int .i64 ↑k,.int .i64 2] [sC wx 4,sN [.int .i64 0,.int .i64 0,.int .i64 0,.int .i64 0,.int .u64 0],sN [.str [],.int .i64 0,.int .i64 0,.bool false],sN [.int .i64 0,.int .i64 0,.int .i64 0],sN [.int .i64 x,.int .i64 a,.int .i64 b,.int .i64 c,.int .u64 d],sN [.str (a4u x),.int .i64 (rA x),.int .i64 (rB x),.int .i64 (rC x),.bool (rD x)],sN [.str js,.int .i64 jl,.int .i64 jc,.bool jb]] gt4)
 else(
 bif xcm .geq ↑k ↑m then(
 K .ret [.slo 0 o m 0,.int .i64 e,.int .i64 ln,.int .i64 n,.ptr 1 0,.ptr 2 0,.ptr 3 0,.ptr 4 0,.any,.ptr 5 0,.any,.ptr 6 0,.int .i64 ↑k,.int .i64 1] [sC wx 4,sN [.int .i64 x,.int .i64 a,.int .i64 b,.int .i64 c,.int .u64 d],sN [.str [],.int .i64 0,.int .i64 0,.bool false],sN [.int .i64 ln,.int .i64 e,.int .i64 12],sN [.int .i64 x,.int .i64 a,.int .i64 b,.int .i64 c,.int .u64 d],sN [.str (a4u x),.int .i64 (rA x),.int .i64 (rB x),.int .i64 (rC x),.bool (rD x)],sN [.str js,.int .i64 jl,.int .i64 jc,.bool jb]] gt4)
 else(
 ck (xle (a0a (a0c ↑k) 1) m) <|
 ck (xle (a0a (xix o (a0c ↑k) 4) 4) (xln wx)) <|
 ck (isS (a0b wx (xix o (a0c ↑k) 4))) <|
 ck (isI .i64 (a0b wx (a0a (xix o (a0c ↑k) 4) 1))) <|
 ck (isI .i64 (a0b wx (a0a (a0a (xix o (a0c ↑k) 4) 1) 1))) <|
 ck (isB (a0b wx (a0a (a0a (a0a (xix o (a0c ↑k) 4) 1) 1) 1))) <|
 ck (b6j b8t) <|
 bif a3i (fiO x 1 (asS (a0b wx (xix o (a0c ↑k) 4))) (asB (a0b wx (a0a (a0a (a0a (xix o (a0c ↑k) 4) 1) 1) 1))) (rA x) (rB x) (rC x)) then(
 ck (xcm .eql (asI (a0b wx (a0a (a0a (xix o (a0c ↑k) 4) 1) 1))) (asI (a0b wx (a0a (a0a (xix o (a0c ↑k) 4) 1) 1)))) <|
 ck (xcm .eql (asI (a0b wx (a0a (a0a (xix o (a0c ↑k) 4) 1) 1))) (asI (a0b wx (a0a (a0a (xix o (a0c ↑k) 4) 1) 1)))) <|
 ck (xcm .eql (asI (a0b wx (a0a (a0a (xix o (a0c ↑k) 4) 1) 1))) (asI (a0b wx (a0a (a0a (xix o (a0c ↑k) 4) 1) 1)))) <|
 ck (xcm .eql (asI (a0b wx (a0a (a0a (xix o (a0c ↑k) 4) 1) 1))) (asI (a0b wx (a0a (a0a (xix o (a0c ↑k) 4) 1) 1)))) <|
 K .ret [.slo 0 o m 0,.int .i64 e,.int .i64 ln,.int .i64 n,.ptr 1 0,.ptr 2 0,.ptr 3 0,.ptr 4 0,.any,.ptr 5 0,.bool (fiO x 1 (asS (a0b wx (xix o (a0c ↑k) 4))) (asB (a0b wx (a0a (a0a (a0a (xix o (a0c ↑k) 4) 1) 1) 1))) (rA x) (rB x) (rC x)),.ptr 6 0,.int .i64 (xar .add .i64 (↑k) 1),.int .i64 1] [sC wx 4,sN [.int .i64 x,.int .i64 (fiX 0 x 1 (asS (a0b wx (xix o (a0c ↑k) 4))) (asB (a0b wx (a0a (a0a (a0a (xix o (a0c ↑k) 4) 1) 1) 1))) (rA x) (rB x) (rC x) a),.int .i64 (fiX 1 x 1 (asS (a0b wx (xix o (a0c ↑k) 4))) (asB (a0b wx (a0a (a0a (a0a (xix o (a0c ↑k) 4) 1) 1) 1))) (rA x) (rB x) (rC x) b),.int .i64 (fiX 2 x 1 (asS (a0b wx (xix o (a0c ↑k) 4))) (asB (a0b wx (a0a (a0a (a0a (xix o (a0c ↑k) 4) 1) 1) 1))) (rA x) (rB x) (rC x) c),.int .u64 (fiX 3 x 1 (asS (a0b wx (xix o (a0c ↑k) 4))) (asB (a0b wx (a0a (a0a (a0a (xix o (a0c ↑k) 4) 1) 1) 1))) (rA x) (rB x) (rC x) d)],sN [.str [],.int .i64 0,.int .i64 0,.bool false],sN [.int .i64 ln,.int .i64 (asI (a0b wx (a0a (a0a (xix o (a0c ↑k) 4) 1) 1))),.int .i64 12],sN [.int .i64 x,.int .i64 (fiX 0 x 1 (asS (a0b wx (xix o (a0c ↑k) 4))) (asB (a0b wx (a0a (a0a (a0a (xix o (a0c ↑k) 4) 1) 1) 1))) (rA x) (rB x) (rC x) a),.int .i64 (fiX 1 x 1 (asS (a0b wx (xix o (a0c ↑k) 4))) (asB (a0b wx (a0a (a0a (a0a (xix o (a0c ↑k) 4) 1) 1) 1))) (rA x) (rB x) (rC x) b),.int .i64 (fiX 2 x 1 (asS (a0b wx (xix o (a0c ↑k) 4))) (asB (a0b wx (a0a (a0a (a0a (xix o (a0c ↑k) 4) 1) 1) 1))) (rA x) (rB x) (rC x) c),.int .u64 (fiX 3 x 1 (asS (a0b wx (xix o (a0c ↑k) 4))) (asB (a0b wx (a0a (a0a (a0a (xix o (a0c ↑k) 4) 1) 1) 1))) (rA x) (rB x) (rC x) d)],sN [.str (a4u x),.int .i64 (rA x),.int .i64 (rB x),.int .i64 (rC x),.bool (rD x)],sN [.str js,.int .i64 jl,.int .i64 jc,.bool jb],sN [.str (asS (a0b wx (xix o (a0c ↑k) 4))),.int .i64 (asI (a0b wx (a0a (xix o (a0c ↑k) 4) 1))),.int .i64 (asI (a0b wx (a0a (a0a (xix o (a0c ↑k) 4) 1) 1))),.bool (asB (a0b wx (a0a (a0a (a0a (xix o (a0c ↑k) 4) 1) 1) 1)))]] gt4)
 else(
 K .normal [.slo 0 o m 0,.int .i64 e,.int .i64 ln,.int .i64 n,.ptr 1 0,.ptr 2 0,.ptr 3 0,.ptr 4 0,.any,.ptr 5 0,.bool (fiO x 1 (asS (a0b wx (xix o (a0c ↑k) 4))) (asB (a0b wx (a0a (a0a (a0a (xix o (a0c ↑k) 4) 1) 1) 1))) (rA x) (rB x) (rC x)),.ptr 6 0,.int .i64 (xar .add .i64 (↑k) 1),.int .i64 2] [sC wx 4,sN [.int .i64 0,.int .i64 0,.int .i64 0,.int .i64 0,.int .u64 0],sN [.str [],.int .i64 0,.int .i64 0,.bool false],sN [.int .i64 0,.int .i64 0,.int .i64 0],sN [.int .i64 x,.int .i64 (fiX 0 x 1 (asS (a0b wx (xix o (a0c ↑k) 4))) (asB (a0b wx (a0a (a0a (a0a (xix o (a0c ↑k) 4) 1) 1) 1))) (rA x) (rB x) (rC x) a),.int .i64 (fiX 1 x 1 (asS (a0b wx (xix o (a0c ↑k) 4))) (asB (a0b wx (a0a (a0a (a0a (xix o (a0c ↑k) 4) 1) 1) 1))) (rA x) (rB x) (rC x) b),.int .i64 (fiX 2 x 1 (asS (a0b wx (xix o (a0c ↑k) 4))) (asB (a0b wx (a0a (a0a (a0a (xix o (a0c ↑k) 4) 1) 1) 1))) (rA x) (rB x) (rC x) c),.int .u64 (fiX 3 x 1 (asS (a0b wx (xix o (a0c ↑k) 4))) (asB (a0b wx (a0a (a0a (a0a (xix o (a0c ↑k) 4) 1) 1) 1))) (rA x) (rB x) (rC x) d)],sN [.str (a4u x),.int .i64 (rA x),.int .i64 (rB x),.int .i64 (rC x),.bool (rD x)],sN [.str js,.int .i64 jl,.int .i64 jc,.bool jb],sN [.str (asS (a0b wx (xix o (a0c ↑k) 4))),.int .i64 (asI (a0b wx (a0a (xix o (a0c ↑k) 4) 1))),.int .i64 (asI (a0b wx (a0a (a0a (xix o (a0c ↑k) 4) 1) 1))),.bool (asB (a0b wx (a0a (a0a (a0a (xix o (a0c ↑k) 4) 1) 1) 1)))]] gt4)))):=by kernel_rfl
abbrev a6r (o:Nat) (ln:Int) (k:Nat) (x:Int) (a:Int) (b:Int) (c:Int) (d:Int) (js:List UInt8) (jl:Int) (jc:Int) (jb:Bool) (wx:List LV):List (Option LB):=[sC wx 4,sN [.int .i64 x,.int .i64 a,.int .i64 b,.int .i64 c,.int .u64 d],sN [.str [],.int .i64 0,.int .i64 0,.bool false],sN [.int .i64 ln,.int .i64 (asI (a0b wx (a0a (a0a (xix o (a0c ↑k) 4) 1) 1))),.int .i64 12],sN [.int .i64 x,.int .i64 a,.int .i64 b,.int .i64 c,.int .u64 d],sN [.str (a4u x),.int .i64 (rA x),.int .i64 (rB x),.int .i64 (rC x),.bool (rD x)],sN [.str js,.int .i64 jl,.int .i64 jc,.bool jb],sN [.str (asS (a0b wx (xix o (a0c ↑k) 4))),.int .i64 (asI (a0b wx (a0a (xix o (a0c ↑k) 4) 1))),.int .i64 (asI (a0b wx (a0a (a0a (xix o (a0c ↑k) 4) 1) 1))),.bool (asB (a0b wx (a0a (a0a (a0a (xix o (a0c ↑k) 4) 1) 1) 1)))]]
abbrev b2p (o:Nat) (k:Nat) (x:Int) (a:Int) (b:Int) (c:Int) (d:Int) (wx:List LV):List (Option LB):=[sC wx 4,sN [.int .i64 0,.int .i64 0,.int .i64 0,.int .i64 0,.int .u64 0],sN [.str [],.int .i64 0,.int .i64 0,.bool false],sN [.int .i64 0,.int .i64 0,.int .i64 0],sN [.int .i64 x,.int .i64 a,.int .i64 b,.int .i64 c,.int .u64 d],sN [.str (a4u x),.int .i64 (rA x),.int .i64 (rB x),.int .i64 (rC x),.bool (rD x)],sN [.str (asS (a0b wx (xix o (a0c ↑k) 4))),.int .i64 (asI (a0b wx (a0a (xix o (a0c ↑k) 4) 1))),.int .i64 (asI (a0b wx (a0a (a0a (xix o (a0c ↑k) 4) 1) 1))),.bool (asB (a0b wx (a0a (a0a (a0a (xix o (a0c ↑k) 4) 1) 1) 1)))],sN [.str (asS (a0b wx (xix o (a0c ↑k) 4))),.int .i64 (asI (a0b wx (a0a (xix o (a0c ↑k) 4) 1))),.int .i64 (asI (a0b wx (a0a (a0a (xix o (a0c ↑k) 4) 1) 1))),.bool (asB (a0b wx (a0a (a0a (a0a (xix o (a0c ↑k) 4) 1) 1) 1)))]]
theorem f9p (o m:Nat) (e ln n:Int) (k:Nat) (x a b c d:Int) (js:List UInt8) (jl jc:Int) (jb:Bool) (wx:List LV) (K:Pk):(a1h prog d3r 60 178 (a1w (a4i (sp prog 37) 12)) (a1p 178 (c6l o m e ln n k 2)) (mkS (d2e wx x a b c d js jl jc jb) gt4) (vK iiL K))=(
 bif xcm .lss (rC x) 0 then(
 K .normal [.slo 0 o m 0,.int .i64 e,.int .i64 ln,.int .i64 n,.ptr 1 0,.ptr 2 0,.ptr 3 0,.ptr 4 0,.any,.ptr 5 0,.any,.ptr 6 0,.int .i64 ↑k,.int .i64 3] [sC wx 4,sN [.int .i64 0,.int .i64 0,.int .i64 0,.int .i64 0,.int .u64 0],sN [.str [],.int .i64 0,.int .i64 0,.bool false],sN [.int .i64 0,.int .i64 0,.int .i64 0],sN [.int .i64 x,.int .i64 a,.int .i64 b,.int .i64 c,.int .u64 d],sN [.str (a4u x),.int .i64 (rA x),.int .i64 (rB x),.int .i64 (rC x),.bool (rD x)],sN [.str js,.int .i64 jl,.int .i64 jc,.bool jb]] gt4)
 else(
 bif xcm .geq ↑k ↑m then(
 K .ret [.slo 0 o m 0,.int .i64 e,.int .i64 ln,.int .i64 n,.ptr 1 0,.ptr 2 0,.ptr 3 0,.ptr 4 0,.any,.ptr 5 0,.any,.ptr 6 0,.int .i64 ↑k,.int .i64 2] [sC wx 4,sN [.int .i64 x,.int .i64 a,.int .i64 b,.int .i64 c,.int .u64 d],sN [.str [],.int .i64 0,.int .i64 0,.bool false],sN [.int .i64 ln,.int .i64 e,.int .i64 12],sN [.int .i64 x,.int .i64 a,.int .i64 b,.int .i64 c,.int .u64 d],sN [.str (a4u x),.int .i64 (rA x),.int .i64 (rB x),.int .i64 (rC x),.bool (rD x)],sN [.str js,.int .i64 jl,.int .i64 jc,.bool jb]] gt4)
 else(
 ck (xle (a0a (a0c ↑k) 1) m) <|
 ck (xle (a0a (xix o (a0c ↑k) 4) 4) (xln wx)) <|
 ck (isS (a0b wx (xix o (a0c ↑k) 4))) <|
 ck (isI .i64 (a0b wx (a0a (xix o (a0c ↑k) 4) 1))) <|
 ck (isI .i64 (a0b wx (a0a (a0a (xix o (a0c ↑k) 4) 1) 1))) <|
 ck (isB (a0b wx (a0a (a0a (a0a (xix o (a0c ↑k) 4) 1) 1) 1))) <|
 bif xcm .eql x 12 then(
 bif asB (a0b wx (a0a (a0a (a0a (xix o (a0c ↑k) 4) 1) 1) 1)) then(
 ck (xcm .eql (asI (a0b wx (a0a (a0a (xix o (a0c ↑k) 4) 1) 1))) (asI (a0b wx (a0a (a0a (xix o (a0c ↑k) 4) 1) 1)))) <|
 ck (xcm .eql (asI (a0b wx (a0a (a0a (xix o (a0c ↑k) 4) 1) 1))) (asI (a0b wx (a0a (a0a (xix o (a0c ↑k) 4) 1) 1)))) <|
 ck (xcm .eql (asI (a0b wx (a0a (a0a (xix o (a0c ↑k) 4) 1) 1))) (asI (a0b wx (a0a (a0a (xix o (a0c ↑k) 4) 1) 1)))) <|
 ck (xcm .eql (asI (a0b wx (a0a (a0a (xix o (a0c ↑k) 4) 1) 1))) (asI (a0b wx (a0a (a0a (xix o (a0c ↑k) 4) 1) 1)))) <|
 K .ret [.slo 0 o m 0,.int .i64 e,.int .i64 ln,.int .i64 n,.ptr 1 0,.ptr 2 0,.ptr 3 0,.ptr 4 0,.any,.ptr 5 0,.any,.ptr 6 0,.int .i64 (xar .add .i64 (↑k) 1),.int .i64 2] (a6r o ln k x a b c d js jl jc jb wx) gt4)
 else(
 ck (xle (a0z (asS (a0b wx (xix o (a0c ↑k) 4)))) 1000000000) <|
 bif a3i (a9l (asS (a0b wx (xix o (a0c ↑k) 4)))) then(
 ck (xcm .eql (asI (a0b wx (a0a (a0a (xix o (a0c ↑k) 4) 1) 1))) (asI (a0b wx (a0a (a0a (xix o (a0c ↑k) 4) 1) 1)))) <|
 ck (xcm .eql (asI (a0b wx (a0a (a0a (xix o (a0c ↑k) 4) 1) 1))) (asI (a0b wx (a0a (a0a (xix o (a0c ↑k) 4) 1) 1)))) <|
 ck (xcm .eql (asI (a0b wx (a0a (a0a (xix o (a0c ↑k) 4) 1) 1))) (asI (a0b wx (a0a (a0a (xix o (a0c ↑k) 4) 1) 1)))) <|
 ck (xcm .eql (asI (a0b wx (a0a (a0a (xix o (a0c ↑k) 4) 1) 1))) (asI (a0b wx (a0a (a0a (xix o (a0c ↑k) 4) 1) 1)))) <|
 K .ret [.slo 0 o m 0,.int .i64 e,.int .i64 ln,.int .i64 n,.ptr 1 0,.ptr 2 0,.ptr 3 0,.ptr 4 0,.any,.ptr 5 0,.any,.ptr 6 0,.int .i64 (xar .add .i64 (↑k) 1),.int .i64 2] (a6r o ln k x a b c d js jl jc jb wx) gt4)
 else(
 K .normal [.slo 0 o m 0,.int .i64 e,.int .i64 ln,.int .i64 n,.ptr 1 0,.ptr 2 0,.ptr 3 0,.ptr 4 0,.any,.ptr 5 0,.any,.ptr 6 0,.int .i64 (xar .add .i64 (↑k) 1),.int .i64 3] (b2p o k x a b c d wx) gt4)))
 else(
 bif xcm .eql x 13 then(
 bif asB (a0b wx (a0a (a0a (a0a (xix o (a0c ↑k) 4) 1) 1) 1)) then(
 ck (xcm .eql (asI (a0b wx (a0a (a0a (xix o (a0c ↑k) 4) 1) 1))) (asI (a0b wx (a0a (a0a (xix o (a0c ↑k) 4) 1) 1)))) <|
 ck (xcm .eql (asI (a0b wx (a0a (a0a (xix o (a0c ↑k) 4) 1) 1))) (asI (a0b wx (a0a (a0a (xix o (a0c ↑k) 4) 1) 1)))) <|
 ck (xcm .eql (asI (a0b wx (a0a (a0a (xix o (a0c ↑k) 4) 1) 1))) (asI (a0b wx (a0a (a0a (xix o (a0c ↑k) 4) 1) 1)))) <|
 ck (xcm .eql (asI (a0b wx (a0a (a0a (xix o (a0c ↑k) 4) 1) 1))) (asI (a0b wx (a0a (a0a (xix o (a0c ↑k) 4) 1) 1)))) <|
 K .ret [.slo 0 o m 0,.int .i64 e,.int .i64 ln,.int .i64 n,.ptr 1 0,.ptr 2 0,.ptr 3 0,.ptr 4 0,.any,.ptr 5 0,.any,.ptr 6 0,.int .i64 (xar .add .i64 (↑k) 1),.int .i64 2] (a6r o ln k x a b c d js jl jc jb wx) gt4)
 else(
 ck (xle (a0z (asS (a0b wx (xix o (a0c ↑k) 4)))) 1000000000) <|
 bif a3i (a9l (asS (a0b wx (xix o (a0c ↑k) 4)))) then(
 ck (xcm .eql (asI (a0b wx (a0a (a0a (xix o (a0c ↑k) 4) 1) 1))) (asI (a0b wx (a0a (a0a (xix o (a0c ↑k) 4) 1) 1)))) <|
 ck (xcm .eql (asI (a0b wx (a0a (a0a (xix o (a0c ↑k) 4) 1) 1))) (asI (a0b wx (a0a (a0a (xix o (a0c ↑k) 4) 1) 1)))) <|
 ck (xcm .eql (asI (a0b wx (a0a (a0a (xix o (a0c ↑k) 4) 1) 1))) (asI (a0b wx (a0a (a0a (xix o (a0c ↑k) 4) 1) 1)))) <|
 ck (xcm .eql (asI (a0b wx (a0a (a0a (xix o (a0c ↑k) 4) 1) 1))) (asI (a0b wx (a0a (a0a (xix o (a0c ↑k) 4) 1) 1)))) <|
 K .ret [.slo 0 o m 0,.int .i64 e,.int .i64 ln,.int .i64 n,.ptr 1 0,.ptr 2 0,.ptr 3 0,.ptr 4 0,.any,.ptr 5 0,.any,.ptr 6 0,.int .i64 (xar .add .i64 (↑k) 1),.int .i64 2] (a6r o ln k x a b c d js jl jc jb wx) gt4)
 else(
 K .normal [.slo 0 o m 0,.int .i64 e,.int .i64 ln,.int .i64 n,.ptr 1 0,.ptr 2 0,.ptr 3 0,.ptr 4 0,.any,.ptr 5 0,.any,.ptr 6 0,.int .i64 (xar .add .i64 (↑k) 1),.int .i64 3] (b2p o k x a b c d wx) gt4)))
 else(
 ck (b6j b8t) <|
 bif a3i (fiO x 2 (asS (a0b wx (xix o (a0c ↑k) 4))) (asB (a0b wx (a0a (a0a (a0a (xix o (a0c ↑k) 4) 1) 1) 1))) (rA x) (rB x) (rC x)) then(
 ck (xcm .eql (asI (a0b wx (a0a (a0a (xix o (a0c ↑k) 4) 1) 1))) (asI (a0b wx (a0a (a0a (xix o (a0c ↑k) 4) 1) 1)))) <|
 ck (xcm .eql (asI (a0b wx (a0a (a0a (xix o (a0c ↑k) 4) 1) 1))) (asI (a0b wx (a0a (a0a (xix o (a0c ↑k) 4) 1) 1)))) <|
 ck (xcm .eql (asI (a0b wx (a0a (a0a (xix o (a0c ↑k) 4) 1) 1))) (asI (a0b wx (a0a (a0a (xix o (a0c ↑k) 4) 1) 1)))) <|
 ck (xcm .eql (asI (a0b wx (a0a (a0a (xix o (a0c ↑k) 4) 1) 1))) (asI (a0b wx (a0a (a0a (xix o (a0c ↑k) 4) 1) 1)))) <|
 K .ret [.slo 0 o m 0,.int .i64 e,.int .i64 ln,.int .i64 n,.ptr 1 0,.ptr 2 0,.ptr 3 0,.ptr 4 0,.any,.ptr 5 0,.bool (fiO x 2 (asS (a0b wx (xix o (a0c ↑k) 4))) (asB (a0b wx (a0a (a0a (a0a (xix o (a0c ↑k) 4) 1) 1) 1))) (rA x) (rB x) (rC x)),.ptr 6 0,.int .i64 (xar .add .i64 (↑k) 1),.int .i64 2] [sC wx 4,sN [.int .i64 x,.int .i64 (fiX 0 x 2 (asS (a0b wx (xix o (a0c ↑k) 4))) (asB (a0b wx (a0a (a0a (a0a (xix o (a0c ↑k) 4) 1) 1) 1))) (rA x) (rB x) (rC x) a),.int .i64 (fiX 1 x 2 (asS (a0b wx (xix o (a0c ↑k) 4))) (asB (a0b wx (a0a (a0a (a0a (xix o (a0c ↑k) 4) 1) 1) 1))) (rA x) (rB x) (rC x) b),.int .i64 (fiX 2 x 2 (asS (a0b wx (xix o (a0c ↑k) 4))) (asB (a0b wx (a0a (a0a (a0a (xix o (a0c ↑k) 4) 1) 1) 1))) (rA x) (rB x) (rC x) c),.int .u64 (fiX 3 x 2 (asS (a0b wx (xix o (a0c ↑k) 4))) (asB (a0b wx (a0a (a0a (a0a (xix o (a0c ↑k) 4) 1) 1) 1))) (rA x) (rB x) (rC x) d)],sN [.str [],.int .i64 0,.int .i64 0,.bool false],sN [.int .i64 ln,.int .i64 (asI (a0b wx (a0a (a0a (xix o (a0c ↑k) 4) 1) 1))),.int .i64 12],sN [.int .i64 x,.int .i64 (fiX 0 x 2 (asS (a0b wx (xix o (a0c ↑k) 4))) (asB (a0b wx (a0a (a0a (a0a (xix o (a0c ↑k) 4) 1) 1) 1))) (rA x) (rB x) (rC x) a),.int .i64 (fiX 1 x 2 (asS (a0b wx (xix o (a0c ↑k) 4))) (asB (a0b wx (a0a (a0a (a0a (xix o (a0c ↑k) 4) 1) 1) 1))) (rA x) (rB x) (rC x) b),.int .i64 (fiX 2 x 2 (asS (a0b wx (xix o (a0c ↑k) 4))) (asB (a0b wx (a0a (a0a (a0a (xix o (a0c ↑k) 4) 1) 1) 1))) (rA x) (rB x) (rC x) c),.int .u64 (fiX 3 x 2 (asS (a0b wx (xix o (a0c ↑k) 4))) (asB (a0b wx (a0a (a0a (a0a (xix o (a0c ↑k) 4) 1) 1) 1))) (rA x) (rB x) (rC x) d)],sN [.str (a4u x),.int .i64 (rA x),.int .i64 (rB x),.int .i64 (rC x),.bool (rD x)],sN [.str js,.int .i64 jl,.int .i64 jc,.bool jb],sN [.str (asS (a0b wx (xix o (a0c ↑k) 4))),.int .i64 (asI (a0b wx (a0a (xix o (a0c ↑k) 4) 1))),.int .i64 (asI (a0b wx (a0a (a0a (xix o (a0c ↑k) 4) 1) 1))),.bool (asB (a0b wx (a0a (a0a (a0a (xix o (a0c ↑k) 4) 1) 1) 1)))]] gt4)
 else(
 K .normal [.slo 0 o m 0,.int .i64 e,.int .i64 ln,.int .i64 n,.ptr 1 0,.ptr 2 0,.ptr 3 0,.ptr 4 0,.any,.ptr 5 0,.bool (fiO x 2 (asS (a0b wx (xix o (a0c ↑k) 4))) (asB (a0b wx (a0a (a0a (a0a (xix o (a0c ↑k) 4) 1) 1) 1))) (rA x) (rB x) (rC x)),.ptr 6 0,.int .i64 (xar .add .i64 (↑k) 1),.int .i64 3] [sC wx 4,sN [.int .i64 0,.int .i64 0,.int .i64 0,.int .i64 0,.int .u64 0],sN [.str [],.int .i64 0,.int .i64 0,.bool false],sN [.int .i64 0,.int .i64 0,.int .i64 0],sN [.int .i64 x,.int .i64 (fiX 0 x 2 (asS (a0b wx (xix o (a0c ↑k) 4))) (asB (a0b wx (a0a (a0a (a0a (xix o (a0c ↑k) 4) 1) 1) 1))) (rA x) (rB x) (rC x) a),.int .i64 (fiX 1 x 2 (asS (a0b wx (xix o (a0c ↑k) 4))) (asB (a0b wx (a0a (a0a (a0a (xix o (a0c ↑k) 4) 1) 1) 1))) (rA x) (rB x) (rC x) b),.int .i64 (fiX 2 x 2 (asS (a0b wx (xix o (a0c ↑k) 4))) (asB (a0b wx (a0a (a0a (a0a (xix o (a0c ↑k) 4) 1) 1) 1))) (rA x) (rB x) (rC x) c),.int .u64 (fiX 3 x 2 (asS (a0b wx (xix o (a0c ↑k) 4))) (asB (a0b wx (a0a (a0a (a0a (xix o (a0c ↑k) 4) 1) 1) 1))) (rA x) (rB x) (rC x) d)],sN [.str (a4u x),.int .i64 (rA x),.int .i64 (rB x),.int .i64 (rC x),.bool (rD x)],sN [.str js,.int .i64 jl,.int .i64 jc,.bool jb],sN [.str (asS (a0b wx (xix o (a0c ↑k) 4))),.int .i64 (asI (a0b wx (a0a (xix o (a0c ↑k) 4) 1))),.int .i64 (asI (a0b wx (a0a (a0a (xix o (a0c ↑k) 4) 1) 1))),.bool (asB (a0b wx (a0a (a0a (a0a (xix o (a0c ↑k) 4) 1) 1) 1)))]] gt4)))))):=by kernel_rfl
theorem f9o (o m:Nat) (e ln n:Int) (k:Nat) (x a b c d:Int) (js:List UInt8) (jl jc:Int) (jb:Bool) (wx:List LV) (K:Pk):(a1h prog d3r 60 178 (a1w (a4i (sp prog 37) 12)) (a1p 178 (c6l o m e ln n k 3)) (mkS (d2e wx x a b c d js jl jc jb) gt4) (vK iiL K))=(
 bif a3i (rD x) then(
 K .normal [.slo 0 o m 0,.int .i64 e,.int .i64 ln,.int .i64 n,.ptr 1 0,.ptr 2 0,.ptr 3 0,.ptr 4 0,.any,.ptr 5 0,.any,.ptr 6 0,.int .i64 ↑k,.int .i64 4] [sC wx 4,sN [.int .i64 0,.int .i64 0,.int .i64 0,.int .i64 0,.int .u64 0],sN [.str [],.int .i64 0,.int .i64 0,.bool false],sN [.int .i64 0,.int .i64 0,.int .i64 0],sN [.int .i64 x,.int .i64 a,.int .i64 b,.int .i64 c,.int .u64 d],sN [.str (a4u x),.int .i64 (rA x),.int .i64 (rB x),.int .i64 (rC x),.bool (rD x)],sN [.str js,.int .i64 jl,.int .i64 jc,.bool jb]] gt4)
 else(
 bif xcm .geq ↑k ↑m then(
 K .ret [.slo 0 o m 0,.int .i64 e,.int .i64 ln,.int .i64 n,.ptr 1 0,.ptr 2 0,.ptr 3 0,.ptr 4 0,.any,.ptr 5 0,.any,.ptr 6 0,.int .i64 ↑k,.int .i64 3] [sC wx 4,sN [.int .i64 x,.int .i64 a,.int .i64 b,.int .i64 c,.int .u64 d],sN [.str [],.int .i64 0,.int .i64 0,.bool false],sN [.int .i64 ln,.int .i64 e,.int .i64 12],sN [.int .i64 x,.int .i64 a,.int .i64 b,.int .i64 c,.int .u64 d],sN [.str (a4u x),.int .i64 (rA x),.int .i64 (rB x),.int .i64 (rC x),.bool (rD x)],sN [.str js,.int .i64 jl,.int .i64 jc,.bool jb]] gt4)
 else(
 ck (xle (a0a (a0c ↑k) 1) m) <|
 ck (xle (a0a (xix o (a0c ↑k) 4) 4) (xln wx)) <|
 ck (isS (a0b wx (xix o (a0c ↑k) 4))) <|
 ck (isI .i64 (a0b wx (a0a (xix o (a0c ↑k) 4) 1))) <|
 ck (isI .i64 (a0b wx (a0a (a0a (xix o (a0c ↑k) 4) 1) 1))) <|
 ck (isB (a0b wx (a0a (a0a (a0a (xix o (a0c ↑k) 4) 1) 1) 1))) <|
 ck (b6j b8t) <|
 bif a3i (fiO x 3 (asS (a0b wx (xix o (a0c ↑k) 4))) (asB (a0b wx (a0a (a0a (a0a (xix o (a0c ↑k) 4) 1) 1) 1))) (rA x) (rB x) (rC x)) then(
 ck (xcm .eql (asI (a0b wx (a0a (a0a (xix o (a0c ↑k) 4) 1) 1))) (asI (a0b wx (a0a (a0a (xix o (a0c ↑k) 4) 1) 1)))) <|
 ck (xcm .eql (asI (a0b wx (a0a (a0a (xix o (a0c ↑k) 4) 1) 1))) (asI (a0b wx (a0a (a0a (xix o (a0c ↑k) 4) 1) 1)))) <|
 ck (xcm .eql (asI (a0b wx (a0a (a0a (xix o (a0c ↑k) 4) 1) 1))) (asI (a0b wx (a0a (a0a (xix o (a0c ↑k) 4) 1) 1)))) <|
 ck (xcm .eql (asI (a0b wx (a0a (a0a (xix o (a0c ↑k) 4) 1) 1))) (asI (a0b wx (a0a (a0a (xix o (a0c ↑k) 4) 1) 1)))) <|
 K .ret [.slo 0 o m 0,.int .i64 e,.int .i64 ln,.int .i64 n,.ptr 1 0,.ptr 2 0,.ptr 3 0,.ptr 4 0,.any,.ptr 5 0,.bool (fiO x 3 (asS (a0b wx (xix o (a0c ↑k) 4))) (asB (a0b wx (a0a (a0a (a0a (xix o (a0c ↑k) 4) 1) 1) 1))) (rA x) (rB x) (rC x)),.ptr 6 0,.int .i64 (xar .add .i64 (↑k) 1),.int .i64 3] [sC wx 4,sN [.int .i64 x,.int .i64 (fiX 0 x 3 (asS (a0b wx (xix o (a0c ↑k) 4))) (asB (a0b wx (a0a (a0a (a0a (xix o (a0c ↑k) 4) 1) 1) 1))) (rA x) (rB x) (rC x) a),.int .i64 (fiX 1 x 3 (asS (a0b wx (xix o (a0c ↑k) 4))) (asB (a0b wx (a0a (a0a (a0a (xix o (a0c ↑k) 4) 1) 1) 1))) (rA x) (rB x) (rC x) b),.int .i64 (fiX 2 x 3 (asS (a0b wx (xix o (a0c ↑k) 4))) (asB (a0b wx (a0a (a0a (a0a (xix o (a0c ↑k) 4) 1) 1) 1))) (rA x) (rB x) (rC x) c),.int .u64 (fiX 3 x 3 (asS (a0b wx (xix o (a0c ↑k) 4))) (asB (a0b wx (a0a (a0a (a0a (xix o (a0c ↑k) 4) 1) 1) 1))) (rA x) (rB x) (rC x) d)],sN [.str [],.int .i64 0,.int .i64 0,.bool false],sN [.int .i64 ln,.int .i64 (asI (a0b wx (a0a (a0a (xix o (a0c ↑k) 4) 1) 1))),.int .i64 12],sN [.int .i64 x,.int .i64 (fiX 0 x 3 (asS (a0b wx (xix o (a0c ↑k) 4))) (asB (a0b wx (a0a (a0a (a0a (xix o (a0c ↑k) 4) 1) 1) 1))) (rA x) (rB x) (rC x) a),.int .i64 (fiX 1 x 3 (asS (a0b wx (xix o (a0c ↑k) 4))) (asB (a0b wx (a0a (a0a (a0a (xix o (a0c ↑k) 4) 1) 1) 1))) (rA x) (rB x) (rC x) b),.int .i64 (fiX 2 x 3 (asS (a0b wx (xix o (a0c ↑k) 4))) (asB (a0b wx (a0a (a0a (a0a (xix o (a0c ↑k) 4) 1) 1) 1))) (rA x) (rB x) (rC x) c),.int .u64 (fiX 3 x 3 (asS (a0b wx (xix o (a0c ↑k) 4))) (asB (a0b wx (a0a (a0a (a0a (xix o (a0c ↑k) 4) 1) 1) 1))) (rA x) (rB x) (rC x) d)],sN [.str (a4u x),.int .i64 (rA x),.int .i64 (rB x),.int .i64 (rC x),.bool (rD x)],sN [.str js,.int .i64 jl,.int .i64 jc,.bool jb],sN [.str (asS (a0b wx (xix o (a0c ↑k) 4))),.int .i64 (asI (a0b wx (a0a (xix o (a0c ↑k) 4) 1))),.int .i64 (asI (a0b wx (a0a (a0a (xix o (a0c ↑k) 4) 1) 1))),.bool (asB (a0b wx (a0a (a0a (a0a (xix o (a0c ↑k) 4) 1) 1) 1)))]] gt4)
 else(
 K .normal [.slo 0 o m 0,.int .i64 e,.int .i64 ln,.int .i64 n,.ptr 1 0,.ptr 2 0,.ptr 3 0,.ptr 4 0,.any,.ptr 5 0,.bool (fiO x 3 (asS (a0b wx (xix o (a0c ↑k) 4))) (asB (a0b wx (a0a (a0a (a0a (xix o (a0c ↑k) 4) 1) 1) 1))) (rA x) (rB x) (rC x)),.ptr 6 0,.int .i64 (xar .add .i64 (↑k) 1),.int .i64 4] [sC wx 4,sN [.int .i64 0,.int .i64 0,.int .i64 0,.int .i64 0,.int .u64 0],sN [.str [],.int .i64 0,.int .i64 0,.bool false],sN [.int .i64 0,.int .i64 0,.int .i64 0],sN [.int .i64 x,.int .i64 (fiX 0 x 3 (asS (a0b wx (xix o (a0c ↑k) 4))) (asB (a0b wx (a0a (a0a (a0a (xix o (a0c ↑k) 4) 1) 1) 1))) (rA x) (rB x) (rC x) a),.int .i64 (fiX 1 x 3 (asS (a0b wx (xix o (a0c ↑k) 4))) (asB (a0b wx (a0a (a0a (a0a (xix o (a0c ↑k) 4) 1) 1) 1))) (rA x) (rB x) (rC x) b),.int .i64 (fiX 2 x 3 (asS (a0b wx (xix o (a0c ↑k) 4))) (asB (a0b wx (a0a (a0a (a0a (xix o (a0c ↑k) 4) 1) 1) 1))) (rA x) (rB x) (rC x) c),.int .u64 (fiX 3 x 3 (asS (a0b wx (xix o (a0c ↑k) 4))) (asB (a0b wx (a0a (a0a (a0a (xix o (a0c ↑k) 4) 1) 1) 1))) (rA x) (rB x) (rC x) d)],sN [.str (a4u x),.int .i64 (rA x),.int .i64 (rB x),.int .i64 (rC x),.bool (rD x)],sN [.str js,.int .i64 jl,.int .i64 jc,.bool jb],sN [.str (asS (a0b wx (xix o (a0c ↑k) 4))),.int .i64 (asI (a0b wx (a0a (xix o (a0c ↑k) 4) 1))),.int .i64 (asI (a0b wx (a0a (a0a (xix o (a0c ↑k) 4) 1) 1))),.bool (asB (a0b wx (a0a (a0a (a0a (xix o (a0c ↑k) 4) 1) 1) 1)))]] gt4)))):=by kernel_rfl
theorem f9n (o m:Nat) (e ln n:Int) (k:Nat) (x a b c d:Int) (js:List UInt8) (jl jc:Int) (jb:Bool) (wx:List LV) (K:Pk):(a1h prog d3r 60 178 (a1w (a4i (sp prog 37) 12)) (a1p 178 (c6l o m e ln n k 4)) (mkS (d2e wx x a b c d js jl jc jb) gt4) (vK iiL K))=(
 K (.exit 2) [.slo 0 o m 0,.int .i64 e,.int .i64 ln,.int .i64 n,.ptr 1 0,.ptr 2 0,.ptr 3 0,.ptr 4 0,.any,.ptr 5 0,.any,.ptr 6 0,.int .i64 ↑k,.int .i64 4] [sC wx 4,sN [.int .i64 0,.int .i64 0,.int .i64 0,.int .i64 0,.int .u64 0],sN [.str [],.int .i64 0,.int .i64 0,.bool false],sN [.int .i64 0,.int .i64 0,.int .i64 0],sN [.int .i64 x,.int .i64 a,.int .i64 b,.int .i64 c,.int .u64 d],sN [.str (a4u x),.int .i64 (rA x),.int .i64 (rB x),.int .i64 (rC x),.bool (rD x)],sN [.str js,.int .i64 jl,.int .i64 jc,.bool jb]] gt4):=by kernel_rfl
theorem g6x (o m:Nat) (e ln n:Int) (k:Nat) (x a b c d:Int) (js:List UInt8) (jl jc:Int) (jb:Bool) (wx:List LV) (K:Pk):(xsp prog d3r 60 178 ((sp prog 37).drop 13) (a1p 178 (c6l o m e ln n k 4)) (mkS (d2e wx x a b c d js jl jc jb) gt4) (vK iiL K))=(
 bif xcm .lss ↑k ↑m then(
 ck (xle (a0a (a0c ↑k) 1) m) <|
 ck (xle (a0a (a0a (xix o (a0c ↑k) 4) 2) 1) (xln wx)) <|
 ck (isI .i64 (a0b wx (a0a (xix o (a0c ↑k) 4) 2))) <|
 ck (xle (a0a (a0a (xix o (a0c ↑k) 4) 2) 1) (xln wx)) <|
 ck (isI .i64 (a0b wx (a0a (xix o (a0c ↑k) 4) 2))) <|
 ck (xcm .eql (asI (a0b wx (a0a (xix o (a0c ↑k) 4) 2))) (asI (a0b wx (a0a (xix o (a0c ↑k) 4) 2)))) <|
 ck (xle (a0a (a0a (xix o (a0c ↑k) 4) 2) 1) (xln wx)) <|
 ck (isI .i64 (a0b wx (a0a (xix o (a0c ↑k) 4) 2))) <|
 ck (xcm .eql (asI (a0b wx (a0a (xix o (a0c ↑k) 4) 2))) (asI (a0b wx (a0a (xix o (a0c ↑k) 4) 2)))) <|
 ck (xle (a0a (a0a (xix o (a0c ↑k) 4) 2) 1) (xln wx)) <|
 ck (isI .i64 (a0b wx (a0a (xix o (a0c ↑k) 4) 2))) <|
 ck (xcm .eql (asI (a0b wx (a0a (xix o (a0c ↑k) 4) 2))) (asI (a0b wx (a0a (xix o (a0c ↑k) 4) 2)))) <|
 ck (xle (a0a (a0a (xix o (a0c ↑k) 4) 2) 1) (xln wx)) <|
 ck (isI .i64 (a0b wx (a0a (xix o (a0c ↑k) 4) 2))) <|
 ck (xcm .eql (asI (a0b wx (a0a (xix o (a0c ↑k) 4) 2))) (asI (a0b wx (a0a (xix o (a0c ↑k) 4) 2)))) <|
 K .ret [.slo 0 o m 0,.int .i64 e,.int .i64 ln,.int .i64 n,.ptr 1 0,.ptr 2 0,.ptr 3 0,.ptr 4 0,.any,.ptr 5 0,.any,.ptr 6 0,.int .i64 ↑k,.int .i64 4] [sC wx 4,sN [.int .i64 x,.int .i64 a,.int .i64 b,.int .i64 c,.int .u64 d],sN [.str [],.int .i64 0,.int .i64 0,.bool false],sN [.int .i64 ln,.int .i64 (asI (a0b wx (a0a (xix o (a0c ↑k) 4) 2))),.int .i64 12],sN [.int .i64 x,.int .i64 a,.int .i64 b,.int .i64 c,.int .u64 d],sN [.str (a4u x),.int .i64 (rA x),.int .i64 (rB x),.int .i64 (rC x),.bool (rD x)],sN [.str js,.int .i64 jl,.int .i64 jc,.bool jb]] gt4)
 else(
 ck (a3h .eql js js) <|
 ck (xcm .eql jl jl) <|
 ck (xcm .eql jc jc) <|
 ck (xbq jb jb) <|
 ck (a3h .eql js js) <|
 ck (xcm .eql jl jl) <|
 ck (xcm .eql jc jc) <|
 ck (xbq jb jb) <|
 K .ret [.slo 0 o m 0,.int .i64 e,.int .i64 ln,.int .i64 n,.ptr 1 0,.ptr 2 0,.ptr 3 0,.ptr 4 0,.any,.ptr 5 0,.any,.ptr 6 0,.int .i64 ↑k,.int .i64 4] [sC wx 4,sN [.int .i64 x,.int .i64 a,.int .i64 b,.int .i64 c,.int .u64 d],sN [.str js,.int .i64 jl,.int .i64 jc,.bool jb],sN [.int .i64 0,.int .i64 0,.int .i64 0],sN [.int .i64 x,.int .i64 a,.int .i64 b,.int .i64 c,.int .u64 d],sN [.str (a4u x),.int .i64 (rA x),.int .i64 (rB x),.int .i64 (rC x),.bool (rD x)],sN [.str js,.int .i64 jl,.int .i64 jc,.bool jb]] gt4)):=by kernel_rfl
end
end Go.Lev
/- text: the reference's instruction -/
namespace Go.Lev
set_option linter.unusedSimpArgs false
set_option linter.unusedVariables false
open Go.RowKit
open Go.Proofs.Tryd (prog)
set_option maxRecDepth 100000
noncomputable section
def rwZ:RW:=⟨[],0,0,false⟩
def b6u (op f:Int):Bool:=if f=0 then !decide (rA op < 0) else if f=1 then !decide (rB op < 0) else if f=2 then !decide (rC op < 0) else rD op
def c3b (op f:Int):Bool:=decide (f=2) && (decide (op=12) || decide (op=13))
def c8s (w:RW):Bool:=!w.bd && a9l w.s
def b5o (op f:Int) (w:RW) (x:InX):InX:=⟨x.op,fiX 0 op f w.s w.bd (rA op) (rB op) (rC op) x.a,fiX 1 op f w.s w.bd (rA op) (rB op) (rC op) x.b,fiX 2 op f w.s w.bd (rA op) (rB op) (rC op) x.c,fiX 3 op f w.s w.bd (rA op) (rB op) (rC op) x.n⟩
def c3a (op f:Int) (w:RW):Bool:=fiO op f w.s w.bd (rA op) (rB op) (rC op)
def b4x (e op:Int):List Int→List RW→InX→RW→Option Int×List RW×InX×RW
 | [],ws,x,j=>(none,ws,x,j)
 | f::r,ws,x,j=>if b6u op f=false then b4x e op r ws x j else match ws with
   | []=>(some e,[],x,j)
   | w::ws'=>if c3b op f then(if c8s w then b4x e op r ws' x w else(some w.cl,ws',x,j))
     else if c3a op f w then b4x e op r ws' (b5o op f w x) j else(some w.cl,ws',b5o op f w x,j)
def opX (v:RW):Int:=if v.bd then 0 else opW v.s
def f4h (ln:Int) (R:Option Int×List RW×InX×RW):InX×RW×(Int×Int×Int):=match R with
 | (some c,_,x,_)=>(x,rwZ,(ln,c,12))
 | (none,[],x,j)=>(x,j,(0,0,0))
 | (none,w::_,x,_)=>(x,rwZ,(ln,w.cl,12))
def c8h (e ln n:Int) (ws:List RW):InX×RW×(Int×Int×Int) :=
 match ws with
 | []=>(⟨0,0,0,0,0⟩,rwZ,(0,0,0))
 | v::r =>
   if rOk (opX v)=false then(⟨opX v,0,0,0,0⟩,rwZ,(ln,v.cl,12))
   else if 40≤n then(⟨opX v,0,0,0,0⟩,rwZ,(ln,v.cl,4))
   else f4h ln (b4x e (opX v) [0,1,2,3] r ⟨opX v,0,0,0,0⟩ rwZ)
theorem c2c {e op:Int} {f:Int} {r:List Int} {ws:List RW} {x:InX} {j:RW} (h:b6u op f=false):b4x e op (f::r) ws x j=b4x e op r ws x j:=by cases ws <;> simp [b4x,h]
theorem c2d {e op:Int} {f:Int} {r:List Int} {x:InX} {j:RW} (h:b6u op f=true):b4x e op (f::r) [] x j=(some e,[],x,j):=by simp [b4x,h]
theorem c2e {e op:Int} {f:Int} {r:List Int} {w:RW} {ws:List RW} {x:InX} {j:RW} (h:b6u op f=true):b4x e op (f::r) (w::ws) x j=if c3b op f then(if c8s w then b4x e op r ws x w else(some w.cl,ws,x,j)) else if c3a op f w then b4x e op r ws (b5o op f w x) j else(some w.cl,ws,b5o op f w x,j):=by simp [b4x,h]
abbrev b1q (x:InX):LV:=inV x.op x.a x.b x.c x.n
abbrev f6l (x:RW):LV:=rwV x.s x.ln x.cl x.bd
abbrev plV (z:Int×Int×Int):LV:=.agg [.int .i64 z.1,.int .i64 z.2.1,.int .i64 z.2.2]
def opK (v:RW) (k:Nat):Int:=if v.bd then 0 else a5a nmN k v.s
theorem c5t (f:Nat→List UInt8) (s:List UInt8):∀ k,0≤a5a f k s∧a5a f k s≤k
 | 0=>⟨Int.le_refl _,Int.le_refl _⟩
 | k+1=>by
   have:=c5t f s k
   rw [a5a]
   cases f (k+1) == s
   ·simp only [cond_false]; omega
   ·simp only [cond_true]; omega
theorem f3f (v:RW):0≤opX v∧opX v≤23:=by
 unfold opX
 split
 ·omega
 ·exact c5t _ _ 23
structure IiX where
 k:Nat
 x:InX
 j:RW
structure WrP (wx:List LV) (o:Nat) (L:List RW):Prop where
 n:o+L.length * 4≤wx.length
 g:∀ i (h:i < L.length),a0b wx (o+i * 4)=.str L[i].s∧a0b wx (o+i * 4+1)=.int .i64 L[i].ln∧a0b wx (o+i * 4+1+1)=.int .i64 L[i].cl∧a0b wx (o+i * 4+1+1+1)=.bool L[i].bd
theorem WrP.of (A L:List RW):WrP (a0f rwC (A++L)) (A.length * 4) L:=by
 refine⟨by rw [d3o,List.length_append]; omega,fun i h=>?_⟩
 have hi:A.length+i < (A++L).length:=by rw [List.length_append]; omega
 have eg:(A++L)[A.length+i]=L[i]:=by rw [List.getElem_append_right (by omega)]; congr 1; omega
 have G:=fun j (hj:j < 4)=>a2s (f:=rwC) b5p (j:=j) hi hj
 have g0:=G 0 (by omega); have g1:=G 1 (by omega); have g2:=G 2 (by omega); have g3:=G 3 (by omega)
 rw [eg] at g0 g1 g2 g3
 rw [show A.length * 4+i * 4=(A.length+i) * 4+0 by omega]
 exact⟨g0,g1,g2,g3⟩
set_option maxHeartbeats 8000000 in
theorem f9m (wx:List LV) (o:Nat) (L:List RW) (e ln n:Int) (hwx:a1q wx=true) (hW:WrP wx o L) (h1:1≤L.length) (hl:L.length≤100000) (hs:∀ w∈L,w.s.length≤1000000000) :
  a0k prog 37 [.slo 0 o L.length 0,.int .i64 e,.int .i64 ln,.int .i64 n] (mkS [.cells wx (some 4)] gt4) fun l st=>l=LV.tup [b1q (c8h e ln n L).1,f6l (c8h e ln n L).2.1,plV (c8h e ln n L).2.2]∧st=mkS [.cells wx (some 4)] gt4:=by
 obtain⟨Z,hZ⟩:∃ Z,Z=c8h e ln n L:=⟨_,rfl⟩
 rw [← hZ]
 refine a0k.mono (a0k.h0o (Q:=fun l b=>l=LV.tup [b1q Z.1,f6l Z.2.1,plV Z.2.2]∧b=[.cells wx (some 4)]) 178 1 [.cell 8 42,.cell 9 90,.cell 10 95] iiL (by kernel_rfl) rfl rfl (by kernel_rfl) ?_) fun l s' ⟨b0,⟨h1,h2⟩,h3⟩=>⟨h1,by rw [h3,h2]⟩
 obtain⟨v,ws,rfl⟩:∃ v ws,L=v::ws:=by
  cases L with
  | nil=>simp at h1
  | cons v ws=>exact⟨v,ws,rfl⟩
 generalize hL:v::ws=L at *
 have v0:L[0]=v:=by subst hL; rfl
 obtain⟨z0,z1,z2,z3⟩:=hW.g 0 (by omega)
 simp only [Nat.zero_mul,Nat.add_zero,v0] at z0 z1 z2 z3
 have z2':a0b wx (o+2)=.int .i64 v.cl:=z2
 have z3':a0b wx (o+3)=.bool v.bd:=z3
 have wn:=hW.n
 have wS:∀ x,asS (.str x)=x:=fun _=>rfl
 have wiS:∀ x,isS (.str x)=true:=fun _=>rfl
 have wB:∀ x,asB (.bool x)=x:=fun _=>rfl
 have wiB:∀ x,isB (.bool x)=true:=fun _=>rfl
 have er:∀ x:Int,xcm .eql x x=true:=fun x=>a2i rfl
 have es:∀ x:List UInt8,a3h .eql x x=true:=fun x=>by show(x == x)=true; simp
 have eb:∀ x:Bool,xbq x x=true:=fun x=>by cases x <;> rfl
 have m1:xle 1 L.length=true:=a1n h1
 have y1:xle (o+1) wx.length=true:=a1n (by omega)
 have y3:xle (o+2+1) wx.length=true:=a1n (by omega)
 have y4:xle (o+3+1) wx.length=true:=a1n (by omega)
 have pF:b6j b8t=true:=a8d
 refine SSp.to b6r (n:=60) (g:=gt4) 3 3 rfl (σ:=Unit) (fun _=>iiT o L.length e ln n 1) (fun _=>iiH wx (opK v 0)) (a0y (Nat.le_of_ble_eq_true rfl)) (by kernel_rfl) ?_ fun _=>?_
 ·rw [g7b]
  have k0:opK v 0=0:=by unfold opK; split <;> rfl
  exact⟨rfl,(),[.id 0,.id 1,.id 2,.id 3,.id 4],by dsimp only; rw [k0]; (exact zC)⟩
 refine SSp.code_to (g:=gt4) 4 rfl (σ:=Unit) (fun _=>iiT o L.length e ln n 24) (fun _=>iiH wx (opX v)) (by kernel_rfl) ?_ fun _=>?_
 ·refine a0p.g9s b6r (n:=60) (n0:=1) 0 (by kernel_rfl) (σ:={p:Nat // 1≤p∧p≤24}) (fun p=>iiT o L.length e ln n p.1) (fun p=>iiH wx (opK v (p.1 - 1))) (fun p=>24 - p.1) (fun _=>Nat.le_of_ble_eq_true rfl) (fun⟨p,hp1,hp2⟩=>?_) ⟨1,Nat.le_refl _,by omega⟩
  dsimp only at hp1 hp2 ⊢
  generalize hx:opK v (p - 1)=x
  rw [g6y]
  by_cases h:p≤23
  ·have e3:xar .add .i64 (p:Int) 1=((p+1:Nat):Int):=by rw [a5c (by omega) (by omega)]; rfl
   simp only [show xcm .leq 0 ((p:Nat):Int)=true from a9k (by omega),show xcm .leq ((p:Nat):Int) 23=true from a9k (by omega),show rOk ((p:Nat):Int)=true from by(simp [rOk]; omega),a5j,a1o,a3e,Nat.zero_mul,Nat.add_zero,m1,y1,y4,z0,z3',wS,wiS,wB,wiB,e3,cond_true]
   have nx:∀ y,y=opK v p→opK v (p+1 - 1)=y:=fun y hy=>by rw [hy]; rfl
   have pe:p=(p - 1)+1:=by omega
   cases hb:v.bd with
   | true =>
     have:=nx x (by rw [← hx]; simp [opK,hb])
     simp only [show a3i true=false from rfl,cond_false]
     exact⟨rfl,⟨p+1,by omega,by omega⟩,by simp only; omega,[.id 0,.id 1,.id 2,.id 3,.id 4],by dsimp only; rw [this]; (exact zC)⟩
   | false =>
     simp only [show a3i false=true from rfl,cond_true]
     have en:a4u ((p:Nat):Int)=nmN p:=rfl
     cases hq:nmN p == v.s with
     | true =>
       have:=nx ((p:Nat):Int) (by rw [opK,hb]; simp only [Bool.false_eq_true,if_false]; rw [pe,a5a,← pe,hq]; rfl)
       simp only [show a3h .eql (a4u ((p:Nat):Int)) v.s=true from hq,cond_true]
       exact⟨rfl,⟨p+1,by omega,by omega⟩,by simp only; omega,[.id 0,.id 1,.id 2,.id 3,.id 4],by dsimp only; rw [this]; (exact zC)⟩
     | false =>
       have:=nx x (by rw [← hx,opK,opK,hb]; simp only [Bool.false_eq_true,if_false]; rw [pe,a5a,← pe,hq]; rfl)
       simp only [show a3h .eql (a4u ((p:Nat):Int)) v.s=false from hq,cond_false]
       exact⟨rfl,⟨p+1,by omega,by omega⟩,by simp only; omega,[.id 0,.id 1,.id 2,.id 3,.id 4],by dsimp only; rw [this]; (exact zC)⟩
  ·simp only [show xcm .leq ((p:Nat):Int) 23=false from c5a (by omega),cond_false]
   obtain rfl:p=24:=by omega
   have hx:opX v=x:=hx
   exact⟨rfl,(),[.id 0,.id 1,.id 2,.id 3,.id 4],by rw [hx]; (exact zC)⟩
 have hin:=f3f v
 generalize hop:opX v=op at *
 refine SSp.to b6r (n:=60) (g:=gt4) 8 12 rfl (σ:={_u:Unit // rOk op=true∧¬ 40≤n}) (fun _=>c6l o L.length e ln n 1 0) (fun _=>d2e wx op 0 0 0 0 [] 0 0 false) (a0y (Nat.le_of_ble_eq_true rfl)) (by kernel_rfl) ?_ fun⟨_,ho,h40⟩=>?_
 ·rw [g7a]
  simp only [a5j,a1o,a3e,Nat.zero_mul,Nat.add_zero,m1,y3,z2',er,a9k hin.1,a9k hin.2,a3d,a2q,decide_true,cond_true]
  cases ho:rOk op with
  | false =>
    have hz:Z=(⟨op,0,0,0,0⟩,rwZ,(ln,v.cl,12)):=by rw [hZ,← hL,c8h,hop,if_pos ho]
    subst hz
    simp only [show a3i false=true from rfl,cond_true]
    exact⟨trivial,rfl,[inV op 0 0 0 0,rwV [] 0 0 false,plV (ln,v.cl,12)],LV.tup [inV op 0 0 0 0,rwV [] 0 0 false,plV (ln,v.cl,12)],[.cells wx (some 4)],[.id 0],by kernel_rfl,⟨rfl,rfl⟩,by(exact zC)⟩
  | true =>
    simp only [show a3i true=false from rfl,cond_false]
    by_cases h40:40≤n
    ·have hz:Z=(⟨op,0,0,0,0⟩,rwZ,(ln,v.cl,4)):=by rw [hZ,← hL,c8h,hop,if_neg (by rw [ho]; simp),if_pos h40]
     subst hz
     simp only [show xcm .geq n 40=true from b3a h40,cond_true]
     exact⟨trivial,rfl,[inV op 0 0 0 0,rwV [] 0 0 false,plV (ln,v.cl,4)],LV.tup [inV op 0 0 0 0,rwV [] 0 0 false,plV (ln,v.cl,4)],[.cells wx (some 4)],[.id 0],by kernel_rfl,⟨rfl,rfl⟩,by(exact zC)⟩
    ·simp only [show xcm .geq n 40=false from b6o (by omega),cond_false]
     exact⟨rfl,⟨(),rfl,h40⟩,[.id 0,.id 1,.id 2,.id 3,.id 4,.id 5,.id 6],by(exact zC)⟩
 obtain⟨RES,hRES⟩:∃ R,R=b4x e op [0,1,2,3] ws ⟨op,0,0,0,0⟩ rwZ:=⟨_,rfl⟩
 have hz:Z=f4h ln RES:=by
  rw [hZ,← hL,c8h,hop,if_neg (by rw [ho]; simp),if_neg h40,hRES]
 have fin:∀ (c:Int) (w':List RW) (x:InX) (j:RW),(some c,w',x,j)=RES→Z=(x,rwZ,(ln,c,12)):=fun c w' x j h=>by rw [hz,← h]; rfl
 refine SSp.code_to (g:=gt4) 13 rfl (σ:={S:IiX // S.x.op=op∧S.k≤L.length∧(none,L.drop S.k,S.x,S.j)=RES}) (fun S=>c6l o L.length e ln n S.1.k 4) (fun S=>d2e wx op S.1.x.a S.1.x.b S.1.x.c S.1.x.n S.1.j.s S.1.j.ln S.1.j.cl S.1.j.bd) (by kernel_rfl) ?_ fun⟨⟨k,x,j⟩,hxo,hk,hR⟩=>?_
 ·refine a0p.g9s b6r (n:=60) (n0:=1) 2 (by kernel_rfl) (σ:={p:Nat×IiX // p.1≤4∧p.2.x.op=op∧p.2.k≤L.length∧b4x e op (([0,1,2,3]:List Int).drop p.1) (L.drop p.2.k) p.2.x p.2.j=RES}) (fun p=>c6l o L.length e ln n p.1.2.k p.1.1) (fun p=>d2e wx op p.1.2.x.a p.1.2.x.b p.1.2.x.c p.1.2.x.n p.1.2.j.s p.1.2.j.ln p.1.2.j.cl p.1.2.j.bd) (fun p=>4 - p.1.1) (fun _=>Nat.le_of_ble_eq_true rfl) (fun⟨⟨f,⟨k,x,j⟩⟩,hf,hxo,hk,hR⟩=>?_) ⟨(0,⟨1,⟨op,0,0,0,0⟩,rwZ⟩),by omega,rfl,h1,by rw [hRES,← hL]; rfl⟩
  dsimp only at hf hxo hk hR ⊢
  subst hxo
  have hf':f=0∨f=1∨f=2∨f=3∨f=4:=by omega
  rcases hf' with rfl | rfl | rfl | rfl | rfl
  ·change a1h _ _ _ _ _ (a1p 178 (c6l o L.length e ln n k 0)) _ _
   change b4x e x.op (0::[1,2,3]) (L.drop k) x j=RES at hR
   rw [f9r]
   by_cases hA:rA x.op < 0
   ·have ha:b6u x.op 0=false:=by simp [b6u,hA]
    rw [c2c ha] at hR
    simp only [show xcm .lss (rA x.op) 0=true from a6j hA,cond_true]
    exact⟨rfl,⟨(1,⟨k,x,j⟩),by omega,rfl,hk,hR⟩,by simp only; omega,[.id 0,.id 1,.id 2,.id 3,.id 4,.id 5,.id 6],by(exact zC)⟩
   have ha:b6u x.op 0=true:=by simp [b6u,hA]
   simp only [show xcm .lss (rA x.op) 0=false from a6h (by omega),cond_false]
   by_cases hkm:L.length≤k
   ·rw [List.drop_of_length_le hkm,c2d ha] at hR
    have hz2:=fin _ _ _ _ hR
    subst hz2
    simp only [show xcm .geq ((k:Nat):Int) ((L.length:Nat):Int)=true from b3a (by omega),cond_true]
    exact⟨trivial,rfl,[b1q x,rwV [] 0 0 false,plV (ln,e,12)],LV.tup [b1q x,rwV [] 0 0 false,plV (ln,e,12)],[.cells wx (some 4)],[.id 0],by kernel_rfl,⟨rfl,rfl⟩,by(exact zC)⟩
   have hkl:k < L.length:=by omega
   rw [List.drop_eq_getElem_cons hkl,c2e ha] at hR
   obtain⟨g0,g1,g2,g3⟩:=hW.g k hkl
   have hsk:=hs _ (List.getElem_mem hkl)
   generalize L[k]=w at *
   have b1:xle (k+1) L.length=true:=a1n (by omega)
   have b2:xle (o+k * 4+4) wx.length=true:=a1n (by omega)
   have b3:xle (a0z w.s) 1000000000=true:=a1n hsk
   have e3:xar .add .i64 (k:Int) 1=((k+1:Nat):Int):=by rw [a5c (by omega) (by omega)]; rfl
   simp only [show xcm .geq ((k:Nat):Int) ((L.length:Nat):Int)=false from b6o (by omega),a2w,a5j,a1o,a3e,b1,b2,b3,g0,g1,g2,g3,wS,wiS,wB,wiB,a2q,a3d,er,e3,pF,decide_true,cond_true,cond_false]
   have nj:c3b x.op 0=false:=by simp [c3b]
   rw [if_neg (by rw [nj]; simp)] at hR
   cases hO:c3a x.op 0 w with
   | false =>
     rw [hO,if_neg (by simp)] at hR
     have hz2:=fin _ _ _ _ hR
     subst hz2
     have hO':fiO x.op 0 w.s w.bd (rA x.op) (rB x.op) (rC x.op)=false:=hO
     simp only [hO',show a3i false=true from rfl,cond_true]
     exact⟨trivial,rfl,[b1q (b5o x.op 0 w x),rwV [] 0 0 false,plV (ln,w.cl,12)],LV.tup [b1q (b5o x.op 0 w x),rwV [] 0 0 false,plV (ln,w.cl,12)],[.cells wx (some 4)],[.id 0],by kernel_rfl,⟨rfl,rfl⟩,by(exact zC)⟩
   | true =>
     rw [hO,if_pos rfl] at hR
     have hO':fiO x.op 0 w.s w.bd (rA x.op) (rB x.op) (rC x.op)=true:=hO
     simp only [hO',show a3i true=false from rfl,cond_false]
     exact⟨rfl,⟨(1,⟨k+1,b5o x.op 0 w x,j⟩),by omega,rfl,hkl,hR⟩,by simp only; omega,[.id 0,.id 1,.id 2,.id 3,.id 4,.id 5,.id 6],by(exact zC)⟩
  ·change a1h _ _ _ _ _ (a1p 178 (c6l o L.length e ln n k 1)) _ _
   change b4x e x.op (1::[2,3]) (L.drop k) x j=RES at hR
   rw [f9q]
   by_cases hA:rB x.op < 0
   ·have ha:b6u x.op 1=false:=by simp [b6u,hA]
    rw [c2c ha] at hR
    simp only [show xcm .lss (rB x.op) 0=true from a6j hA,cond_true]
    exact⟨rfl,⟨(2,⟨k,x,j⟩),by omega,rfl,hk,hR⟩,by simp only; omega,[.id 0,.id 1,.id 2,.id 3,.id 4,.id 5,.id 6],by(exact zC)⟩
   have ha:b6u x.op 1=true:=by simp [b6u,hA]
   simp only [show xcm .lss (rB x.op) 0=false from a6h (by omega),cond_false]
   by_cases hkm:L.length≤k
   ·rw [List.drop_of_length_le hkm,c2d ha] at hR
    have hz2:=fin _ _ _ _ hR
    subst hz2
    simp only [show xcm .geq ((k:Nat):Int) ((L.length:Nat):Int)=true from b3a (by omega),cond_true]
    exact⟨trivial,rfl,[b1q x,rwV [] 0 0 false,plV (ln,e,12)],LV.tup [b1q x,rwV [] 0 0 false,plV (ln,e,12)],[.cells wx (some 4)],[.id 0],by kernel_rfl,⟨rfl,rfl⟩,by(exact zC)⟩
   have hkl:k < L.length:=by omega
   rw [List.drop_eq_getElem_cons hkl,c2e ha] at hR
   obtain⟨g0,g1,g2,g3⟩:=hW.g k hkl
   have hsk:=hs _ (List.getElem_mem hkl)
   generalize L[k]=w at *
   have b1:xle (k+1) L.length=true:=a1n (by omega)
   have b2:xle (o+k * 4+4) wx.length=true:=a1n (by omega)
   have b3:xle (a0z w.s) 1000000000=true:=a1n hsk
   have e3:xar .add .i64 (k:Int) 1=((k+1:Nat):Int):=by rw [a5c (by omega) (by omega)]; rfl
   simp only [show xcm .geq ((k:Nat):Int) ((L.length:Nat):Int)=false from b6o (by omega),a2w,a5j,a1o,a3e,b1,b2,b3,g0,g1,g2,g3,wS,wiS,wB,wiB,a2q,a3d,er,e3,pF,decide_true,cond_true,cond_false]
   have nj:c3b x.op 1=false:=by simp [c3b]
   rw [if_neg (by rw [nj]; simp)] at hR
   cases hO:c3a x.op 1 w with
   | false =>
     rw [hO,if_neg (by simp)] at hR
     have hz2:=fin _ _ _ _ hR
     subst hz2
     have hO':fiO x.op 1 w.s w.bd (rA x.op) (rB x.op) (rC x.op)=false:=hO
     simp only [hO',show a3i false=true from rfl,cond_true]
     exact⟨trivial,rfl,[b1q (b5o x.op 1 w x),rwV [] 0 0 false,plV (ln,w.cl,12)],LV.tup [b1q (b5o x.op 1 w x),rwV [] 0 0 false,plV (ln,w.cl,12)],[.cells wx (some 4)],[.id 0],by kernel_rfl,⟨rfl,rfl⟩,by(exact zC)⟩
   | true =>
     rw [hO,if_pos rfl] at hR
     have hO':fiO x.op 1 w.s w.bd (rA x.op) (rB x.op) (rC x.op)=true:=hO
     simp only [hO',show a3i true=false from rfl,cond_false]
     exact⟨rfl,⟨(2,⟨k+1,b5o x.op 1 w x,j⟩),by omega,rfl,hkl,hR⟩,by simp only; omega,[.id 0,.id 1,.id 2,.id 3,.id 4,.id 5,.id 6],by(exact zC)⟩
  ·change a1h _ _ _ _ _ (a1p 178 (c6l o L.length e ln n k 2)) _ _
   change b4x e x.op (2::[3]) (L.drop k) x j=RES at hR
   rw [f9p]; simp only [a6r,b2p]
   by_cases hA:rC x.op < 0
   ·have ha:b6u x.op 2=false:=by simp [b6u,hA]
    rw [c2c ha] at hR
    simp only [show xcm .lss (rC x.op) 0=true from a6j hA,cond_true]
    exact⟨rfl,⟨(3,⟨k,x,j⟩),by omega,rfl,hk,hR⟩,by simp only; omega,[.id 0,.id 1,.id 2,.id 3,.id 4,.id 5,.id 6],by(exact zC)⟩
   have ha:b6u x.op 2=true:=by simp [b6u,hA]
   simp only [show xcm .lss (rC x.op) 0=false from a6h (by omega),cond_false]
   by_cases hkm:L.length≤k
   ·rw [List.drop_of_length_le hkm,c2d ha] at hR
    have hz2:=fin _ _ _ _ hR
    subst hz2
    simp only [show xcm .geq ((k:Nat):Int) ((L.length:Nat):Int)=true from b3a (by omega),cond_true]
    exact⟨trivial,rfl,[b1q x,rwV [] 0 0 false,plV (ln,e,12)],LV.tup [b1q x,rwV [] 0 0 false,plV (ln,e,12)],[.cells wx (some 4)],[.id 0],by kernel_rfl,⟨rfl,rfl⟩,by(exact zC)⟩
   have hkl:k < L.length:=by omega
   rw [List.drop_eq_getElem_cons hkl,c2e ha] at hR
   obtain⟨g0,g1,g2,g3⟩:=hW.g k hkl
   have hsk:=hs _ (List.getElem_mem hkl)
   generalize L[k]=w at *
   have b1:xle (k+1) L.length=true:=a1n (by omega)
   have b2:xle (o+k * 4+4) wx.length=true:=a1n (by omega)
   have b3:xle (a0z w.s) 1000000000=true:=a1n hsk
   have e3:xar .add .i64 (k:Int) 1=((k+1:Nat):Int):=by rw [a5c (by omega) (by omega)]; rfl
   simp only [show xcm .geq ((k:Nat):Int) ((L.length:Nat):Int)=false from b6o (by omega),a2w,a5j,a1o,a3e,b1,b2,b3,g0,g1,g2,g3,wS,wiS,wB,wiB,a2q,a3d,er,e3,pF,decide_true,cond_true,cond_false]
   by_cases p12:x.op=12
   ·have nj:c3b x.op 2=true:=by simp [c3b,p12]
    rw [if_pos nj] at hR
    simp only [show xcm .eql x.op 12=true from a2i p12,cond_true,cond_false]
    cases hb:w.bd with
    | true =>
      rw [if_neg (by simp [c8s,hb])] at hR
      have hz2:=fin _ _ _ _ hR
      subst hz2
      simp only [cond_true]
      exact⟨trivial,rfl,[b1q x,rwV [] 0 0 false,plV (ln,w.cl,12)],LV.tup [b1q x,rwV [] 0 0 false,plV (ln,w.cl,12)],[.cells wx (some 4)],[.id 0],by kernel_rfl,⟨rfl,rfl⟩,by(try simp only [a6r,a2w,a5j,a1o,g0,g1,g2,g3,hb,wS,wB,a2q]); (exact zC)⟩
    | false =>
      simp only [cond_false]
      cases hN:a9l w.s with
      | false =>
        rw [if_neg (by simp [c8s,hb,hN])] at hR
        have hz2:=fin _ _ _ _ hR
        subst hz2
        simp only [show a3i false=true from rfl,cond_true]
        exact⟨trivial,rfl,[b1q x,rwV [] 0 0 false,plV (ln,w.cl,12)],LV.tup [b1q x,rwV [] 0 0 false,plV (ln,w.cl,12)],[.cells wx (some 4)],[.id 0],by kernel_rfl,⟨rfl,rfl⟩,by(try simp only [a6r,a2w,a5j,a1o,g0,g1,g2,g3,hb,wS,wB,a2q]); (exact zC)⟩
      | true =>
        rw [if_pos (by simp [c8s,hb,hN])] at hR
        simp only [show a3i true=false from rfl,cond_false]
        exact⟨rfl,⟨(3,⟨k+1,x,w⟩),by omega,rfl,hkl,hR⟩,by simp only; omega,[.id 0,.id 1,.id 2,.id 3,.id 4,.id 5,.id 6],by(try simp only [b2p,a2w,a5j,a1o,g0,g1,g2,g3,hb,wS,wB,a2q]); (exact zC)⟩
   by_cases p13:x.op=13
   ·have nj:c3b x.op 2=true:=by simp [c3b,p13]
    rw [if_pos nj] at hR
    simp only [show xcm .eql x.op 12=false from a2c p12,show xcm .eql x.op 13=true from a2i p13,cond_true,cond_false]
    cases hb:w.bd with
    | true =>
      rw [if_neg (by simp [c8s,hb])] at hR
      have hz2:=fin _ _ _ _ hR
      subst hz2
      simp only [cond_true]
      exact⟨trivial,rfl,[b1q x,rwV [] 0 0 false,plV (ln,w.cl,12)],LV.tup [b1q x,rwV [] 0 0 false,plV (ln,w.cl,12)],[.cells wx (some 4)],[.id 0],by kernel_rfl,⟨rfl,rfl⟩,by(try simp only [a6r,a2w,a5j,a1o,g0,g1,g2,g3,hb,wS,wB,a2q]); (exact zC)⟩
    | false =>
      simp only [cond_false]
      cases hN:a9l w.s with
      | false =>
        rw [if_neg (by simp [c8s,hb,hN])] at hR
        have hz2:=fin _ _ _ _ hR
        subst hz2
        simp only [show a3i false=true from rfl,cond_true]
        exact⟨trivial,rfl,[b1q x,rwV [] 0 0 false,plV (ln,w.cl,12)],LV.tup [b1q x,rwV [] 0 0 false,plV (ln,w.cl,12)],[.cells wx (some 4)],[.id 0],by kernel_rfl,⟨rfl,rfl⟩,by(try simp only [a6r,a2w,a5j,a1o,g0,g1,g2,g3,hb,wS,wB,a2q]); (exact zC)⟩
      | true =>
        rw [if_pos (by simp [c8s,hb,hN])] at hR
        simp only [show a3i true=false from rfl,cond_false]
        exact⟨rfl,⟨(3,⟨k+1,x,w⟩),by omega,rfl,hkl,hR⟩,by simp only; omega,[.id 0,.id 1,.id 2,.id 3,.id 4,.id 5,.id 6],by(try simp only [b2p,a2w,a5j,a1o,g0,g1,g2,g3,hb,wS,wB,a2q]); (exact zC)⟩
   have nj:c3b x.op 2=false:=by simp [c3b,p12,p13]
   simp only [show xcm .eql x.op 12=false from a2c p12,show xcm .eql x.op 13=false from a2c p13,cond_false]
   rw [if_neg (by rw [nj]; simp)] at hR
   cases hO:c3a x.op 2 w with
   | false =>
     rw [hO,if_neg (by simp)] at hR
     have hz2:=fin _ _ _ _ hR
     subst hz2
     have hO':fiO x.op 2 w.s w.bd (rA x.op) (rB x.op) (rC x.op)=false:=hO
     simp only [hO',show a3i false=true from rfl,cond_true]
     exact⟨trivial,rfl,[b1q (b5o x.op 2 w x),rwV [] 0 0 false,plV (ln,w.cl,12)],LV.tup [b1q (b5o x.op 2 w x),rwV [] 0 0 false,plV (ln,w.cl,12)],[.cells wx (some 4)],[.id 0],by kernel_rfl,⟨rfl,rfl⟩,by(exact zC)⟩
   | true =>
     rw [hO,if_pos rfl] at hR
     have hO':fiO x.op 2 w.s w.bd (rA x.op) (rB x.op) (rC x.op)=true:=hO
     simp only [hO',show a3i true=false from rfl,cond_false]
     exact⟨rfl,⟨(3,⟨k+1,b5o x.op 2 w x,j⟩),by omega,rfl,hkl,hR⟩,by simp only; omega,[.id 0,.id 1,.id 2,.id 3,.id 4,.id 5,.id 6],by(exact zC)⟩
  ·change a1h _ _ _ _ _ (a1p 178 (c6l o L.length e ln n k 3)) _ _
   change b4x e x.op (3::[]) (L.drop k) x j=RES at hR
   rw [f9o]
   cases hA:rD x.op with
   | false =>
     have ha:b6u x.op 3=false:=by simp [b6u,hA]
     rw [c2c ha] at hR
     simp only [show a3i false=true from rfl,cond_true]
     exact⟨rfl,⟨(4,⟨k,x,j⟩),by omega,rfl,hk,(show b4x e x.op (([0,1,2,3]:List Int).drop 4) (L.drop k) x j=RES by rw [show([0,1,2,3]:List Int).drop 4=[] from rfl]; exact hR)⟩,by simp only; omega,[.id 0,.id 1,.id 2,.id 3,.id 4,.id 5,.id 6],by simp only [d2e,hA]; (exact zC)⟩
   | true =>
   have ha:b6u x.op 3=true:=by simp [b6u,hA]
   simp only [show a3i true=false from rfl,cond_false]
   by_cases hkm:L.length≤k
   ·rw [List.drop_of_length_le hkm,c2d ha] at hR
    have hz2:=fin _ _ _ _ hR
    subst hz2
    simp only [show xcm .geq ((k:Nat):Int) ((L.length:Nat):Int)=true from b3a (by omega),cond_true]
    exact⟨trivial,rfl,[b1q x,rwV [] 0 0 false,plV (ln,e,12)],LV.tup [b1q x,rwV [] 0 0 false,plV (ln,e,12)],[.cells wx (some 4)],[.id 0],by kernel_rfl,⟨rfl,rfl⟩,by(exact zC)⟩
   have hkl:k < L.length:=by omega
   rw [List.drop_eq_getElem_cons hkl,c2e ha] at hR
   obtain⟨g0,g1,g2,g3⟩:=hW.g k hkl
   have hsk:=hs _ (List.getElem_mem hkl)
   generalize L[k]=w at *
   have b1:xle (k+1) L.length=true:=a1n (by omega)
   have b2:xle (o+k * 4+4) wx.length=true:=a1n (by omega)
   have b3:xle (a0z w.s) 1000000000=true:=a1n hsk
   have e3:xar .add .i64 (k:Int) 1=((k+1:Nat):Int):=by rw [a5c (by omega) (by omega)]; rfl
   simp only [show xcm .geq ((k:Nat):Int) ((L.length:Nat):Int)=false from b6o (by omega),a2w,a5j,a1o,a3e,b1,b2,b3,g0,g1,g2,g3,wS,wiS,wB,wiB,a2q,a3d,er,e3,pF,decide_true,cond_true,cond_false]
   have nj:c3b x.op 3=false:=by simp [c3b]
   rw [if_neg (by rw [nj]; simp)] at hR
   cases hO:c3a x.op 3 w with
   | false =>
     rw [hO,if_neg (by simp)] at hR
     have hz2:=fin _ _ _ _ hR
     subst hz2
     have hO':fiO x.op 3 w.s w.bd (rA x.op) (rB x.op) (rC x.op)=false:=hO
     simp only [hO',show a3i false=true from rfl,cond_true]
     exact⟨trivial,rfl,[b1q (b5o x.op 3 w x),rwV [] 0 0 false,plV (ln,w.cl,12)],LV.tup [b1q (b5o x.op 3 w x),rwV [] 0 0 false,plV (ln,w.cl,12)],[.cells wx (some 4)],[.id 0],by kernel_rfl,⟨rfl,rfl⟩,by(exact zC)⟩
   | true =>
     rw [hO,if_pos rfl] at hR
     have hO':fiO x.op 3 w.s w.bd (rA x.op) (rB x.op) (rC x.op)=true:=hO
     simp only [hO',show a3i true=false from rfl,cond_false]
     exact⟨rfl,⟨(4,⟨k+1,b5o x.op 3 w x,j⟩),by omega,rfl,hkl,hR⟩,by simp only; omega,[.id 0,.id 1,.id 2,.id 3,.id 4,.id 5,.id 6],by simp only [d2e,hA]; (exact zC)⟩
  ·change a1h _ _ _ _ _ (a1p 178 (c6l o L.length e ln n k 4)) _ _
   rw [f9n]
   exact⟨rfl,⟨⟨k,x,j⟩,rfl,hk,hR⟩,[.id 0,.id 1,.id 2,.id 3,.id 4,.id 5,.id 6],by(exact zC)⟩
 dsimp only at hxo hk hR ⊢
 subst hxo
 refine zE b6r ?_
 rw [g6x]
 rw [← hR] at hz
 by_cases hkl:k < L.length
 ·rw [List.drop_eq_getElem_cons hkl] at hz
  simp only [f4h] at hz
  obtain⟨g0,g1,g2,g3⟩:=hW.g k hkl
  generalize L[k]=w at *
  have g2':a0b wx (o+k * 4+2)=.int .i64 w.cl:=g2
  have b1:xle (k+1) L.length=true:=a1n (by omega)
  have b2:xle (o+k * 4+2+1) wx.length=true:=a1n (by omega)
  subst hz
  simp only [show xcm .lss ((k:Nat):Int) ((L.length:Nat):Int)=true from a6j (by omega),a2w,a5j,a1o,a3e,b1,b2,g2',a2q,a3d,er,decide_true,cond_true]
  exact⟨trivial,rfl,[b1q x,rwV [] 0 0 false,plV (ln,w.cl,12)],LV.tup [b1q x,rwV [] 0 0 false,plV (ln,w.cl,12)],[.cells wx (some 4)],[.id 0],by kernel_rfl,⟨rfl,rfl⟩,by(exact zC)⟩
 ·rw [List.drop_of_length_le (by omega)] at hz
  simp only [f4h] at hz
  subst hz
  simp only [show xcm .lss ((k:Nat):Int) ((L.length:Nat):Int)=false from a6h (by omega),er,es,eb,cond_true,cond_false]
  exact⟨trivial,rfl,[b1q x,f6l j,plV (0,0,0)],LV.tup [b1q x,f6l j,plV (0,0,0)],[.cells wx (some 4)],[.id 0],by kernel_rfl,⟨rfl,rfl⟩,by(exact zC)⟩
end
end Go.Lev
