import Derived.Test.YtnkkkihgljbllaaDoorCQ4
import Derived.Test.YtnkkkihgljbllaaDoorLc
import Derived.Test.YtnkkkihgljbllaaDoorChecked
import Derived.KernelRfl
/- text: label, printValue, code.Fields as contracts -/
namespace Go.Lev
set_option linter.unusedSimpArgs false
set_option linter.unusedVariables false
open Go.RowKit
open Go.Proofs.Tryd (prog)
set_option maxRecDepth 100000
noncomputable section
theorem fd_cv {a b c d:Int} {bs:List (Option LB)}:convOk 0 1 [0] [.agg [.int .i64 a,.int .i64 b,.int .i64 c,.int .i64 d]] bs [] [(0,.agg [.int .i64 a,.int .i64 b,.int .i64 c,.int .i64 d])] []:=by(exact zC)
abbrev fdT (op:Int):LV:=.agg [.int .i64 (fA op),.int .i64 (fB op),.int .i64 (fC op),.int .i64 (fD op)]
theorem fx1 (rest:Glb) (K:Fk):(xfun prog (fun _=>none) 60 41 [.int .i64 1] (mkS [] (formsG rest)) (vF K))=(
 K (.agg [.int .i64 1,.int .i64 0,.int .i64 0,.int .i64 7]) [sN [.int .i64 1,.int .i64 0,.int .i64 0,.int .i64 7]] (formsG rest)):=by kernel_rfl
theorem fx2 (rest:Glb) (K:Fk):(xfun prog (fun _=>none) 60 41 [.int .i64 2] (mkS [] (formsG rest)) (vF K))=(
 K (.agg [.int .i64 1,.int .i64 1,.int .i64 0,.int .i64 0]) [sN [.int .i64 1,.int .i64 1,.int .i64 0,.int .i64 0]] (formsG rest)):=by kernel_rfl
theorem fx3 (rest:Glb) (K:Fk):(xfun prog (fun _=>none) 60 41 [.int .i64 3] (mkS [] (formsG rest)) (vF K))=(
 K (.agg [.int .i64 1,.int .i64 1,.int .i64 1,.int .i64 0]) [sN [.int .i64 1,.int .i64 1,.int .i64 1,.int .i64 0]] (formsG rest)):=by kernel_rfl
theorem fx4 (rest:Glb) (K:Fk):(xfun prog (fun _=>none) 60 41 [.int .i64 4] (mkS [] (formsG rest)) (vF K))=(
 K (.agg [.int .i64 1,.int .i64 1,.int .i64 1,.int .i64 0]) [sN [.int .i64 1,.int .i64 1,.int .i64 1,.int .i64 0]] (formsG rest)):=by kernel_rfl
theorem fx5 (rest:Glb) (K:Fk):(xfun prog (fun _=>none) 60 41 [.int .i64 5] (mkS [] (formsG rest)) (vF K))=(
 K (.agg [.int .i64 1,.int .i64 1,.int .i64 1,.int .i64 0]) [sN [.int .i64 1,.int .i64 1,.int .i64 1,.int .i64 0]] (formsG rest)):=by kernel_rfl
theorem fx6 (rest:Glb) (K:Fk):(xfun prog (fun _=>none) 60 41 [.int .i64 6] (mkS [] (formsG rest)) (vF K))=(
 K (.agg [.int .i64 1,.int .i64 1,.int .i64 1,.int .i64 0]) [sN [.int .i64 1,.int .i64 1,.int .i64 1,.int .i64 0]] (formsG rest)):=by kernel_rfl
theorem fx7 (rest:Glb) (K:Fk):(xfun prog (fun _=>none) 60 41 [.int .i64 7] (mkS [] (formsG rest)) (vF K))=(
 K (.agg [.int .i64 1,.int .i64 1,.int .i64 1,.int .i64 0]) [sN [.int .i64 1,.int .i64 1,.int .i64 1,.int .i64 0]] (formsG rest)):=by kernel_rfl
theorem fx8 (rest:Glb) (K:Fk):(xfun prog (fun _=>none) 60 41 [.int .i64 8] (mkS [] (formsG rest)) (vF K))=(
 K (.agg [.int .i64 1,.int .i64 1,.int .i64 3,.int .i64 0]) [sN [.int .i64 1,.int .i64 1,.int .i64 3,.int .i64 0]] (formsG rest)):=by kernel_rfl
theorem fx9 (rest:Glb) (K:Fk):(xfun prog (fun _=>none) 60 41 [.int .i64 9] (mkS [] (formsG rest)) (vF K))=(
 K (.agg [.int .i64 1,.int .i64 1,.int .i64 3,.int .i64 0]) [sN [.int .i64 1,.int .i64 1,.int .i64 3,.int .i64 0]] (formsG rest)):=by kernel_rfl
theorem fx10 (rest:Glb) (K:Fk):(xfun prog (fun _=>none) 60 41 [.int .i64 10] (mkS [] (formsG rest)) (vF K))=(
 K (.agg [.int .i64 1,.int .i64 1,.int .i64 0,.int .i64 0]) [sN [.int .i64 1,.int .i64 1,.int .i64 0,.int .i64 0]] (formsG rest)):=by kernel_rfl
theorem fx11 (rest:Glb) (K:Fk):(xfun prog (fun _=>none) 60 41 [.int .i64 11] (mkS [] (formsG rest)) (vF K))=(
 K (.agg [.int .i64 1,.int .i64 0,.int .i64 0,.int .i64 0]) [sN [.int .i64 1,.int .i64 0,.int .i64 0,.int .i64 0]] (formsG rest)):=by kernel_rfl
theorem fx12 (rest:Glb) (K:Fk):(xfun prog (fun _=>none) 60 41 [.int .i64 12] (mkS [] (formsG rest)) (vF K))=(
 K (.agg [.int .i64 0,.int .i64 0,.int .i64 4,.int .i64 0]) [sN [.int .i64 0,.int .i64 0,.int .i64 4,.int .i64 0]] (formsG rest)):=by kernel_rfl
theorem fx13 (rest:Glb) (K:Fk):(xfun prog (fun _=>none) 60 41 [.int .i64 13] (mkS [] (formsG rest)) (vF K))=(
 K (.agg [.int .i64 1,.int .i64 0,.int .i64 4,.int .i64 0]) [sN [.int .i64 1,.int .i64 0,.int .i64 4,.int .i64 0]] (formsG rest)):=by kernel_rfl
theorem fx14 (rest:Glb) (K:Fk):(xfun prog (fun _=>none) 60 41 [.int .i64 14] (mkS [] (formsG rest)) (vF K))=(
 K (.agg [.int .i64 0,.int .i64 0,.int .i64 0,.int .i64 0]) [sN [.int .i64 0,.int .i64 0,.int .i64 0,.int .i64 0]] (formsG rest)):=by kernel_rfl
theorem fx15 (rest:Glb) (K:Fk):(xfun prog (fun _=>none) 60 41 [.int .i64 15] (mkS [] (formsG rest)) (vF K))=(
 K (.agg [.int .i64 0,.int .i64 0,.int .i64 0,.int .i64 0]) [sN [.int .i64 0,.int .i64 0,.int .i64 0,.int .i64 0]] (formsG rest)):=by kernel_rfl
theorem fx16 (rest:Glb) (K:Fk):(xfun prog (fun _=>none) 60 41 [.int .i64 16] (mkS [] (formsG rest)) (vF K))=(
 K (.agg [.int .i64 0,.int .i64 0,.int .i64 0,.int .i64 0]) [sN [.int .i64 0,.int .i64 0,.int .i64 0,.int .i64 0]] (formsG rest)):=by kernel_rfl
theorem fx17 (rest:Glb) (K:Fk):(xfun prog (fun _=>none) 60 41 [.int .i64 17] (mkS [] (formsG rest)) (vF K))=(
 K (.agg [.int .i64 0,.int .i64 0,.int .i64 0,.int .i64 0]) [sN [.int .i64 0,.int .i64 0,.int .i64 0,.int .i64 0]] (formsG rest)):=by kernel_rfl
theorem fx18 (rest:Glb) (K:Fk):(xfun prog (fun _=>none) 60 41 [.int .i64 18] (mkS [] (formsG rest)) (vF K))=(
 K (.agg [.int .i64 0,.int .i64 0,.int .i64 0,.int .i64 0]) [sN [.int .i64 0,.int .i64 0,.int .i64 0,.int .i64 0]] (formsG rest)):=by kernel_rfl
theorem fx19 (rest:Glb) (K:Fk):(xfun prog (fun _=>none) 60 41 [.int .i64 19] (mkS [] (formsG rest)) (vF K))=(
 K (.agg [.int .i64 0,.int .i64 0,.int .i64 0,.int .i64 0]) [sN [.int .i64 0,.int .i64 0,.int .i64 0,.int .i64 0]] (formsG rest)):=by kernel_rfl
theorem fx20 (rest:Glb) (K:Fk):(xfun prog (fun _=>none) 60 41 [.int .i64 20] (mkS [] (formsG rest)) (vF K))=(
 K (.agg [.int .i64 0,.int .i64 0,.int .i64 0,.int .i64 0]) [sN [.int .i64 0,.int .i64 0,.int .i64 0,.int .i64 0]] (formsG rest)):=by kernel_rfl
theorem fx21 (rest:Glb) (K:Fk):(xfun prog (fun _=>none) 60 41 [.int .i64 21] (mkS [] (formsG rest)) (vF K))=(
 K (.agg [.int .i64 1,.int .i64 0,.int .i64 0,.int .i64 0]) [sN [.int .i64 1,.int .i64 0,.int .i64 0,.int .i64 0]] (formsG rest)):=by kernel_rfl
theorem fx22 (rest:Glb) (K:Fk):(xfun prog (fun _=>none) 60 41 [.int .i64 22] (mkS [] (formsG rest)) (vF K))=(
 K (.agg [.int .i64 0,.int .i64 0,.int .i64 0,.int .i64 0]) [sN [.int .i64 0,.int .i64 0,.int .i64 0,.int .i64 0]] (formsG rest)):=by kernel_rfl
theorem fx23 (rest:Glb) (K:Fk):(xfun prog (fun _=>none) 60 41 [.int .i64 23] (mkS [] (formsG rest)) (vF K))=(
 K (.agg [.int .i64 6,.int .i64 5,.int .i64 2,.int .i64 0]) [sN [.int .i64 6,.int .i64 5,.int .i64 2,.int .i64 0]] (formsG rest)):=by kernel_rfl
theorem fd_1 (rest:Glb):SFun prog 41 [.int .i64 1] (mkS [] (formsG rest)) fun l s=>l=fdT 1∧s=mkS [] (formsG rest):=by
 refine SFun.mono (SFun.vc (Q:=fun l b=>l=fdT 1∧b=[]) noCx_ok (n:=60) 0 rfl ?_) fun l s' ⟨b0,⟨h1,h2⟩,h3⟩=>⟨h1,by rw [h3,h2]⟩
 rw [fx1]
 exact⟨rfl,fdT 1,[],[],⟨rfl,rfl⟩,by exact fd_cv⟩
theorem fd_2 (rest:Glb):SFun prog 41 [.int .i64 2] (mkS [] (formsG rest)) fun l s=>l=fdT 2∧s=mkS [] (formsG rest):=by
 refine SFun.mono (SFun.vc (Q:=fun l b=>l=fdT 2∧b=[]) noCx_ok (n:=60) 0 rfl ?_) fun l s' ⟨b0,⟨h1,h2⟩,h3⟩=>⟨h1,by rw [h3,h2]⟩
 rw [fx2]
 exact⟨rfl,fdT 2,[],[],⟨rfl,rfl⟩,by exact fd_cv⟩
theorem fd_3 (rest:Glb):SFun prog 41 [.int .i64 3] (mkS [] (formsG rest)) fun l s=>l=fdT 3∧s=mkS [] (formsG rest):=by
 refine SFun.mono (SFun.vc (Q:=fun l b=>l=fdT 3∧b=[]) noCx_ok (n:=60) 0 rfl ?_) fun l s' ⟨b0,⟨h1,h2⟩,h3⟩=>⟨h1,by rw [h3,h2]⟩
 rw [fx3]
 exact⟨rfl,fdT 3,[],[],⟨rfl,rfl⟩,by exact fd_cv⟩
theorem fd_4 (rest:Glb):SFun prog 41 [.int .i64 4] (mkS [] (formsG rest)) fun l s=>l=fdT 4∧s=mkS [] (formsG rest):=by
 refine SFun.mono (SFun.vc (Q:=fun l b=>l=fdT 4∧b=[]) noCx_ok (n:=60) 0 rfl ?_) fun l s' ⟨b0,⟨h1,h2⟩,h3⟩=>⟨h1,by rw [h3,h2]⟩
 rw [fx4]
 exact⟨rfl,fdT 4,[],[],⟨rfl,rfl⟩,by exact fd_cv⟩
theorem fd_5 (rest:Glb):SFun prog 41 [.int .i64 5] (mkS [] (formsG rest)) fun l s=>l=fdT 5∧s=mkS [] (formsG rest):=by
 refine SFun.mono (SFun.vc (Q:=fun l b=>l=fdT 5∧b=[]) noCx_ok (n:=60) 0 rfl ?_) fun l s' ⟨b0,⟨h1,h2⟩,h3⟩=>⟨h1,by rw [h3,h2]⟩
 rw [fx5]
 exact⟨rfl,fdT 5,[],[],⟨rfl,rfl⟩,by exact fd_cv⟩
theorem fd_6 (rest:Glb):SFun prog 41 [.int .i64 6] (mkS [] (formsG rest)) fun l s=>l=fdT 6∧s=mkS [] (formsG rest):=by
 refine SFun.mono (SFun.vc (Q:=fun l b=>l=fdT 6∧b=[]) noCx_ok (n:=60) 0 rfl ?_) fun l s' ⟨b0,⟨h1,h2⟩,h3⟩=>⟨h1,by rw [h3,h2]⟩
 rw [fx6]
 exact⟨rfl,fdT 6,[],[],⟨rfl,rfl⟩,by exact fd_cv⟩
theorem fd_7 (rest:Glb):SFun prog 41 [.int .i64 7] (mkS [] (formsG rest)) fun l s=>l=fdT 7∧s=mkS [] (formsG rest):=by
 refine SFun.mono (SFun.vc (Q:=fun l b=>l=fdT 7∧b=[]) noCx_ok (n:=60) 0 rfl ?_) fun l s' ⟨b0,⟨h1,h2⟩,h3⟩=>⟨h1,by rw [h3,h2]⟩
 rw [fx7]
 exact⟨rfl,fdT 7,[],[],⟨rfl,rfl⟩,by exact fd_cv⟩
theorem fd_8 (rest:Glb):SFun prog 41 [.int .i64 8] (mkS [] (formsG rest)) fun l s=>l=fdT 8∧s=mkS [] (formsG rest):=by
 refine SFun.mono (SFun.vc (Q:=fun l b=>l=fdT 8∧b=[]) noCx_ok (n:=60) 0 rfl ?_) fun l s' ⟨b0,⟨h1,h2⟩,h3⟩=>⟨h1,by rw [h3,h2]⟩
 rw [fx8]
 exact⟨rfl,fdT 8,[],[],⟨rfl,rfl⟩,by exact fd_cv⟩
theorem fd_9 (rest:Glb):SFun prog 41 [.int .i64 9] (mkS [] (formsG rest)) fun l s=>l=fdT 9∧s=mkS [] (formsG rest):=by
 refine SFun.mono (SFun.vc (Q:=fun l b=>l=fdT 9∧b=[]) noCx_ok (n:=60) 0 rfl ?_) fun l s' ⟨b0,⟨h1,h2⟩,h3⟩=>⟨h1,by rw [h3,h2]⟩
 rw [fx9]
 exact⟨rfl,fdT 9,[],[],⟨rfl,rfl⟩,by exact fd_cv⟩
theorem fd_10 (rest:Glb):SFun prog 41 [.int .i64 10] (mkS [] (formsG rest)) fun l s=>l=fdT 10∧s=mkS [] (formsG rest):=by
 refine SFun.mono (SFun.vc (Q:=fun l b=>l=fdT 10∧b=[]) noCx_ok (n:=60) 0 rfl ?_) fun l s' ⟨b0,⟨h1,h2⟩,h3⟩=>⟨h1,by rw [h3,h2]⟩
 rw [fx10]
 exact⟨rfl,fdT 10,[],[],⟨rfl,rfl⟩,by exact fd_cv⟩
theorem fd_11 (rest:Glb):SFun prog 41 [.int .i64 11] (mkS [] (formsG rest)) fun l s=>l=fdT 11∧s=mkS [] (formsG rest):=by
 refine SFun.mono (SFun.vc (Q:=fun l b=>l=fdT 11∧b=[]) noCx_ok (n:=60) 0 rfl ?_) fun l s' ⟨b0,⟨h1,h2⟩,h3⟩=>⟨h1,by rw [h3,h2]⟩
 rw [fx11]
 exact⟨rfl,fdT 11,[],[],⟨rfl,rfl⟩,by exact fd_cv⟩
theorem fd_12 (rest:Glb):SFun prog 41 [.int .i64 12] (mkS [] (formsG rest)) fun l s=>l=fdT 12∧s=mkS [] (formsG rest):=by
 refine SFun.mono (SFun.vc (Q:=fun l b=>l=fdT 12∧b=[]) noCx_ok (n:=60) 0 rfl ?_) fun l s' ⟨b0,⟨h1,h2⟩,h3⟩=>⟨h1,by rw [h3,h2]⟩
 rw [fx12]
 exact⟨rfl,fdT 12,[],[],⟨rfl,rfl⟩,by exact fd_cv⟩
theorem fd_13 (rest:Glb):SFun prog 41 [.int .i64 13] (mkS [] (formsG rest)) fun l s=>l=fdT 13∧s=mkS [] (formsG rest):=by
 refine SFun.mono (SFun.vc (Q:=fun l b=>l=fdT 13∧b=[]) noCx_ok (n:=60) 0 rfl ?_) fun l s' ⟨b0,⟨h1,h2⟩,h3⟩=>⟨h1,by rw [h3,h2]⟩
 rw [fx13]
 exact⟨rfl,fdT 13,[],[],⟨rfl,rfl⟩,by exact fd_cv⟩
theorem fd_14 (rest:Glb):SFun prog 41 [.int .i64 14] (mkS [] (formsG rest)) fun l s=>l=fdT 14∧s=mkS [] (formsG rest):=by
 refine SFun.mono (SFun.vc (Q:=fun l b=>l=fdT 14∧b=[]) noCx_ok (n:=60) 0 rfl ?_) fun l s' ⟨b0,⟨h1,h2⟩,h3⟩=>⟨h1,by rw [h3,h2]⟩
 rw [fx14]
 exact⟨rfl,fdT 14,[],[],⟨rfl,rfl⟩,by exact fd_cv⟩
theorem fd_15 (rest:Glb):SFun prog 41 [.int .i64 15] (mkS [] (formsG rest)) fun l s=>l=fdT 15∧s=mkS [] (formsG rest):=by
 refine SFun.mono (SFun.vc (Q:=fun l b=>l=fdT 15∧b=[]) noCx_ok (n:=60) 0 rfl ?_) fun l s' ⟨b0,⟨h1,h2⟩,h3⟩=>⟨h1,by rw [h3,h2]⟩
 rw [fx15]
 exact⟨rfl,fdT 15,[],[],⟨rfl,rfl⟩,by exact fd_cv⟩
theorem fd_16 (rest:Glb):SFun prog 41 [.int .i64 16] (mkS [] (formsG rest)) fun l s=>l=fdT 16∧s=mkS [] (formsG rest):=by
 refine SFun.mono (SFun.vc (Q:=fun l b=>l=fdT 16∧b=[]) noCx_ok (n:=60) 0 rfl ?_) fun l s' ⟨b0,⟨h1,h2⟩,h3⟩=>⟨h1,by rw [h3,h2]⟩
 rw [fx16]
 exact⟨rfl,fdT 16,[],[],⟨rfl,rfl⟩,by exact fd_cv⟩
theorem fd_17 (rest:Glb):SFun prog 41 [.int .i64 17] (mkS [] (formsG rest)) fun l s=>l=fdT 17∧s=mkS [] (formsG rest):=by
 refine SFun.mono (SFun.vc (Q:=fun l b=>l=fdT 17∧b=[]) noCx_ok (n:=60) 0 rfl ?_) fun l s' ⟨b0,⟨h1,h2⟩,h3⟩=>⟨h1,by rw [h3,h2]⟩
 rw [fx17]
 exact⟨rfl,fdT 17,[],[],⟨rfl,rfl⟩,by exact fd_cv⟩
theorem fd_18 (rest:Glb):SFun prog 41 [.int .i64 18] (mkS [] (formsG rest)) fun l s=>l=fdT 18∧s=mkS [] (formsG rest):=by
 refine SFun.mono (SFun.vc (Q:=fun l b=>l=fdT 18∧b=[]) noCx_ok (n:=60) 0 rfl ?_) fun l s' ⟨b0,⟨h1,h2⟩,h3⟩=>⟨h1,by rw [h3,h2]⟩
 rw [fx18]
 exact⟨rfl,fdT 18,[],[],⟨rfl,rfl⟩,by exact fd_cv⟩
theorem fd_19 (rest:Glb):SFun prog 41 [.int .i64 19] (mkS [] (formsG rest)) fun l s=>l=fdT 19∧s=mkS [] (formsG rest):=by
 refine SFun.mono (SFun.vc (Q:=fun l b=>l=fdT 19∧b=[]) noCx_ok (n:=60) 0 rfl ?_) fun l s' ⟨b0,⟨h1,h2⟩,h3⟩=>⟨h1,by rw [h3,h2]⟩
 rw [fx19]
 exact⟨rfl,fdT 19,[],[],⟨rfl,rfl⟩,by exact fd_cv⟩
theorem fd_20 (rest:Glb):SFun prog 41 [.int .i64 20] (mkS [] (formsG rest)) fun l s=>l=fdT 20∧s=mkS [] (formsG rest):=by
 refine SFun.mono (SFun.vc (Q:=fun l b=>l=fdT 20∧b=[]) noCx_ok (n:=60) 0 rfl ?_) fun l s' ⟨b0,⟨h1,h2⟩,h3⟩=>⟨h1,by rw [h3,h2]⟩
 rw [fx20]
 exact⟨rfl,fdT 20,[],[],⟨rfl,rfl⟩,by exact fd_cv⟩
theorem fd_21 (rest:Glb):SFun prog 41 [.int .i64 21] (mkS [] (formsG rest)) fun l s=>l=fdT 21∧s=mkS [] (formsG rest):=by
 refine SFun.mono (SFun.vc (Q:=fun l b=>l=fdT 21∧b=[]) noCx_ok (n:=60) 0 rfl ?_) fun l s' ⟨b0,⟨h1,h2⟩,h3⟩=>⟨h1,by rw [h3,h2]⟩
 rw [fx21]
 exact⟨rfl,fdT 21,[],[],⟨rfl,rfl⟩,by exact fd_cv⟩
theorem fd_22 (rest:Glb):SFun prog 41 [.int .i64 22] (mkS [] (formsG rest)) fun l s=>l=fdT 22∧s=mkS [] (formsG rest):=by
 refine SFun.mono (SFun.vc (Q:=fun l b=>l=fdT 22∧b=[]) noCx_ok (n:=60) 0 rfl ?_) fun l s' ⟨b0,⟨h1,h2⟩,h3⟩=>⟨h1,by rw [h3,h2]⟩
 rw [fx22]
 exact⟨rfl,fdT 22,[],[],⟨rfl,rfl⟩,by exact fd_cv⟩
theorem fd_23 (rest:Glb):SFun prog 41 [.int .i64 23] (mkS [] (formsG rest)) fun l s=>l=fdT 23∧s=mkS [] (formsG rest):=by
 refine SFun.mono (SFun.vc (Q:=fun l b=>l=fdT 23∧b=[]) noCx_ok (n:=60) 0 rfl ?_) fun l s' ⟨b0,⟨h1,h2⟩,h3⟩=>⟨h1,by rw [h3,h2]⟩
 rw [fx23]
 exact⟨rfl,fdT 23,[],[],⟨rfl,rfl⟩,by exact fd_cv⟩
theorem fd_all (op:Int) (h1:1≤op) (h2:op≤23) (rest:Glb):SFun prog 41 [.int .i64 op] (mkS [] (formsG rest)) fun l s=>l=fdT op∧s=mkS [] (formsG rest):=by
 have:op=1∨op=2∨op=3∨op=4∨op=5∨op=6∨op=7∨op=8∨op=9∨op=10∨op=11∨op=12∨op=13∨op=14∨op=15∨op=16∨op=17∨op=18∨op=19∨op=20∨op=21∨op=22∨op=23:=by omega
 rcases this with rfl | rfl | rfl | rfl | rfl | rfl | rfl | rfl | rfl | rfl | rfl | rfl | rfl | rfl | rfl | rfl | rfl | rfl | rfl | rfl | rfl | rfl | rfl
 ·exact fd_1 rest
 ·exact fd_2 rest
 ·exact fd_3 rest
 ·exact fd_4 rest
 ·exact fd_5 rest
 ·exact fd_6 rest
 ·exact fd_7 rest
 ·exact fd_8 rest
 ·exact fd_9 rest
 ·exact fd_10 rest
 ·exact fd_11 rest
 ·exact fd_12 rest
 ·exact fd_13 rest
 ·exact fd_14 rest
 ·exact fd_15 rest
 ·exact fd_16 rest
 ·exact fd_17 rest
 ·exact fd_18 rest
 ·exact fd_19 rest
 ·exact fd_20 rest
 ·exact fd_21 rest
 ·exact fd_22 rest
 ·exact fd_23 rest
theorem fdG_ok:GOk prog 41 fdG:=by
 intro args s bs l s' hg hb hfr
 unfold fdG at hg
 split at hg
 ·rename_i op g0 F0 rest hgl
  cases hc:(Nat.beq g0 0 && eqbs F0 formsL) with
  | false=>rw [hc] at hg; cases hg
  | true =>
    rw [hc] at hg
    simp only [cond_true,Option.some.injEq,Prod.mk.injEq] at hg
    obtain⟨rfl,rfl,rfl⟩:=hg
    simp only [Bool.and_eq_true] at hc
    obtain⟨k1,k2⟩:=allT_cons.1 hb
    obtain⟨k2,_⟩:=allT_cons.1 k2
    rw [xcm_leq,decide_eq_true_eq] at k1 k2
    have e:s.g=formsG rest:=by rw [hgl,Nat.eq_of_beq_eq_true hc.1,eqbs_eq hc.2]; rfl
    exact SFun.pure2 hfr rfl rfl (by rw [e]; exact fd_all op k1 k2 rest)
 ·cases hg
theorem cxI_ok:CtrOk prog (ctrOf cxI):=cxl_ok ⟨itG_ok,trivial⟩
theorem dec20 {n:Int} (h0:0≤n) (h1:n≤18446744073709551615):xle (xadd 1 (xsln (decW n))) 1000000000=true:=by
 have:=decW_len h0 h1
 show xle (1+(decW n).length) 1000000000=true
 exact t_le (by omega)
theorem lb_f (n:Int) (h0:0≤n) (h1:n < 100) (g:Glb):SFun prog 26 [.int .i64 n] (mkS [] g) fun l s=>l=.str (108::decW n)∧s=mkS [] g:=by
 refine SFun.mono (SFun.vc (Q:=fun l b=>l=.str (108::decW n)∧b=[]) cxI_ok (n:=40) 0 rfl ?_) fun l s' ⟨b0,⟨h1,h2⟩,h3⟩=>⟨h1,by rw [h3,h2]⟩
 rw [lb_x,t_leq h0,t_lss h1,dec20 h0 (by omega)]
 exact⟨rfl,_,[],[],⟨rfl,rfl⟩,by(exact zC)⟩
theorem lbG_ok:GOk prog 26 lbG:=by
 intro args s bs l s' hg hb hfr
 unfold lbG at hg
 split at hg
 ·rename_i n
  simp only [Option.some.injEq,Prod.mk.injEq] at hg
  obtain⟨rfl,rfl,rfl⟩:=hg
  obtain⟨k1,k2⟩:=allT_cons.1 hb
  obtain⟨k2,_⟩:=allT_cons.1 k2
  rw [xcm_leq,decide_eq_true_eq] at k1
  rw [xcm_lss,decide_eq_true_eq] at k2
  exact SFun.pure2 hfr rfl rfl (lb_f n k1 k2 s.g)
 ·cases hg
theorem cxV_ok:CtrOk prog (ctrOf cxV):=cxl_ok ⟨fuG_ok,lbG_ok,callG_ok,trivial⟩
theorem pvB_iff {s n:Int}:pvB s n=true↔0≤n∧n≤18446744073709551615∧(s=4→n < 100)∧(s=6→n < 100):=by simp only [pvB,decide_eq_true_eq]
theorem pv_f (k n:Int) (h:pvB k n=true) (g2:Nat) (F2:List LV) (g3:Nat):SFun prog 42 [.int .i64 k,.int .u64 n] (mkS [] (gtw g2 F2 g3)) fun l s=>l=.str (pvW k n)∧s=mkS [] (gtw g2 F2 g3):=by
 refine SFun.mono (SFun.vc (Q:=fun l b=>l=.str (pvW k n)∧b=[]) cxV_ok (n:=40) 0 rfl ?_) fun l s' ⟨b0,⟨h1,h2⟩,h3⟩=>⟨h1,by rw [h3,h2]⟩
 obtain⟨h0,h1,h4,h6⟩:=pvB_iff.1 h
 have d:=dec20 h0 h1
 have f1:=isFt_self; have l0:=t_leq h0; have l1:=t_leq h1
 rw [pv_x]
 by_cases c1:k=1
 ·subst c1
  rw [show pvW 1 n=114::decW n from if_pos (.inl rfl)]
  simp only [d,f1,l0,l1]
  (refine zR ?_)
  exact⟨rfl,_,[],[],⟨rfl,rfl⟩,by(exact zC)⟩
 by_cases c2:k=2
 ·subst c2
  rw [show pvW 2 n=114::decW n from if_pos (.inr rfl)]
  simp only [d,f1,l0,l1]
  (refine zR ?_)
  exact⟨rfl,_,[],[],⟨rfl,rfl⟩,by(exact zC)⟩
 by_cases c6:k=6
 ·subst c6
  have hw:xwr .i64 n=n:=wrap_i64 (by omega) (by have:=h6 rfl; omega)
  rw [show pvW 6 n=callW n by rw [pvW,if_neg (by omega),if_pos rfl]]
  simp only [d,f1,l0,l1,hw]
  (refine zR ?_)
  exact⟨rfl,_,[],[],⟨rfl,rfl⟩,by(exact zC)⟩
 by_cases c4:k=4
 ·subst c4
  have h4:=h4 rfl
  have hw:xwr .i64 n=n:=wrap_i64 (by omega) (by omega)
  have l2:=t_lss h4
  rw [show pvW 4 n=108::decW n by rw [pvW,if_neg (by omega),if_neg (by omega),if_pos rfl]]
  simp only [d,f1,l0,l1,hw,l2]
  (refine zR ?_)
  exact⟨rfl,_,[],[],⟨rfl,rfl⟩,by(exact zC)⟩
 ·rw [show pvW k n=decW n by rw [pvW,if_neg (by omega),if_neg (by omega),if_neg (by omega)]]
  simp only [d,f1,l0,l1]
  (refine zR ?_)
  exact⟨rfl,_,[],[],⟨rfl,rfl⟩,by(exact zC)⟩
theorem pvG_ok:GOk prog 42 pvG:=by
 intro args s bs l s' hg hb hfr
 unfold pvG at hg
 split at hg
 ·rename_i k n g0 F0 g1 F1 g2 F2 g3 F hgl
  cases hc:(Nat.beq g0 0 && eqbs F0 formsL && (Nat.beq g1 2 && eqbs F1 callsL)) with
  | false=>rw [hc] at hg; cases hg
  | true =>
    rw [hc] at hg
    simp only [cond_true,Option.some.injEq,Prod.mk.injEq] at hg
    obtain⟨rfl,rfl,rfl⟩:=hg
    simp only [Bool.and_eq_true] at hc
    obtain⟨k1,k2⟩:=allT_cons.1 hb
    obtain⟨k2,_⟩:=allT_cons.1 k2
    have hF:=isFt_eq k1
    subst hF
    have e0:=Nat.eq_of_beq_eq_true hc.1.1
    have e1:=eqbs_eq hc.1.2
    have e2:=Nat.eq_of_beq_eq_true hc.2.1
    have e3:=eqbs_eq hc.2.2
    subst e0 e1 e2 e3
    exact SFun.pure2 hfr rfl rfl (by rw [hgl]; exact pv_f k n k2 g2 F2 g3)
 ·cases hg
end
end Go.Lev
/- the reference's Line: its trees -/
namespace Go.Lev
set_option linter.unusedSimpArgs false
set_option linter.unusedVariables false
open Go.RowKit
open Go.Proofs.Tryd (prog)
set_option maxRecDepth 100000
noncomputable section
end
end Go.Lev
/- a line: code's and the reference's are one -/
namespace Go.Lev
set_option linter.unusedSimpArgs false
set_option linter.unusedVariables false
open Go.RowKit
open Go.Proofs.Tryd (prog)
set_option maxRecDepth 100000
noncomputable section
def sgW (s v:Int):List UInt8:=if s=0 then [] else 32::pvW s v
def lineW (op a b c n:Int):List UInt8:=nameW op++sgW (fA op) a++sgW (fB op) b++sgW (fC op) c++sgW (fD op) n
theorem op_cases {op:Int} (h1:1≤op) (h2:op≤23):op=1∨op=2∨op=3∨op=4∨op=5∨op=6∨op=7∨op=8∨op=9∨op=10∨op=11∨op=12∨op=13∨op=14∨op=15∨op=16∨op=17∨op=18∨op=19∨op=20∨op=21∨op=22∨op=23:=by omega
theorem fD_two {op:Int} (h1:1≤op) (h2:op≤23):fD op=0∨fD op=7:=by
 rcases op_cases h1 h2 with rfl | rfl | rfl | rfl | rfl | rfl | rfl | rfl | rfl | rfl | rfl | rfl | rfl | rfl | rfl | rfl | rfl | rfl | rfl | rfl | rfl | rfl | rfl <;> first | exact .inl rfl | exact .inr rfl
theorem may_b {op a b c n:Int} (h:mayW op a b c n=true):(1≤op∧op≤23)∧(0≤a∧a≤40)∧(0≤b∧b≤40)∧0≤c∧c≤40:=by
 obtain⟨h1,h2,_⟩:=mayW_iff.1 h
 rcases op_cases h1 h2 with rfl | rfl | rfl | rfl | rfl | rfl | rfl | rfl | rfl | rfl | rfl | rfl | rfl | rfl | rfl | rfl | rfl | rfl | rfl | rfl | rfl | rfl | rfl
 ·have:=(mw1 a b c n).1 h; omega
 ·have:=(mw2 a b c n).1 h; omega
 ·have:=(mw3 a b c n).1 h; omega
 ·have:=(mw4 a b c n).1 h; omega
 ·have:=(mw5 a b c n).1 h; omega
 ·have:=(mw6 a b c n).1 h; omega
 ·have:=(mw7 a b c n).1 h; omega
 ·have:=(mw8 a b c n).1 h; omega
 ·have:=(mw9 a b c n).1 h; omega
 ·have:=(mw10 a b c n).1 h; omega
 ·have:=(mw11 a b c n).1 h; omega
 ·have:=(mw12 a b c n).1 h; omega
 ·have:=(mw13 a b c n).1 h; omega
 ·have:=(mw14 a b c n).1 h; omega
 ·have:=(mw15 a b c n).1 h; omega
 ·have:=(mw16 a b c n).1 h; omega
 ·have:=(mw17 a b c n).1 h; omega
 ·have:=(mw18 a b c n).1 h; omega
 ·have:=(mw19 a b c n).1 h; omega
 ·have:=(mw20 a b c n).1 h; omega
 ·have:=(mw21 a b c n).1 h; omega
 ·have:=(mw22 a b c n).1 h; omega
 ·have:=(mw23 a b c n).1 h; omega
theorem pv_len {s n:Int} (h0:0≤n) (h1:n≤18446744073709551615):(pvW s n).length≤30:=by
 have:=decW_len h0 h1
 have hc:∀ m:Nat,(clN m).length≤30:=fun m=>by
  unfold clN; split <;> simp
 unfold pvW
 split
 ·simp only [List.length_cons]; omega
 ·split
  ·exact hc _
  ·split
   ·simp only [List.length_cons]; omega
   ·omega
theorem sg_len {s n:Int} (h0:0≤n) (h1:n≤18446744073709551615):(sgW s n).length≤31:=by
 have:=pv_len (s:=s) h0 h1
 unfold sgW; split <;> simp <;> omega
theorem name_len (op:Int):(nameW op).length≤30:=by
 have hc:∀ m:Nat,(nmN m).length≤30:=fun m=>by
  unfold nmN; split <;> simp
 exact hc _
theorem pvB_small {s n:Int} (h0:0≤n) (h1:n≤40):pvB s n=true:=pvB_iff.2 ⟨h0,by omega,fun _=>by omega,fun _=>by omega⟩
theorem w40 {n:Int} (h0:0≤n) (h1:n≤40):xwr .u64 n=n:=wrap_u64 h0 (by omega)
theorem cxP_ok:CtrOk prog (ctrOf cxP):=cxl_ok ⟨nameG_ok,fdG_ok,pvG_ok,trivial⟩
abbrev insA (op a b c n:Int):LV:=.agg [.int .i64 op,.int .i64 a,.int .i64 b,.int .i64 c,.int .u64 n]
theorem cat32 (t x:List UInt8):xscat t (xscat [32] x)=t++32::x:=rfl
theorem slen (a b:List UInt8) (h:a.length+b.length≤1000000000):xle (xadd (xsln a) (xsln b)) 1000000000=true:=t_le h
theorem slen1 (b:List UInt8) (h:1+b.length≤1000000000):xle (xadd 1 (xsln b)) 1000000000=true:=t_le h
set_option maxHeartbeats 1000000 in
theorem pi_f (op a b c n:Int) (h:mayW op a b c n=true) (hn:0≤n∧n≤18446744073709551615):SFun prog 27 [insA op a b c n] (mkS [] gt4) fun l s=>l=.str (lineW op a b c n)∧s=mkS [] gt4:=by
 refine SFun.mono (SFun.pieces (Q:=fun l b'=>l=.str (lineW op a b c n)∧b'=[]) 41 0 piL [2] (by kernel_rfl) rfl rfl rfl ?_) fun l s' ⟨b0,⟨h1,h2⟩,h3⟩=>⟨h1,by rw [h3,h2]⟩
 obtain⟨⟨o1,o2⟩,⟨a1,a2⟩,⟨b1,b2⟩,c1,c2⟩:=may_b h
 have wa:=w40 a1 a2; have wb:=w40 b1 b2; have wc:=w40 c1 c2
 have f1:=isFt_self
 have pa:=pvB_small (s:=fA op) a1 a2; have pb:=pvB_small (s:=fB op) b1 b2; have pc:=pvB_small (s:=fC op) c1 c2
 have pd:pvB (fD op) n=true:=pvB_iff.2 ⟨hn.1,hn.2,fun e=>by rcases fD_two o1 o2 with q | q <;> omega,fun e=>by rcases fD_two o1 o2 with q | q <;> omega⟩
 have la:=pv_len (s:=fA op) a1 (by omega); have lb:=pv_len (s:=fB op) b1 (by omega); have lc:=pv_len (s:=fC op) c1 (by omega); have ld:=pv_len (s:=fD op) hn.1 hn.2
 have sa:=sg_len (s:=fA op) a1 (by omega); have sb:=sg_len (s:=fB op) b1 (by omega); have sc:=sg_len (s:=fC op) c1 (by omega); have sd:=sg_len (s:=fD op) hn.1 hn.2
 have ln:=name_len op
 let tx:Nat→List UInt8:=fun k=>match k with
  | 0=>nameW op
  | 1=>nameW op++sgW (fA op) a
  | 2=>nameW op++sgW (fA op) a++sgW (fB op) b
  | 3=>nameW op++sgW (fA op) a++sgW (fB op) b++sgW (fC op) c
  | _=>lineW op a b c n
 refine SSp.to cxP_ok (n:=40) (g:=gt4) 4 4 rfl (σ:=Unit) (fun _=>piT op (nameW op) 0) (fun _=>piH op a b c n) (mkS_le (Nat.zero_le _)) (by kernel_rfl) ?_ fun _=>?_
 ·rw [pi_a,t_leq o1,t_leq o2,wa,wb,wc]
  exact⟨rfl,(),[.id 0,.id 1],by(exact zC)⟩
 refine SSp.code_to (g:=gt4) 5 rfl (σ:=Unit) (fun _=>piT op (lineW op a b c n) 4) (fun _=>piH op a b c n) (by kernel_rfl) ?_ fun _=>?_
 ·refine SCode.loop_vc cxP_ok (n:=40) (n0:=0) 0 (by kernel_rfl) (σ:={k:Nat // k≤4}) (fun k=>piT op (tx k.1) (k.1:Int)) (fun _=>piH op a b c n) (fun k=>4 - k.1) (fun _=>Nat.zero_le _) (fun⟨k,hk⟩=>?_) ⟨0,by omega⟩
  dsimp only
  have hk:k=0∨k=1∨k=2∨k=3∨k=4:=by omega
  rcases hk with rfl | rfl | rfl | rfl | rfl
  ·show xcode _ _ _ _ _ (mkTm 41 (piT op (tx 0) 0)) _ _
   have e:tx 1=tx 0++sgW (fA op) a:=rfl
   have lt:(tx 0).length≤150:=by show(nameW op).length≤150; first | omega | (simp only [List.length_append]; omega)
   generalize tx 0=t0 at *
   rw [pi_l0]
   by_cases z:fA op=0
   ·rw [show sgW (fA op) a=[] from if_pos z,List.append_nil] at e
    (refine zR ?_)
    exact⟨rfl,⟨1,by omega⟩,by simp only; omega,[.id 0,.id 1],by dsimp only; rw [e]; (exact zC)⟩
   ·rw [show sgW (fA op) a=32::pvW (fA op) a from if_neg z] at e
    have q1:=slen1 (pvW (fA op) a) (by omega)
    have q2:=slen t0 (xscat [32] (pvW (fA op) a)) (by show t0.length+(32::pvW (fA op) a).length≤_; simp only [List.length_cons]; omega)
    simp only [f1,pa,q1,q2,cat32]
    (refine zR ?_)
    exact⟨rfl,⟨1,by omega⟩,by simp only; omega,[.id 0,.id 1],by dsimp only; rw [e]; (exact zC)⟩
  ·show xcode _ _ _ _ _ (mkTm 41 (piT op (tx 1) 1)) _ _
   have e:tx 2=tx 1++sgW (fB op) b:=rfl
   have lt:(tx 1).length≤150:=by show(nameW op++sgW (fA op) a).length≤150; first | omega | (simp only [List.length_append]; omega)
   generalize tx 1=t0 at *
   rw [pi_l1]
   by_cases z:fB op=0
   ·rw [show sgW (fB op) b=[] from if_pos z,List.append_nil] at e
    (refine zR ?_)
    exact⟨rfl,⟨2,by omega⟩,by simp only; omega,[.id 0,.id 1],by dsimp only; rw [e]; (exact zC)⟩
   ·rw [show sgW (fB op) b=32::pvW (fB op) b from if_neg z] at e
    have q1:=slen1 (pvW (fB op) b) (by omega)
    have q2:=slen t0 (xscat [32] (pvW (fB op) b)) (by show t0.length+(32::pvW (fB op) b).length≤_; simp only [List.length_cons]; omega)
    simp only [f1,pb,q1,q2,cat32]
    (refine zR ?_)
    exact⟨rfl,⟨2,by omega⟩,by simp only; omega,[.id 0,.id 1],by dsimp only; rw [e]; (exact zC)⟩
  ·show xcode _ _ _ _ _ (mkTm 41 (piT op (tx 2) 2)) _ _
   have e:tx 3=tx 2++sgW (fC op) c:=rfl
   have lt:(tx 2).length≤150:=by show(nameW op++sgW (fA op) a++sgW (fB op) b).length≤150; first | omega | (simp only [List.length_append]; omega)
   generalize tx 2=t0 at *
   rw [pi_l2]
   by_cases z:fC op=0
   ·rw [show sgW (fC op) c=[] from if_pos z,List.append_nil] at e
    (refine zR ?_)
    exact⟨rfl,⟨3,by omega⟩,by simp only; omega,[.id 0,.id 1],by dsimp only; rw [e]; (exact zC)⟩
   ·rw [show sgW (fC op) c=32::pvW (fC op) c from if_neg z] at e
    have q1:=slen1 (pvW (fC op) c) (by omega)
    have q2:=slen t0 (xscat [32] (pvW (fC op) c)) (by show t0.length+(32::pvW (fC op) c).length≤_; simp only [List.length_cons]; omega)
    simp only [f1,pc,q1,q2,cat32]
    (refine zR ?_)
    exact⟨rfl,⟨3,by omega⟩,by simp only; omega,[.id 0,.id 1],by dsimp only; rw [e]; (exact zC)⟩
  ·show xcode _ _ _ _ _ (mkTm 41 (piT op (tx 3) 3)) _ _
   have e:tx 4=tx 3++sgW (fD op) n:=rfl
   have lt:(tx 3).length≤150:=by show(nameW op++sgW (fA op) a++sgW (fB op) b++sgW (fC op) c).length≤150; first | omega | (simp only [List.length_append]; omega)
   generalize tx 3=t0 at *
   rw [pi_l3]
   by_cases z:fD op=0
   ·rw [show sgW (fD op) n=[] from if_pos z,List.append_nil] at e
    (refine zR ?_)
    exact⟨rfl,⟨4,by omega⟩,by simp only; omega,[.id 0,.id 1],by dsimp only; rw [e]; (exact zC)⟩
   ·rw [show sgW (fD op) n=32::pvW (fD op) n from if_neg z] at e
    have q1:=slen1 (pvW (fD op) n) (by omega)
    have q2:=slen t0 (xscat [32] (pvW (fD op) n)) (by show t0.length+(32::pvW (fD op) n).length≤_; simp only [List.length_cons]; omega)
    simp only [f1,pd,q1,q2,cat32]
    (refine zR ?_)
    exact⟨rfl,⟨4,by omega⟩,by simp only; omega,[.id 0,.id 1],by dsimp only; rw [e]; (exact zC)⟩
  ·show xcode _ _ _ _ _ (mkTm 41 (piT op (tx 4) 4)) _ _
   rw [pi_l4]
   exact⟨rfl,(),[.id 0,.id 1],by(exact zC)⟩
 refine SSp.last cxP_ok (n:=40) (mkS_le (Nat.zero_le _)) ?_
 rw [pi_z]
 exact⟨trivial,rfl,_,_,[],⟨rfl,rfl⟩,by(exact zC)⟩
end
end Go.Lev
/- the reference's Line: the same line -/
namespace Go.Lev
set_option linter.unusedSimpArgs false
set_option linter.unusedVariables false
open Go.RowKit
open Go.Proofs.Tryd (prog)
set_option maxRecDepth 100000
noncomputable section
end
end Go.Lev
