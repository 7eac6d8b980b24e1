import Derived.Test.YtnkkkihgljbllaaDoorCQ4
import Derived.Test.YtnkkkihgljbllaaDoorLc
import Derived.Test.YtnkkkihgljbllaaDoorChecked
import Derived.KernelRfl
/- text: label, printValue, code.Fields as contracts -/
namespace Go.Lev
set_option linter.unusedSimpArgs false
set_option linter.unusedVariables false
open Go.RowKit
open Go.Proofs.Tryd (prog)
set_option maxRecDepth 100000
noncomputable section
theorem a7d {a b c d:Int} {bs:List (Option LB)}:a4f 0 1 [0] [.agg [.int .i64 a,.int .i64 b,.int .i64 c,.int .i64 d]] bs [] [(0,.agg [.int .i64 a,.int .i64 b,.int .i64 c,.int .i64 d])] []:=by(exact zC)
abbrev fdT (op:Int):LV:=.agg [.int .i64 (fA op),.int .i64 (fB op),.int .i64 (fC op),.int .i64 (fD op)]
theorem fx1 (rest:Glb) (K:Fk):(a4w prog (fun _=>none) 60 41 [.int .i64 1] (mkS [] (a0l rest)) (vF K))=(
 K (.agg [.int .i64 1,.int .i64 0,.int .i64 0,.int .i64 7]) [sN [.int .i64 1,.int .i64 0,.int .i64 0,.int .i64 7]] (a0l rest)):=by kernel_rfl
theorem fx2 (rest:Glb) (K:Fk):(a4w prog (fun _=>none) 60 41 [.int .i64 2] (mkS [] (a0l rest)) (vF K))=(
 K (.agg [.int .i64 1,.int .i64 1,.int .i64 0,.int .i64 0]) [sN [.int .i64 1,.int .i64 1,.int .i64 0,.int .i64 0]] (a0l rest)):=by kernel_rfl
theorem fx3 (rest:Glb) (K:Fk):(a4w prog (fun _=>none) 60 41 [.int .i64 3] (mkS [] (a0l rest)) (vF K))=(
 K (.agg [.int .i64 1,.int .i64 1,.int .i64 1,.int .i64 0]) [sN [.int .i64 1,.int .i64 1,.int .i64 1,.int .i64 0]] (a0l rest)):=by kernel_rfl
theorem fx4 (rest:Glb) (K:Fk):(a4w prog (fun _=>none) 60 41 [.int .i64 4] (mkS [] (a0l rest)) (vF K))=(
 K (.agg [.int .i64 1,.int .i64 1,.int .i64 1,.int .i64 0]) [sN [.int .i64 1,.int .i64 1,.int .i64 1,.int .i64 0]] (a0l rest)):=by kernel_rfl
theorem fx5 (rest:Glb) (K:Fk):(a4w prog (fun _=>none) 60 41 [.int .i64 5] (mkS [] (a0l rest)) (vF K))=(
 K (.agg [.int .i64 1,.int .i64 1,.int .i64 1,.int .i64 0]) [sN [.int .i64 1,.int .i64 1,.int .i64 1,.int .i64 0]] (a0l rest)):=by kernel_rfl
theorem fx6 (rest:Glb) (K:Fk):(a4w prog (fun _=>none) 60 41 [.int .i64 6] (mkS [] (a0l rest)) (vF K))=(
 K (.agg [.int .i64 1,.int .i64 1,.int .i64 1,.int .i64 0]) [sN [.int .i64 1,.int .i64 1,.int .i64 1,.int .i64 0]] (a0l rest)):=by kernel_rfl
theorem fx7 (rest:Glb) (K:Fk):(a4w prog (fun _=>none) 60 41 [.int .i64 7] (mkS [] (a0l rest)) (vF K))=(
 K (.agg [.int .i64 1,.int .i64 1,.int .i64 1,.int .i64 0]) [sN [.int .i64 1,.int .i64 1,.int .i64 1,.int .i64 0]] (a0l rest)):=by kernel_rfl
theorem fx8 (rest:Glb) (K:Fk):(a4w prog (fun _=>none) 60 41 [.int .i64 8] (mkS [] (a0l rest)) (vF K))=(
 K (.agg [.int .i64 1,.int .i64 1,.int .i64 3,.int .i64 0]) [sN [.int .i64 1,.int .i64 1,.int .i64 3,.int .i64 0]] (a0l rest)):=by kernel_rfl
theorem fx9 (rest:Glb) (K:Fk):(a4w prog (fun _=>none) 60 41 [.int .i64 9] (mkS [] (a0l rest)) (vF K))=(
 K (.agg [.int .i64 1,.int .i64 1,.int .i64 3,.int .i64 0]) [sN [.int .i64 1,.int .i64 1,.int .i64 3,.int .i64 0]] (a0l rest)):=by kernel_rfl
theorem g7p (rest:Glb) (K:Fk):(a4w prog (fun _=>none) 60 41 [.int .i64 10] (mkS [] (a0l rest)) (vF K))=(
 K (.agg [.int .i64 1,.int .i64 1,.int .i64 0,.int .i64 0]) [sN [.int .i64 1,.int .i64 1,.int .i64 0,.int .i64 0]] (a0l rest)):=by kernel_rfl
theorem g7o (rest:Glb) (K:Fk):(a4w prog (fun _=>none) 60 41 [.int .i64 11] (mkS [] (a0l rest)) (vF K))=(
 K (.agg [.int .i64 1,.int .i64 0,.int .i64 0,.int .i64 0]) [sN [.int .i64 1,.int .i64 0,.int .i64 0,.int .i64 0]] (a0l rest)):=by kernel_rfl
theorem g7n (rest:Glb) (K:Fk):(a4w prog (fun _=>none) 60 41 [.int .i64 12] (mkS [] (a0l rest)) (vF K))=(
 K (.agg [.int .i64 0,.int .i64 0,.int .i64 4,.int .i64 0]) [sN [.int .i64 0,.int .i64 0,.int .i64 4,.int .i64 0]] (a0l rest)):=by kernel_rfl
theorem g7m (rest:Glb) (K:Fk):(a4w prog (fun _=>none) 60 41 [.int .i64 13] (mkS [] (a0l rest)) (vF K))=(
 K (.agg [.int .i64 1,.int .i64 0,.int .i64 4,.int .i64 0]) [sN [.int .i64 1,.int .i64 0,.int .i64 4,.int .i64 0]] (a0l rest)):=by kernel_rfl
theorem g7l (rest:Glb) (K:Fk):(a4w prog (fun _=>none) 60 41 [.int .i64 14] (mkS [] (a0l rest)) (vF K))=(
 K (.agg [.int .i64 0,.int .i64 0,.int .i64 0,.int .i64 0]) [sN [.int .i64 0,.int .i64 0,.int .i64 0,.int .i64 0]] (a0l rest)):=by kernel_rfl
theorem g7k (rest:Glb) (K:Fk):(a4w prog (fun _=>none) 60 41 [.int .i64 15] (mkS [] (a0l rest)) (vF K))=(
 K (.agg [.int .i64 0,.int .i64 0,.int .i64 0,.int .i64 0]) [sN [.int .i64 0,.int .i64 0,.int .i64 0,.int .i64 0]] (a0l rest)):=by kernel_rfl
theorem g7j (rest:Glb) (K:Fk):(a4w prog (fun _=>none) 60 41 [.int .i64 16] (mkS [] (a0l rest)) (vF K))=(
 K (.agg [.int .i64 0,.int .i64 0,.int .i64 0,.int .i64 0]) [sN [.int .i64 0,.int .i64 0,.int .i64 0,.int .i64 0]] (a0l rest)):=by kernel_rfl
theorem g7i (rest:Glb) (K:Fk):(a4w prog (fun _=>none) 60 41 [.int .i64 17] (mkS [] (a0l rest)) (vF K))=(
 K (.agg [.int .i64 0,.int .i64 0,.int .i64 0,.int .i64 0]) [sN [.int .i64 0,.int .i64 0,.int .i64 0,.int .i64 0]] (a0l rest)):=by kernel_rfl
theorem g7h (rest:Glb) (K:Fk):(a4w prog (fun _=>none) 60 41 [.int .i64 18] (mkS [] (a0l rest)) (vF K))=(
 K (.agg [.int .i64 0,.int .i64 0,.int .i64 0,.int .i64 0]) [sN [.int .i64 0,.int .i64 0,.int .i64 0,.int .i64 0]] (a0l rest)):=by kernel_rfl
theorem g7g (rest:Glb) (K:Fk):(a4w prog (fun _=>none) 60 41 [.int .i64 19] (mkS [] (a0l rest)) (vF K))=(
 K (.agg [.int .i64 0,.int .i64 0,.int .i64 0,.int .i64 0]) [sN [.int .i64 0,.int .i64 0,.int .i64 0,.int .i64 0]] (a0l rest)):=by kernel_rfl
theorem g7f (rest:Glb) (K:Fk):(a4w prog (fun _=>none) 60 41 [.int .i64 20] (mkS [] (a0l rest)) (vF K))=(
 K (.agg [.int .i64 0,.int .i64 0,.int .i64 0,.int .i64 0]) [sN [.int .i64 0,.int .i64 0,.int .i64 0,.int .i64 0]] (a0l rest)):=by kernel_rfl
theorem g7e (rest:Glb) (K:Fk):(a4w prog (fun _=>none) 60 41 [.int .i64 21] (mkS [] (a0l rest)) (vF K))=(
 K (.agg [.int .i64 1,.int .i64 0,.int .i64 0,.int .i64 0]) [sN [.int .i64 1,.int .i64 0,.int .i64 0,.int .i64 0]] (a0l rest)):=by kernel_rfl
theorem g7d (rest:Glb) (K:Fk):(a4w prog (fun _=>none) 60 41 [.int .i64 22] (mkS [] (a0l rest)) (vF K))=(
 K (.agg [.int .i64 0,.int .i64 0,.int .i64 0,.int .i64 0]) [sN [.int .i64 0,.int .i64 0,.int .i64 0,.int .i64 0]] (a0l rest)):=by kernel_rfl
theorem g7c (rest:Glb) (K:Fk):(a4w prog (fun _=>none) 60 41 [.int .i64 23] (mkS [] (a0l rest)) (vF K))=(
 K (.agg [.int .i64 6,.int .i64 5,.int .i64 2,.int .i64 0]) [sN [.int .i64 6,.int .i64 5,.int .i64 2,.int .i64 0]] (a0l rest)):=by kernel_rfl
theorem g8d (rest:Glb):a0k prog 41 [.int .i64 1] (mkS [] (a0l rest)) fun l s=>l=fdT 1∧s=mkS [] (a0l rest):=by
 refine a0k.mono (a0k.vc (Q:=fun l b=>l=fdT 1∧b=[]) a0j (n:=60) 0 rfl ?_) fun l s' ⟨b0,⟨h1,h2⟩,h3⟩=>⟨h1,by rw [h3,h2]⟩
 rw [fx1]
 exact⟨rfl,fdT 1,[],[],⟨rfl,rfl⟩,by exact a7d⟩
theorem g8c (rest:Glb):a0k prog 41 [.int .i64 2] (mkS [] (a0l rest)) fun l s=>l=fdT 2∧s=mkS [] (a0l rest):=by
 refine a0k.mono (a0k.vc (Q:=fun l b=>l=fdT 2∧b=[]) a0j (n:=60) 0 rfl ?_) fun l s' ⟨b0,⟨h1,h2⟩,h3⟩=>⟨h1,by rw [h3,h2]⟩
 rw [fx2]
 exact⟨rfl,fdT 2,[],[],⟨rfl,rfl⟩,by exact a7d⟩
theorem g8b (rest:Glb):a0k prog 41 [.int .i64 3] (mkS [] (a0l rest)) fun l s=>l=fdT 3∧s=mkS [] (a0l rest):=by
 refine a0k.mono (a0k.vc (Q:=fun l b=>l=fdT 3∧b=[]) a0j (n:=60) 0 rfl ?_) fun l s' ⟨b0,⟨h1,h2⟩,h3⟩=>⟨h1,by rw [h3,h2]⟩
 rw [fx3]
 exact⟨rfl,fdT 3,[],[],⟨rfl,rfl⟩,by exact a7d⟩
theorem g8a (rest:Glb):a0k prog 41 [.int .i64 4] (mkS [] (a0l rest)) fun l s=>l=fdT 4∧s=mkS [] (a0l rest):=by
 refine a0k.mono (a0k.vc (Q:=fun l b=>l=fdT 4∧b=[]) a0j (n:=60) 0 rfl ?_) fun l s' ⟨b0,⟨h1,h2⟩,h3⟩=>⟨h1,by rw [h3,h2]⟩
 rw [fx4]
 exact⟨rfl,fdT 4,[],[],⟨rfl,rfl⟩,by exact a7d⟩
theorem g7z (rest:Glb):a0k prog 41 [.int .i64 5] (mkS [] (a0l rest)) fun l s=>l=fdT 5∧s=mkS [] (a0l rest):=by
 refine a0k.mono (a0k.vc (Q:=fun l b=>l=fdT 5∧b=[]) a0j (n:=60) 0 rfl ?_) fun l s' ⟨b0,⟨h1,h2⟩,h3⟩=>⟨h1,by rw [h3,h2]⟩
 rw [fx5]
 exact⟨rfl,fdT 5,[],[],⟨rfl,rfl⟩,by exact a7d⟩
theorem g7y (rest:Glb):a0k prog 41 [.int .i64 6] (mkS [] (a0l rest)) fun l s=>l=fdT 6∧s=mkS [] (a0l rest):=by
 refine a0k.mono (a0k.vc (Q:=fun l b=>l=fdT 6∧b=[]) a0j (n:=60) 0 rfl ?_) fun l s' ⟨b0,⟨h1,h2⟩,h3⟩=>⟨h1,by rw [h3,h2]⟩
 rw [fx6]
 exact⟨rfl,fdT 6,[],[],⟨rfl,rfl⟩,by exact a7d⟩
theorem g7x (rest:Glb):a0k prog 41 [.int .i64 7] (mkS [] (a0l rest)) fun l s=>l=fdT 7∧s=mkS [] (a0l rest):=by
 refine a0k.mono (a0k.vc (Q:=fun l b=>l=fdT 7∧b=[]) a0j (n:=60) 0 rfl ?_) fun l s' ⟨b0,⟨h1,h2⟩,h3⟩=>⟨h1,by rw [h3,h2]⟩
 rw [fx7]
 exact⟨rfl,fdT 7,[],[],⟨rfl,rfl⟩,by exact a7d⟩
theorem g7w (rest:Glb):a0k prog 41 [.int .i64 8] (mkS [] (a0l rest)) fun l s=>l=fdT 8∧s=mkS [] (a0l rest):=by
 refine a0k.mono (a0k.vc (Q:=fun l b=>l=fdT 8∧b=[]) a0j (n:=60) 0 rfl ?_) fun l s' ⟨b0,⟨h1,h2⟩,h3⟩=>⟨h1,by rw [h3,h2]⟩
 rw [fx8]
 exact⟨rfl,fdT 8,[],[],⟨rfl,rfl⟩,by exact a7d⟩
theorem g7v (rest:Glb):a0k prog 41 [.int .i64 9] (mkS [] (a0l rest)) fun l s=>l=fdT 9∧s=mkS [] (a0l rest):=by
 refine a0k.mono (a0k.vc (Q:=fun l b=>l=fdT 9∧b=[]) a0j (n:=60) 0 rfl ?_) fun l s' ⟨b0,⟨h1,h2⟩,h3⟩=>⟨h1,by rw [h3,h2]⟩
 rw [fx9]
 exact⟨rfl,fdT 9,[],[],⟨rfl,rfl⟩,by exact a7d⟩
theorem g1j (rest:Glb):a0k prog 41 [.int .i64 10] (mkS [] (a0l rest)) fun l s=>l=fdT 10∧s=mkS [] (a0l rest):=by
 refine a0k.mono (a0k.vc (Q:=fun l b=>l=fdT 10∧b=[]) a0j (n:=60) 0 rfl ?_) fun l s' ⟨b0,⟨h1,h2⟩,h3⟩=>⟨h1,by rw [h3,h2]⟩
 rw [g7p]
 exact⟨rfl,fdT 10,[],[],⟨rfl,rfl⟩,by exact a7d⟩
theorem g1i (rest:Glb):a0k prog 41 [.int .i64 11] (mkS [] (a0l rest)) fun l s=>l=fdT 11∧s=mkS [] (a0l rest):=by
 refine a0k.mono (a0k.vc (Q:=fun l b=>l=fdT 11∧b=[]) a0j (n:=60) 0 rfl ?_) fun l s' ⟨b0,⟨h1,h2⟩,h3⟩=>⟨h1,by rw [h3,h2]⟩
 rw [g7o]
 exact⟨rfl,fdT 11,[],[],⟨rfl,rfl⟩,by exact a7d⟩
theorem g1h (rest:Glb):a0k prog 41 [.int .i64 12] (mkS [] (a0l rest)) fun l s=>l=fdT 12∧s=mkS [] (a0l rest):=by
 refine a0k.mono (a0k.vc (Q:=fun l b=>l=fdT 12∧b=[]) a0j (n:=60) 0 rfl ?_) fun l s' ⟨b0,⟨h1,h2⟩,h3⟩=>⟨h1,by rw [h3,h2]⟩
 rw [g7n]
 exact⟨rfl,fdT 12,[],[],⟨rfl,rfl⟩,by exact a7d⟩
theorem g1g (rest:Glb):a0k prog 41 [.int .i64 13] (mkS [] (a0l rest)) fun l s=>l=fdT 13∧s=mkS [] (a0l rest):=by
 refine a0k.mono (a0k.vc (Q:=fun l b=>l=fdT 13∧b=[]) a0j (n:=60) 0 rfl ?_) fun l s' ⟨b0,⟨h1,h2⟩,h3⟩=>⟨h1,by rw [h3,h2]⟩
 rw [g7m]
 exact⟨rfl,fdT 13,[],[],⟨rfl,rfl⟩,by exact a7d⟩
theorem g1f (rest:Glb):a0k prog 41 [.int .i64 14] (mkS [] (a0l rest)) fun l s=>l=fdT 14∧s=mkS [] (a0l rest):=by
 refine a0k.mono (a0k.vc (Q:=fun l b=>l=fdT 14∧b=[]) a0j (n:=60) 0 rfl ?_) fun l s' ⟨b0,⟨h1,h2⟩,h3⟩=>⟨h1,by rw [h3,h2]⟩
 rw [g7l]
 exact⟨rfl,fdT 14,[],[],⟨rfl,rfl⟩,by exact a7d⟩
theorem g1e (rest:Glb):a0k prog 41 [.int .i64 15] (mkS [] (a0l rest)) fun l s=>l=fdT 15∧s=mkS [] (a0l rest):=by
 refine a0k.mono (a0k.vc (Q:=fun l b=>l=fdT 15∧b=[]) a0j (n:=60) 0 rfl ?_) fun l s' ⟨b0,⟨h1,h2⟩,h3⟩=>⟨h1,by rw [h3,h2]⟩
 rw [g7k]
 exact⟨rfl,fdT 15,[],[],⟨rfl,rfl⟩,by exact a7d⟩
theorem g1d (rest:Glb):a0k prog 41 [.int .i64 16] (mkS [] (a0l rest)) fun l s=>l=fdT 16∧s=mkS [] (a0l rest):=by
 refine a0k.mono (a0k.vc (Q:=fun l b=>l=fdT 16∧b=[]) a0j (n:=60) 0 rfl ?_) fun l s' ⟨b0,⟨h1,h2⟩,h3⟩=>⟨h1,by rw [h3,h2]⟩
 rw [g7j]
 exact⟨rfl,fdT 16,[],[],⟨rfl,rfl⟩,by exact a7d⟩
theorem g1c (rest:Glb):a0k prog 41 [.int .i64 17] (mkS [] (a0l rest)) fun l s=>l=fdT 17∧s=mkS [] (a0l rest):=by
 refine a0k.mono (a0k.vc (Q:=fun l b=>l=fdT 17∧b=[]) a0j (n:=60) 0 rfl ?_) fun l s' ⟨b0,⟨h1,h2⟩,h3⟩=>⟨h1,by rw [h3,h2]⟩
 rw [g7i]
 exact⟨rfl,fdT 17,[],[],⟨rfl,rfl⟩,by exact a7d⟩
theorem g1b (rest:Glb):a0k prog 41 [.int .i64 18] (mkS [] (a0l rest)) fun l s=>l=fdT 18∧s=mkS [] (a0l rest):=by
 refine a0k.mono (a0k.vc (Q:=fun l b=>l=fdT 18∧b=[]) a0j (n:=60) 0 rfl ?_) fun l s' ⟨b0,⟨h1,h2⟩,h3⟩=>⟨h1,by rw [h3,h2]⟩
 rw [g7h]
 exact⟨rfl,fdT 18,[],[],⟨rfl,rfl⟩,by exact a7d⟩
theorem g1a (rest:Glb):a0k prog 41 [.int .i64 19] (mkS [] (a0l rest)) fun l s=>l=fdT 19∧s=mkS [] (a0l rest):=by
 refine a0k.mono (a0k.vc (Q:=fun l b=>l=fdT 19∧b=[]) a0j (n:=60) 0 rfl ?_) fun l s' ⟨b0,⟨h1,h2⟩,h3⟩=>⟨h1,by rw [h3,h2]⟩
 rw [g7g]
 exact⟨rfl,fdT 19,[],[],⟨rfl,rfl⟩,by exact a7d⟩
theorem g0z (rest:Glb):a0k prog 41 [.int .i64 20] (mkS [] (a0l rest)) fun l s=>l=fdT 20∧s=mkS [] (a0l rest):=by
 refine a0k.mono (a0k.vc (Q:=fun l b=>l=fdT 20∧b=[]) a0j (n:=60) 0 rfl ?_) fun l s' ⟨b0,⟨h1,h2⟩,h3⟩=>⟨h1,by rw [h3,h2]⟩
 rw [g7f]
 exact⟨rfl,fdT 20,[],[],⟨rfl,rfl⟩,by exact a7d⟩
theorem g0y (rest:Glb):a0k prog 41 [.int .i64 21] (mkS [] (a0l rest)) fun l s=>l=fdT 21∧s=mkS [] (a0l rest):=by
 refine a0k.mono (a0k.vc (Q:=fun l b=>l=fdT 21∧b=[]) a0j (n:=60) 0 rfl ?_) fun l s' ⟨b0,⟨h1,h2⟩,h3⟩=>⟨h1,by rw [h3,h2]⟩
 rw [g7e]
 exact⟨rfl,fdT 21,[],[],⟨rfl,rfl⟩,by exact a7d⟩
theorem g0x (rest:Glb):a0k prog 41 [.int .i64 22] (mkS [] (a0l rest)) fun l s=>l=fdT 22∧s=mkS [] (a0l rest):=by
 refine a0k.mono (a0k.vc (Q:=fun l b=>l=fdT 22∧b=[]) a0j (n:=60) 0 rfl ?_) fun l s' ⟨b0,⟨h1,h2⟩,h3⟩=>⟨h1,by rw [h3,h2]⟩
 rw [g7d]
 exact⟨rfl,fdT 22,[],[],⟨rfl,rfl⟩,by exact a7d⟩
theorem g0w (rest:Glb):a0k prog 41 [.int .i64 23] (mkS [] (a0l rest)) fun l s=>l=fdT 23∧s=mkS [] (a0l rest):=by
 refine a0k.mono (a0k.vc (Q:=fun l b=>l=fdT 23∧b=[]) a0j (n:=60) 0 rfl ?_) fun l s' ⟨b0,⟨h1,h2⟩,h3⟩=>⟨h1,by rw [h3,h2]⟩
 rw [g7c]
 exact⟨rfl,fdT 23,[],[],⟨rfl,rfl⟩,by exact a7d⟩
theorem f4v (op:Int) (h1:1≤op) (h2:op≤23) (rest:Glb):a0k prog 41 [.int .i64 op] (mkS [] (a0l rest)) fun l s=>l=fdT op∧s=mkS [] (a0l rest):=by
 have:op=1∨op=2∨op=3∨op=4∨op=5∨op=6∨op=7∨op=8∨op=9∨op=10∨op=11∨op=12∨op=13∨op=14∨op=15∨op=16∨op=17∨op=18∨op=19∨op=20∨op=21∨op=22∨op=23:=by omega
 rcases this with rfl | rfl | rfl | rfl | rfl | rfl | rfl | rfl | rfl | rfl | rfl | rfl | rfl | rfl | rfl | rfl | rfl | rfl | rfl | rfl | rfl | rfl | rfl
 ·exact g8d rest
 ·exact g8c rest
 ·exact g8b rest
 ·exact g8a rest
 ·exact g7z rest
 ·exact g7y rest
 ·exact g7x rest
 ·exact g7w rest
 ·exact g7v rest
 ·exact g1j rest
 ·exact g1i rest
 ·exact g1h rest
 ·exact g1g rest
 ·exact g1f rest
 ·exact g1e rest
 ·exact g1d rest
 ·exact g1c rest
 ·exact g1b rest
 ·exact g1a rest
 ·exact g0z rest
 ·exact g0y rest
 ·exact g0x rest
 ·exact g0w rest
theorem f4w:GOk prog 41 fdG:=by
 intro args s bs l s' hg hb hfr
 unfold fdG at hg
 split at hg
 ·rename_i op g0 F0 rest hgl
  cases hc:(Nat.beq g0 0 && a2x F0 a2h) with
  | false=>rw [hc] at hg; cases hg
  | true =>
    rw [hc] at hg
    simp only [cond_true,Option.some.injEq,Prod.mk.injEq] at hg
    obtain⟨rfl,rfl,rfl⟩:=hg
    simp only [Bool.and_eq_true] at hc
    obtain⟨k1,k2⟩:=a0g.1 hb
    obtain⟨k2,_⟩:=a0g.1 k2
    rw [a7q,decide_eq_true_eq] at k1 k2
    have e:s.g=a0l rest:=by rw [hgl,Nat.eq_of_beq_eq_true hc.1,a1f hc.2]; rfl
    exact a0k.h0b hfr rfl rfl (by rw [e]; exact f4v op k1 k2 rest)
 ·cases hg
end
end Go.Lev
/- the reference's Line: its trees -/
namespace Go.Lev
set_option linter.unusedSimpArgs false
set_option linter.unusedVariables false
open Go.RowKit
open Go.Proofs.Tryd (prog)
set_option maxRecDepth 100000
noncomputable section
end
end Go.Lev
/- a line: code's and the reference's are one -/
namespace Go.Lev
set_option linter.unusedSimpArgs false
set_option linter.unusedVariables false
open Go.RowKit
open Go.Proofs.Tryd (prog)
set_option maxRecDepth 100000
noncomputable section
end
end Go.Lev
/- the reference's Line: the same line -/
namespace Go.Lev
set_option linter.unusedSimpArgs false
set_option linter.unusedVariables false
open Go.RowKit
open Go.Proofs.Tryd (prog)
set_option maxRecDepth 100000
noncomputable section
end
end Go.Lev
