import Derived.Test.YtnkkkihgljbllaaDoorCW1
import Derived.Test.YtnkkkihgljbllaaDoorLc
import Derived.Test.YtnkkkihgljbllaaDoorChecked
import Derived.KernelRfl
import Derived.Test.YtnkkkihgljbllaaDoorRows
import Derived.Test.YtnkkkihgljbllaaDoorCW5
/- chapter 14: whether an instruction may be (the reference) -/
namespace Go.Lev
set_option linter.unusedSimpArgs false
set_option linter.unusedVariables false
open Go.RowKit
open Go.Proofs.Tryd (prog)
set_option maxRecDepth 100000
noncomputable section
end
end Go.Lev
/- chapter 14: whether an instruction may be (the reference), second part -/
namespace Go.Lev
set_option linter.unusedSimpArgs false
set_option linter.unusedVariables false
open Go.RowKit
open Go.Proofs.Tryd (prog)
set_option maxRecDepth 100000
noncomputable section
end
end Go.Lev
/- chapter 14: the reference: rows of instructions, names of calls -/
namespace Go.Lev
set_option linter.unusedSimpArgs false
set_option linter.unusedVariables false
open Go.RowKit
open Go.Proofs.Tryd (prog)
set_option maxRecDepth 100000
noncomputable section
def a6x:List LV:=c4y Go.Proofs.YtnkkkihgljbllaaDoor.Rows.laid_quietus_quietusref13_names
def rN:Nat→Int×Int×Int×Bool
 | 1=>(7,-1,-1,true)
 | 2=>(7,7,-1,false)
 | 3=>(7,7,7,false)
 | 4=>(7,7,7,false)
 | 5=>(7,7,7,false)
 | 6=>(7,7,7,false)
 | 7=>(7,7,7,false)
 | 8=>(7,7,15,false)
 | 9=>(7,7,15,false)
 | 10=>(7,7,-1,false)
 | 11=>(7,-1,-1,false)
 | 12=>(-1,-1,40,false)
 | 13=>(7,-1,40,false)
 | 14=>(-1,-1,-1,false)
 | 15=>(-1,-1,-1,false)
 | 16=>(-1,-1,-1,false)
 | 17=>(-1,-1,-1,false)
 | 18=>(-1,-1,-1,false)
 | 19=>(-1,-1,-1,false)
 | 20=>(-1,-1,-1,false)
 | 21=>(7,-1,-1,false)
 | 22=>(-1,-1,-1,false)
 | 23=>(12,7,6,false)
 | _=>(0,0,0,false)
def rA (op:Int):Int:=(rN op.toNat).1
def rB (op:Int):Int:=(rN op.toNat).2.1
def rC (op:Int):Int:=(rN op.toNat).2.2.1
def rD (op:Int):Bool:=(rN op.toNat).2.2.2
def rOk (op:Int):Bool:=decide (1≤op∧op≤23)
abbrev a6k (op:Int):LV:=.tup [.agg [.str (a4u op),.int .i64 (rA op),.int .i64 (rB op),.int .i64 (rC op),.bool (rD op)],.bool (rOk op)]
theorem a6q {x y:List UInt8} {a a' b b' c c':Int} {n n' p p':Bool} {bs:List (Option LB)} (h:y=x) (ha:a'=a) (hb:b'=b) (hc:c'=c) (hn:n'=n) (hp:p'=p):a4f 0 1 [0] [.tup [.agg [.str x,.int .i64 a,.int .i64 b,.int .i64 c,.bool n],.bool p]] bs [] [(0,.tup [.agg [.str y,.int .i64 a',.int .i64 b',.int .i64 c',.bool n'],.bool p'])] []:=by subst h; subst ha; subst hb; subst hc; subst hn; subst hp; (exact zC)
theorem rw1 (g:Glb) (K:Fk):(a4w prog (fun _=>none) 100 43 [.int .i64 1] (mkS [] g) (vF K))=(
 K (.tup [.agg [.str [115,101,116],.int .i64 7,.int .i64 (-1),.int .i64 (-1),.bool true],.bool true]) [sN [.str [115,101,116],.int .i64 7,.int .i64 (-1),.int .i64 (-1),.bool true]] g):=by kernel_rfl
theorem rw2 (g:Glb) (K:Fk):(a4w prog (fun _=>none) 100 43 [.int .i64 2] (mkS [] g) (vF K))=(
 K (.tup [.agg [.str [109,111,118,101],.int .i64 7,.int .i64 7,.int .i64 (-1),.bool false],.bool true]) [sN [.str [109,111,118,101],.int .i64 7,.int .i64 7,.int .i64 (-1),.bool false]] g):=by kernel_rfl
theorem rw3 (g:Glb) (K:Fk):(a4w prog (fun _=>none) 100 43 [.int .i64 3] (mkS [] g) (vF K))=(
 K (.tup [.agg [.str [97,100,100],.int .i64 7,.int .i64 7,.int .i64 7,.bool false],.bool true]) [sN [.str [97,100,100],.int .i64 7,.int .i64 7,.int .i64 7,.bool false]] g):=by kernel_rfl
theorem rw4 (g:Glb) (K:Fk):(a4w prog (fun _=>none) 100 43 [.int .i64 4] (mkS [] g) (vF K))=(
 K (.tup [.agg [.str [115,117,98],.int .i64 7,.int .i64 7,.int .i64 7,.bool false],.bool true]) [sN [.str [115,117,98],.int .i64 7,.int .i64 7,.int .i64 7,.bool false]] g):=by kernel_rfl
theorem rw5 (g:Glb) (K:Fk):(a4w prog (fun _=>none) 100 43 [.int .i64 5] (mkS [] g) (vF K))=(
 K (.tup [.agg [.str [109,117,108],.int .i64 7,.int .i64 7,.int .i64 7,.bool false],.bool true]) [sN [.str [109,117,108],.int .i64 7,.int .i64 7,.int .i64 7,.bool false]] g):=by kernel_rfl
theorem rw6 (g:Glb) (K:Fk):(a4w prog (fun _=>none) 100 43 [.int .i64 6] (mkS [] g) (vF K))=(
 K (.tup [.agg [.str [108,101,115,115],.int .i64 7,.int .i64 7,.int .i64 7,.bool false],.bool true]) [sN [.str [108,101,115,115],.int .i64 7,.int .i64 7,.int .i64 7,.bool false]] g):=by kernel_rfl
theorem rw7 (g:Glb) (K:Fk):(a4w prog (fun _=>none) 100 43 [.int .i64 7] (mkS [] g) (vF K))=(
 K (.tup [.agg [.str [101,113,117,97,108],.int .i64 7,.int .i64 7,.int .i64 7,.bool false],.bool true]) [sN [.str [101,113,117,97,108],.int .i64 7,.int .i64 7,.int .i64 7,.bool false]] g):=by kernel_rfl
theorem rw8 (g:Glb) (K:Fk):(a4w prog (fun _=>none) 100 43 [.int .i64 8] (mkS [] g) (vF K))=(
 K (.tup [.agg [.str [108,111,97,100],.int .i64 7,.int .i64 7,.int .i64 15,.bool false],.bool true]) [sN [.str [108,111,97,100],.int .i64 7,.int .i64 7,.int .i64 15,.bool false]] g):=by kernel_rfl
theorem rw9 (g:Glb) (K:Fk):(a4w prog (fun _=>none) 100 43 [.int .i64 9] (mkS [] g) (vF K))=(
 K (.tup [.agg [.str [115,116,111,114,101],.int .i64 7,.int .i64 7,.int .i64 15,.bool false],.bool true]) [sN [.str [115,116,111,114,101],.int .i64 7,.int .i64 7,.int .i64 15,.bool false]] g):=by kernel_rfl
theorem g4r (g:Glb) (K:Fk):(a4w prog (fun _=>none) 100 43 [.int .i64 10] (mkS [] g) (vF K))=(
 K (.tup [.agg [.str [97,108,108,111,99],.int .i64 7,.int .i64 7,.int .i64 (-1),.bool false],.bool true]) [sN [.str [97,108,108,111,99],.int .i64 7,.int .i64 7,.int .i64 (-1),.bool false]] g):=by kernel_rfl
theorem g4q (g:Glb) (K:Fk):(a4w prog (fun _=>none) 100 43 [.int .i64 11] (mkS [] g) (vF K))=(
 K (.tup [.agg [.str [102,114,101,101],.int .i64 7,.int .i64 (-1),.int .i64 (-1),.bool false],.bool true]) [sN [.str [102,114,101,101],.int .i64 7,.int .i64 (-1),.int .i64 (-1),.bool false]] g):=by kernel_rfl
theorem g4p (g:Glb) (K:Fk):(a4w prog (fun _=>none) 100 43 [.int .i64 12] (mkS [] g) (vF K))=(
 K (.tup [.agg [.str [106,117,109,112],.int .i64 (-1),.int .i64 (-1),.int .i64 40,.bool false],.bool true]) [sN [.str [106,117,109,112],.int .i64 (-1),.int .i64 (-1),.int .i64 40,.bool false]] g):=by kernel_rfl
theorem g4o (g:Glb) (K:Fk):(a4w prog (fun _=>none) 100 43 [.int .i64 13] (mkS [] g) (vF K))=(
 K (.tup [.agg [.str [122,101,114,111],.int .i64 7,.int .i64 (-1),.int .i64 40,.bool false],.bool true]) [sN [.str [122,101,114,111],.int .i64 7,.int .i64 (-1),.int .i64 40,.bool false]] g):=by kernel_rfl
theorem g4n (g:Glb) (K:Fk):(a4w prog (fun _=>none) 100 43 [.int .i64 14] (mkS [] g) (vF K))=(
 K (.tup [.agg [.str [111,112,101,110],.int .i64 (-1),.int .i64 (-1),.int .i64 (-1),.bool false],.bool true]) [sN [.str [111,112,101,110],.int .i64 (-1),.int .i64 (-1),.int .i64 (-1),.bool false]] g):=by kernel_rfl
theorem g4m (g:Glb) (K:Fk):(a4w prog (fun _=>none) 100 43 [.int .i64 15] (mkS [] g) (vF K))=(
 K (.tup [.agg [.str [99,108,111,115,101],.int .i64 (-1),.int .i64 (-1),.int .i64 (-1),.bool false],.bool true]) [sN [.str [99,108,111,115,101],.int .i64 (-1),.int .i64 (-1),.int .i64 (-1),.bool false]] g):=by kernel_rfl
theorem g4l (g:Glb) (K:Fk):(a4w prog (fun _=>none) 100 43 [.int .i64 16] (mkS [] g) (vF K))=(
 K (.tup [.agg [.str [117,110,100,111],.int .i64 (-1),.int .i64 (-1),.int .i64 (-1),.bool false],.bool true]) [sN [.str [117,110,100,111],.int .i64 (-1),.int .i64 (-1),.int .i64 (-1),.bool false]] g):=by kernel_rfl
theorem g4k (g:Glb) (K:Fk):(a4w prog (fun _=>none) 100 43 [.int .i64 17] (mkS [] g) (vF K))=(
 K (.tup [.agg [.str [101,105,116,104,101,114],.int .i64 (-1),.int .i64 (-1),.int .i64 (-1),.bool false],.bool true]) [sN [.str [101,105,116,104,101,114],.int .i64 (-1),.int .i64 (-1),.int .i64 (-1),.bool false]] g):=by kernel_rfl
theorem g4j (g:Glb) (K:Fk):(a4w prog (fun _=>none) 100 43 [.int .i64 18] (mkS [] g) (vF K))=(
 K (.tup [.agg [.str [111,114],.int .i64 (-1),.int .i64 (-1),.int .i64 (-1),.bool false],.bool true]) [sN [.str [111,114],.int .i64 (-1),.int .i64 (-1),.int .i64 (-1),.bool false]] g):=by kernel_rfl
theorem g4i (g:Glb) (K:Fk):(a4w prog (fun _=>none) 100 43 [.int .i64 19] (mkS [] g) (vF K))=(
 K (.tup [.agg [.str [100,111,110,101],.int .i64 (-1),.int .i64 (-1),.int .i64 (-1),.bool false],.bool true]) [sN [.str [100,111,110,101],.int .i64 (-1),.int .i64 (-1),.int .i64 (-1),.bool false]] g):=by kernel_rfl
theorem g4h (g:Glb) (K:Fk):(a4w prog (fun _=>none) 100 43 [.int .i64 20] (mkS [] g) (vF K))=(
 K (.tup [.agg [.str [114,101,116,114,121],.int .i64 (-1),.int .i64 (-1),.int .i64 (-1),.bool false],.bool true]) [sN [.str [114,101,116,114,121],.int .i64 (-1),.int .i64 (-1),.int .i64 (-1),.bool false]] g):=by kernel_rfl
theorem g4g (g:Glb) (K:Fk):(a4w prog (fun _=>none) 100 43 [.int .i64 21] (mkS [] g) (vF K))=(
 K (.tup [.agg [.str [101,109,105,116],.int .i64 7,.int .i64 (-1),.int .i64 (-1),.bool false],.bool true]) [sN [.str [101,109,105,116],.int .i64 7,.int .i64 (-1),.int .i64 (-1),.bool false]] g):=by kernel_rfl
theorem g4f (g:Glb) (K:Fk):(a4w prog (fun _=>none) 100 43 [.int .i64 22] (mkS [] g) (vF K))=(
 K (.tup [.agg [.str [102,97,105,108],.int .i64 (-1),.int .i64 (-1),.int .i64 (-1),.bool false],.bool true]) [sN [.str [102,97,105,108],.int .i64 (-1),.int .i64 (-1),.int .i64 (-1),.bool false]] g):=by kernel_rfl
theorem g4e (g:Glb) (K:Fk):(a4w prog (fun _=>none) 100 43 [.int .i64 23] (mkS [] g) (vF K))=(
 K (.tup [.agg [.str [99,97,108,108],.int .i64 12,.int .i64 7,.int .i64 6,.bool false],.bool true]) [sN [.str [99,97,108,108],.int .i64 12,.int .i64 7,.int .i64 6,.bool false]] g):=by kernel_rfl
theorem rcx (op:Int) (K:Fk):(a4w prog (fun _=>none) 60 45 [.int .i64 op] (mkS [] []) (vF K))=(
 bif xcm .lss op 1 then(
 K (.str []) [] [])
 else(
 bif xcm .gtr op 12 then(
 K (.str []) [] [])
 else(
 ck (xnn (xar .sub .i64 op 1)) <|
 ck (xle (a0a (a0c (xar .sub .i64 op 1)) 1) 12) <|
 False))):=by kernel_rfl
theorem g5e (g:Glb):a0k prog 43 [.int .i64 1] (mkS [] g) fun l st=>l=a6k 1∧st=mkS [] g:=by
 refine a0k.mono (a0k.vc (Q:=fun l bb=>l=a6k 1∧bb=[]) a0j (n:=100) 0 rfl ?_) fun l s' ⟨b0,⟨h1,h2⟩,h3⟩=>⟨h1,by rw [h3,h2]⟩
 rw [rw1]
 exact⟨rfl,_,_,[],⟨rfl,rfl⟩,a6q rfl rfl rfl rfl rfl rfl⟩
theorem g5d (g:Glb):a0k prog 43 [.int .i64 2] (mkS [] g) fun l st=>l=a6k 2∧st=mkS [] g:=by
 refine a0k.mono (a0k.vc (Q:=fun l bb=>l=a6k 2∧bb=[]) a0j (n:=100) 0 rfl ?_) fun l s' ⟨b0,⟨h1,h2⟩,h3⟩=>⟨h1,by rw [h3,h2]⟩
 rw [rw2]
 exact⟨rfl,_,_,[],⟨rfl,rfl⟩,a6q rfl rfl rfl rfl rfl rfl⟩
theorem g5c (g:Glb):a0k prog 43 [.int .i64 3] (mkS [] g) fun l st=>l=a6k 3∧st=mkS [] g:=by
 refine a0k.mono (a0k.vc (Q:=fun l bb=>l=a6k 3∧bb=[]) a0j (n:=100) 0 rfl ?_) fun l s' ⟨b0,⟨h1,h2⟩,h3⟩=>⟨h1,by rw [h3,h2]⟩
 rw [rw3]
 exact⟨rfl,_,_,[],⟨rfl,rfl⟩,a6q rfl rfl rfl rfl rfl rfl⟩
theorem g5b (g:Glb):a0k prog 43 [.int .i64 4] (mkS [] g) fun l st=>l=a6k 4∧st=mkS [] g:=by
 refine a0k.mono (a0k.vc (Q:=fun l bb=>l=a6k 4∧bb=[]) a0j (n:=100) 0 rfl ?_) fun l s' ⟨b0,⟨h1,h2⟩,h3⟩=>⟨h1,by rw [h3,h2]⟩
 rw [rw4]
 exact⟨rfl,_,_,[],⟨rfl,rfl⟩,a6q rfl rfl rfl rfl rfl rfl⟩
theorem g5a (g:Glb):a0k prog 43 [.int .i64 5] (mkS [] g) fun l st=>l=a6k 5∧st=mkS [] g:=by
 refine a0k.mono (a0k.vc (Q:=fun l bb=>l=a6k 5∧bb=[]) a0j (n:=100) 0 rfl ?_) fun l s' ⟨b0,⟨h1,h2⟩,h3⟩=>⟨h1,by rw [h3,h2]⟩
 rw [rw5]
 exact⟨rfl,_,_,[],⟨rfl,rfl⟩,a6q rfl rfl rfl rfl rfl rfl⟩
theorem g4z (g:Glb):a0k prog 43 [.int .i64 6] (mkS [] g) fun l st=>l=a6k 6∧st=mkS [] g:=by
 refine a0k.mono (a0k.vc (Q:=fun l bb=>l=a6k 6∧bb=[]) a0j (n:=100) 0 rfl ?_) fun l s' ⟨b0,⟨h1,h2⟩,h3⟩=>⟨h1,by rw [h3,h2]⟩
 rw [rw6]
 exact⟨rfl,_,_,[],⟨rfl,rfl⟩,a6q rfl rfl rfl rfl rfl rfl⟩
theorem g4y (g:Glb):a0k prog 43 [.int .i64 7] (mkS [] g) fun l st=>l=a6k 7∧st=mkS [] g:=by
 refine a0k.mono (a0k.vc (Q:=fun l bb=>l=a6k 7∧bb=[]) a0j (n:=100) 0 rfl ?_) fun l s' ⟨b0,⟨h1,h2⟩,h3⟩=>⟨h1,by rw [h3,h2]⟩
 rw [rw7]
 exact⟨rfl,_,_,[],⟨rfl,rfl⟩,a6q rfl rfl rfl rfl rfl rfl⟩
theorem g4x (g:Glb):a0k prog 43 [.int .i64 8] (mkS [] g) fun l st=>l=a6k 8∧st=mkS [] g:=by
 refine a0k.mono (a0k.vc (Q:=fun l bb=>l=a6k 8∧bb=[]) a0j (n:=100) 0 rfl ?_) fun l s' ⟨b0,⟨h1,h2⟩,h3⟩=>⟨h1,by rw [h3,h2]⟩
 rw [rw8]
 exact⟨rfl,_,_,[],⟨rfl,rfl⟩,a6q rfl rfl rfl rfl rfl rfl⟩
theorem g4w (g:Glb):a0k prog 43 [.int .i64 9] (mkS [] g) fun l st=>l=a6k 9∧st=mkS [] g:=by
 refine a0k.mono (a0k.vc (Q:=fun l bb=>l=a6k 9∧bb=[]) a0j (n:=100) 0 rfl ?_) fun l s' ⟨b0,⟨h1,h2⟩,h3⟩=>⟨h1,by rw [h3,h2]⟩
 rw [rw9]
 exact⟨rfl,_,_,[],⟨rfl,rfl⟩,a6q rfl rfl rfl rfl rfl rfl⟩
theorem f8i (g:Glb):a0k prog 43 [.int .i64 10] (mkS [] g) fun l st=>l=a6k 10∧st=mkS [] g:=by
 refine a0k.mono (a0k.vc (Q:=fun l bb=>l=a6k 10∧bb=[]) a0j (n:=100) 0 rfl ?_) fun l s' ⟨b0,⟨h1,h2⟩,h3⟩=>⟨h1,by rw [h3,h2]⟩
 rw [g4r]
 exact⟨rfl,_,_,[],⟨rfl,rfl⟩,a6q rfl rfl rfl rfl rfl rfl⟩
theorem f8h (g:Glb):a0k prog 43 [.int .i64 11] (mkS [] g) fun l st=>l=a6k 11∧st=mkS [] g:=by
 refine a0k.mono (a0k.vc (Q:=fun l bb=>l=a6k 11∧bb=[]) a0j (n:=100) 0 rfl ?_) fun l s' ⟨b0,⟨h1,h2⟩,h3⟩=>⟨h1,by rw [h3,h2]⟩
 rw [g4q]
 exact⟨rfl,_,_,[],⟨rfl,rfl⟩,a6q rfl rfl rfl rfl rfl rfl⟩
theorem f8g (g:Glb):a0k prog 43 [.int .i64 12] (mkS [] g) fun l st=>l=a6k 12∧st=mkS [] g:=by
 refine a0k.mono (a0k.vc (Q:=fun l bb=>l=a6k 12∧bb=[]) a0j (n:=100) 0 rfl ?_) fun l s' ⟨b0,⟨h1,h2⟩,h3⟩=>⟨h1,by rw [h3,h2]⟩
 rw [g4p]
 exact⟨rfl,_,_,[],⟨rfl,rfl⟩,a6q rfl rfl rfl rfl rfl rfl⟩
theorem f8f (g:Glb):a0k prog 43 [.int .i64 13] (mkS [] g) fun l st=>l=a6k 13∧st=mkS [] g:=by
 refine a0k.mono (a0k.vc (Q:=fun l bb=>l=a6k 13∧bb=[]) a0j (n:=100) 0 rfl ?_) fun l s' ⟨b0,⟨h1,h2⟩,h3⟩=>⟨h1,by rw [h3,h2]⟩
 rw [g4o]
 exact⟨rfl,_,_,[],⟨rfl,rfl⟩,a6q rfl rfl rfl rfl rfl rfl⟩
theorem f8e (g:Glb):a0k prog 43 [.int .i64 14] (mkS [] g) fun l st=>l=a6k 14∧st=mkS [] g:=by
 refine a0k.mono (a0k.vc (Q:=fun l bb=>l=a6k 14∧bb=[]) a0j (n:=100) 0 rfl ?_) fun l s' ⟨b0,⟨h1,h2⟩,h3⟩=>⟨h1,by rw [h3,h2]⟩
 rw [g4n]
 exact⟨rfl,_,_,[],⟨rfl,rfl⟩,a6q rfl rfl rfl rfl rfl rfl⟩
theorem f8d (g:Glb):a0k prog 43 [.int .i64 15] (mkS [] g) fun l st=>l=a6k 15∧st=mkS [] g:=by
 refine a0k.mono (a0k.vc (Q:=fun l bb=>l=a6k 15∧bb=[]) a0j (n:=100) 0 rfl ?_) fun l s' ⟨b0,⟨h1,h2⟩,h3⟩=>⟨h1,by rw [h3,h2]⟩
 rw [g4m]
 exact⟨rfl,_,_,[],⟨rfl,rfl⟩,a6q rfl rfl rfl rfl rfl rfl⟩
theorem f8c (g:Glb):a0k prog 43 [.int .i64 16] (mkS [] g) fun l st=>l=a6k 16∧st=mkS [] g:=by
 refine a0k.mono (a0k.vc (Q:=fun l bb=>l=a6k 16∧bb=[]) a0j (n:=100) 0 rfl ?_) fun l s' ⟨b0,⟨h1,h2⟩,h3⟩=>⟨h1,by rw [h3,h2]⟩
 rw [g4l]
 exact⟨rfl,_,_,[],⟨rfl,rfl⟩,a6q rfl rfl rfl rfl rfl rfl⟩
theorem f8b (g:Glb):a0k prog 43 [.int .i64 17] (mkS [] g) fun l st=>l=a6k 17∧st=mkS [] g:=by
 refine a0k.mono (a0k.vc (Q:=fun l bb=>l=a6k 17∧bb=[]) a0j (n:=100) 0 rfl ?_) fun l s' ⟨b0,⟨h1,h2⟩,h3⟩=>⟨h1,by rw [h3,h2]⟩
 rw [g4k]
 exact⟨rfl,_,_,[],⟨rfl,rfl⟩,a6q rfl rfl rfl rfl rfl rfl⟩
theorem f8a (g:Glb):a0k prog 43 [.int .i64 18] (mkS [] g) fun l st=>l=a6k 18∧st=mkS [] g:=by
 refine a0k.mono (a0k.vc (Q:=fun l bb=>l=a6k 18∧bb=[]) a0j (n:=100) 0 rfl ?_) fun l s' ⟨b0,⟨h1,h2⟩,h3⟩=>⟨h1,by rw [h3,h2]⟩
 rw [g4j]
 exact⟨rfl,_,_,[],⟨rfl,rfl⟩,a6q rfl rfl rfl rfl rfl rfl⟩
theorem f7z (g:Glb):a0k prog 43 [.int .i64 19] (mkS [] g) fun l st=>l=a6k 19∧st=mkS [] g:=by
 refine a0k.mono (a0k.vc (Q:=fun l bb=>l=a6k 19∧bb=[]) a0j (n:=100) 0 rfl ?_) fun l s' ⟨b0,⟨h1,h2⟩,h3⟩=>⟨h1,by rw [h3,h2]⟩
 rw [g4i]
 exact⟨rfl,_,_,[],⟨rfl,rfl⟩,a6q rfl rfl rfl rfl rfl rfl⟩
theorem f7y (g:Glb):a0k prog 43 [.int .i64 20] (mkS [] g) fun l st=>l=a6k 20∧st=mkS [] g:=by
 refine a0k.mono (a0k.vc (Q:=fun l bb=>l=a6k 20∧bb=[]) a0j (n:=100) 0 rfl ?_) fun l s' ⟨b0,⟨h1,h2⟩,h3⟩=>⟨h1,by rw [h3,h2]⟩
 rw [g4h]
 exact⟨rfl,_,_,[],⟨rfl,rfl⟩,a6q rfl rfl rfl rfl rfl rfl⟩
theorem f7x (g:Glb):a0k prog 43 [.int .i64 21] (mkS [] g) fun l st=>l=a6k 21∧st=mkS [] g:=by
 refine a0k.mono (a0k.vc (Q:=fun l bb=>l=a6k 21∧bb=[]) a0j (n:=100) 0 rfl ?_) fun l s' ⟨b0,⟨h1,h2⟩,h3⟩=>⟨h1,by rw [h3,h2]⟩
 rw [g4g]
 exact⟨rfl,_,_,[],⟨rfl,rfl⟩,a6q rfl rfl rfl rfl rfl rfl⟩
theorem f7w (g:Glb):a0k prog 43 [.int .i64 22] (mkS [] g) fun l st=>l=a6k 22∧st=mkS [] g:=by
 refine a0k.mono (a0k.vc (Q:=fun l bb=>l=a6k 22∧bb=[]) a0j (n:=100) 0 rfl ?_) fun l s' ⟨b0,⟨h1,h2⟩,h3⟩=>⟨h1,by rw [h3,h2]⟩
 rw [g4f]
 exact⟨rfl,_,_,[],⟨rfl,rfl⟩,a6q rfl rfl rfl rfl rfl rfl⟩
theorem f7v (g:Glb):a0k prog 43 [.int .i64 23] (mkS [] g) fun l st=>l=a6k 23∧st=mkS [] g:=by
 refine a0k.mono (a0k.vc (Q:=fun l bb=>l=a6k 23∧bb=[]) a0j (n:=100) 0 rfl ?_) fun l s' ⟨b0,⟨h1,h2⟩,h3⟩=>⟨h1,by rw [h3,h2]⟩
 rw [g4e]
 exact⟨rfl,_,_,[],⟨rfl,rfl⟩,a6q rfl rfl rfl rfl rfl rfl⟩
end
end Go.Lev
