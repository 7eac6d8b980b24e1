/- chapter 14: the reference: rows of instructions, names of calls -/
import Derived.Test.YticekakedhinkaaDoorCW5
import Derived.Test.YticekakedhinkaaDoorCW2
import Derived.Test.YticekakedhinkaaDoorLc
import Derived.Test.YticekakedhinkaaDoorChecked
import Derived.KernelRfl
import Derived.Test.YticekakedhinkaaDoorLc
import Derived.Test.YticekakedhinkaaDoorLc
import Derived.Test.YticekakedhinkaaDoorRows
namespace Go.Lev
set_option linter.unusedSimpArgs false
set_option linter.unusedVariables false
open Go.RowKit
open Go.Proofs.Tryd (prog)
set_option maxRecDepth 100000
noncomputable section
def namesL:List LV:=flatD Go.Proofs.YticekakedhinkaaDoor.Rows.laid_quietus_quietusref13_names
abbrev tab3:Glb:=tab2 [(1,namesL)]
def rN:Nat→Int×Int×Int×Bool
 | 1=>(7,-1,-1,true)
 | 2=>(7,7,-1,false)
 | 3=>(7,7,7,false)
 | 4=>(7,7,7,false)
 | 5=>(7,7,7,false)
 | 6=>(7,7,7,false)
 | 7=>(7,7,7,false)
 | 8=>(7,7,15,false)
 | 9=>(7,7,15,false)
 | 10=>(7,7,-1,false)
 | 11=>(7,-1,-1,false)
 | 12=>(-1,-1,40,false)
 | 13=>(7,-1,40,false)
 | 14=>(-1,-1,-1,false)
 | 15=>(-1,-1,-1,false)
 | 16=>(-1,-1,-1,false)
 | 17=>(-1,-1,-1,false)
 | 18=>(-1,-1,-1,false)
 | 19=>(-1,-1,-1,false)
 | 20=>(-1,-1,-1,false)
 | 21=>(7,-1,-1,false)
 | 22=>(-1,-1,-1,false)
 | 23=>(12,7,6,false)
 | _=>(0,0,0,false)
def rA (op:Int):Int:=(rN op.toNat).1
def rB (op:Int):Int:=(rN op.toNat).2.1
def rC (op:Int):Int:=(rN op.toNat).2.2.1
def rD (op:Int):Bool:=(rN op.toNat).2.2.2
def rOk (op:Int):Bool:=decide (1≤op∧op≤23)
theorem rN_out {op:Int} (h:op < 1∨23 < op):rN op.toNat=(0,0,0,false):=by
 by_cases h0:op < 1
 ·rw [show op.toNat=0 by omega]; rfl
 ·obtain⟨k,hk⟩:∃ k,op.toNat=k+24:=⟨op.toNat - 24,by omega⟩
  rw [hk]; rfl
abbrev rowT (op:Int):LV:=.tup [.agg [.str (nameW op),.int .i64 (rA op),.int .i64 (rB op),.int .i64 (rC op),.bool (rD op)],.bool (rOk op)]
theorem leafR {x y:List UInt8} {a a' b b' c c':Int} {n n' p p':Bool} {bs:List (Option LB)} (h:y=x) (ha:a'=a) (hb:b'=b) (hc:c'=c) (hn:n'=n) (hp:p'=p):convOk 0 1 [0] [.tup [.agg [.str x,.int .i64 a,.int .i64 b,.int .i64 c,.bool n],.bool p]] bs [] [(0,.tup [.agg [.str y,.int .i64 a',.int .i64 b',.int .i64 c',.bool n'],.bool p'])] []:=by subst h; subst ha; subst hb; subst hc; subst hn; subst hp; (exact zC)
theorem rw1 (g:Glb) (K:Fk):(xfun prog (fun _=>none) 100 27 [.int .i64 1] (mkS [] g) (vF K))=(
 K (.tup [.agg [.str [115,101,116],.int .i64 7,.int .i64 (-1),.int .i64 (-1),.bool true],.bool true]) [sN [.str [115,101,116],.int .i64 7,.int .i64 (-1),.int .i64 (-1),.bool true]] g):=by kernel_rfl
theorem rw2 (g:Glb) (K:Fk):(xfun prog (fun _=>none) 100 27 [.int .i64 2] (mkS [] g) (vF K))=(
 K (.tup [.agg [.str [109,111,118,101],.int .i64 7,.int .i64 7,.int .i64 (-1),.bool false],.bool true]) [sN [.str [109,111,118,101],.int .i64 7,.int .i64 7,.int .i64 (-1),.bool false]] g):=by kernel_rfl
theorem rw3 (g:Glb) (K:Fk):(xfun prog (fun _=>none) 100 27 [.int .i64 3] (mkS [] g) (vF K))=(
 K (.tup [.agg [.str [97,100,100],.int .i64 7,.int .i64 7,.int .i64 7,.bool false],.bool true]) [sN [.str [97,100,100],.int .i64 7,.int .i64 7,.int .i64 7,.bool false]] g):=by kernel_rfl
theorem rw4 (g:Glb) (K:Fk):(xfun prog (fun _=>none) 100 27 [.int .i64 4] (mkS [] g) (vF K))=(
 K (.tup [.agg [.str [115,117,98],.int .i64 7,.int .i64 7,.int .i64 7,.bool false],.bool true]) [sN [.str [115,117,98],.int .i64 7,.int .i64 7,.int .i64 7,.bool false]] g):=by kernel_rfl
theorem rw5 (g:Glb) (K:Fk):(xfun prog (fun _=>none) 100 27 [.int .i64 5] (mkS [] g) (vF K))=(
 K (.tup [.agg [.str [109,117,108],.int .i64 7,.int .i64 7,.int .i64 7,.bool false],.bool true]) [sN [.str [109,117,108],.int .i64 7,.int .i64 7,.int .i64 7,.bool false]] g):=by kernel_rfl
theorem rw6 (g:Glb) (K:Fk):(xfun prog (fun _=>none) 100 27 [.int .i64 6] (mkS [] g) (vF K))=(
 K (.tup [.agg [.str [108,101,115,115],.int .i64 7,.int .i64 7,.int .i64 7,.bool false],.bool true]) [sN [.str [108,101,115,115],.int .i64 7,.int .i64 7,.int .i64 7,.bool false]] g):=by kernel_rfl
theorem rw7 (g:Glb) (K:Fk):(xfun prog (fun _=>none) 100 27 [.int .i64 7] (mkS [] g) (vF K))=(
 K (.tup [.agg [.str [101,113,117,97,108],.int .i64 7,.int .i64 7,.int .i64 7,.bool false],.bool true]) [sN [.str [101,113,117,97,108],.int .i64 7,.int .i64 7,.int .i64 7,.bool false]] g):=by kernel_rfl
theorem rw8 (g:Glb) (K:Fk):(xfun prog (fun _=>none) 100 27 [.int .i64 8] (mkS [] g) (vF K))=(
 K (.tup [.agg [.str [108,111,97,100],.int .i64 7,.int .i64 7,.int .i64 15,.bool false],.bool true]) [sN [.str [108,111,97,100],.int .i64 7,.int .i64 7,.int .i64 15,.bool false]] g):=by kernel_rfl
theorem rw9 (g:Glb) (K:Fk):(xfun prog (fun _=>none) 100 27 [.int .i64 9] (mkS [] g) (vF K))=(
 K (.tup [.agg [.str [115,116,111,114,101],.int .i64 7,.int .i64 7,.int .i64 15,.bool false],.bool true]) [sN [.str [115,116,111,114,101],.int .i64 7,.int .i64 7,.int .i64 15,.bool false]] g):=by kernel_rfl
theorem rw10 (g:Glb) (K:Fk):(xfun prog (fun _=>none) 100 27 [.int .i64 10] (mkS [] g) (vF K))=(
 K (.tup [.agg [.str [97,108,108,111,99],.int .i64 7,.int .i64 7,.int .i64 (-1),.bool false],.bool true]) [sN [.str [97,108,108,111,99],.int .i64 7,.int .i64 7,.int .i64 (-1),.bool false]] g):=by kernel_rfl
theorem rw11 (g:Glb) (K:Fk):(xfun prog (fun _=>none) 100 27 [.int .i64 11] (mkS [] g) (vF K))=(
 K (.tup [.agg [.str [102,114,101,101],.int .i64 7,.int .i64 (-1),.int .i64 (-1),.bool false],.bool true]) [sN [.str [102,114,101,101],.int .i64 7,.int .i64 (-1),.int .i64 (-1),.bool false]] g):=by kernel_rfl
theorem rw12 (g:Glb) (K:Fk):(xfun prog (fun _=>none) 100 27 [.int .i64 12] (mkS [] g) (vF K))=(
 K (.tup [.agg [.str [106,117,109,112],.int .i64 (-1),.int .i64 (-1),.int .i64 40,.bool false],.bool true]) [sN [.str [106,117,109,112],.int .i64 (-1),.int .i64 (-1),.int .i64 40,.bool false]] g):=by kernel_rfl
theorem rw13 (g:Glb) (K:Fk):(xfun prog (fun _=>none) 100 27 [.int .i64 13] (mkS [] g) (vF K))=(
 K (.tup [.agg [.str [122,101,114,111],.int .i64 7,.int .i64 (-1),.int .i64 40,.bool false],.bool true]) [sN [.str [122,101,114,111],.int .i64 7,.int .i64 (-1),.int .i64 40,.bool false]] g):=by kernel_rfl
theorem rw14 (g:Glb) (K:Fk):(xfun prog (fun _=>none) 100 27 [.int .i64 14] (mkS [] g) (vF K))=(
 K (.tup [.agg [.str [111,112,101,110],.int .i64 (-1),.int .i64 (-1),.int .i64 (-1),.bool false],.bool true]) [sN [.str [111,112,101,110],.int .i64 (-1),.int .i64 (-1),.int .i64 (-1),.bool false]] g):=by kernel_rfl
theorem rw15 (g:Glb) (K:Fk):(xfun prog (fun _=>none) 100 27 [.int .i64 15] (mkS [] g) (vF K))=(
 K (.tup [.agg [.str [99,108,111,115,101],.int .i64 (-1),.int .i64 (-1),.int .i64 (-1),.bool false],.bool true]) [sN [.str [99,108,111,115,101],.int .i64 (-1),.int .i64 (-1),.int .i64 (-1),.bool false]] g):=by kernel_rfl
theorem rw16 (g:Glb) (K:Fk):(xfun prog (fun _=>none) 100 27 [.int .i64 16] (mkS [] g) (vF K))=(
 K (.tup [.agg [.str [117,110,100,111],.int .i64 (-1),.int .i64 (-1),.int .i64 (-1),.bool false],.bool true]) [sN [.str [117,110,100,111],.int .i64 (-1),.int .i64 (-1),.int .i64 (-1),.bool false]] g):=by kernel_rfl
theorem rw17 (g:Glb) (K:Fk):(xfun prog (fun _=>none) 100 27 [.int .i64 17] (mkS [] g) (vF K))=(
 K (.tup [.agg [.str [101,105,116,104,101,114],.int .i64 (-1),.int .i64 (-1),.int .i64 (-1),.bool false],.bool true]) [sN [.str [101,105,116,104,101,114],.int .i64 (-1),.int .i64 (-1),.int .i64 (-1),.bool false]] g):=by kernel_rfl
theorem rw18 (g:Glb) (K:Fk):(xfun prog (fun _=>none) 100 27 [.int .i64 18] (mkS [] g) (vF K))=(
 K (.tup [.agg [.str [111,114],.int .i64 (-1),.int .i64 (-1),.int .i64 (-1),.bool false],.bool true]) [sN [.str [111,114],.int .i64 (-1),.int .i64 (-1),.int .i64 (-1),.bool false]] g):=by kernel_rfl
theorem rw19 (g:Glb) (K:Fk):(xfun prog (fun _=>none) 100 27 [.int .i64 19] (mkS [] g) (vF K))=(
 K (.tup [.agg [.str [100,111,110,101],.int .i64 (-1),.int .i64 (-1),.int .i64 (-1),.bool false],.bool true]) [sN [.str [100,111,110,101],.int .i64 (-1),.int .i64 (-1),.int .i64 (-1),.bool false]] g):=by kernel_rfl
theorem rw20 (g:Glb) (K:Fk):(xfun prog (fun _=>none) 100 27 [.int .i64 20] (mkS [] g) (vF K))=(
 K (.tup [.agg [.str [114,101,116,114,121],.int .i64 (-1),.int .i64 (-1),.int .i64 (-1),.bool false],.bool true]) [sN [.str [114,101,116,114,121],.int .i64 (-1),.int .i64 (-1),.int .i64 (-1),.bool false]] g):=by kernel_rfl
theorem rw21 (g:Glb) (K:Fk):(xfun prog (fun _=>none) 100 27 [.int .i64 21] (mkS [] g) (vF K))=(
 K (.tup [.agg [.str [101,109,105,116],.int .i64 7,.int .i64 (-1),.int .i64 (-1),.bool false],.bool true]) [sN [.str [101,109,105,116],.int .i64 7,.int .i64 (-1),.int .i64 (-1),.bool false]] g):=by kernel_rfl
theorem rw22 (g:Glb) (K:Fk):(xfun prog (fun _=>none) 100 27 [.int .i64 22] (mkS [] g) (vF K))=(
 K (.tup [.agg [.str [102,97,105,108],.int .i64 (-1),.int .i64 (-1),.int .i64 (-1),.bool false],.bool true]) [sN [.str [102,97,105,108],.int .i64 (-1),.int .i64 (-1),.int .i64 (-1),.bool false]] g):=by kernel_rfl
theorem rw23 (g:Glb) (K:Fk):(xfun prog (fun _=>none) 100 27 [.int .i64 23] (mkS [] g) (vF K))=(
 K (.tup [.agg [.str [99,97,108,108],.int .i64 12,.int .i64 7,.int .i64 6,.bool false],.bool true]) [sN [.str [99,97,108,108],.int .i64 12,.int .i64 7,.int .i64 6,.bool false]] g):=by kernel_rfl
theorem rc1 (K:Fk):(xfun prog (fun _=>none) 60 29 [.int .i64 1] (mkS [] tab3) (vF K))=(
 K (.str [108,105,115,116,46,97,100,100]) [] tab3):=by kernel_rfl
theorem rc2 (K:Fk):(xfun prog (fun _=>none) 60 29 [.int .i64 2] (mkS [] tab3) (vF K))=(
 K (.str [108,105,115,116,46,99,117,116]) [] tab3):=by kernel_rfl
theorem rc3 (K:Fk):(xfun prog (fun _=>none) 60 29 [.int .i64 3] (mkS [] tab3) (vF K))=(
 K (.str [108,105,115,116,46,104,97,115]) [] tab3):=by kernel_rfl
theorem rc4 (K:Fk):(xfun prog (fun _=>none) 60 29 [.int .i64 4] (mkS [] tab3) (vF K))=(
 K (.str [116,97,98,108,101,46,112,117,116]) [] tab3):=by kernel_rfl
theorem rc5 (K:Fk):(xfun prog (fun _=>none) 60 29 [.int .i64 5] (mkS [] tab3) (vF K))=(
 K (.str [116,97,98,108,101,46,103,101,116]) [] tab3):=by kernel_rfl
theorem rc6 (K:Fk):(xfun prog (fun _=>none) 60 29 [.int .i64 6] (mkS [] tab3) (vF K))=(
 K (.str [116,97,98,108,101,46,100,101,108]) [] tab3):=by kernel_rfl
theorem rc7 (K:Fk):(xfun prog (fun _=>none) 60 29 [.int .i64 7] (mkS [] tab3) (vF K))=(
 K (.str [113,117,101,117,101,46,112,117,115,104]) [] tab3):=by kernel_rfl
theorem rc8 (K:Fk):(xfun prog (fun _=>none) 60 29 [.int .i64 8] (mkS [] tab3) (vF K))=(
 K (.str [113,117,101,117,101,46,116,97,107,101]) [] tab3):=by kernel_rfl
theorem rc9 (K:Fk):(xfun prog (fun _=>none) 60 29 [.int .i64 9] (mkS [] tab3) (vF K))=(
 K (.str [116,114,101,101,46,115,101,116]) [] tab3):=by kernel_rfl
theorem rc10 (K:Fk):(xfun prog (fun _=>none) 60 29 [.int .i64 10] (mkS [] tab3) (vF K))=(
 K (.str [116,114,101,101,46,102,105,110,100]) [] tab3):=by kernel_rfl
theorem rc11 (K:Fk):(xfun prog (fun _=>none) 60 29 [.int .i64 11] (mkS [] tab3) (vF K))=(
 K (.str [116,114,101,101,46,101,114,97,115,101]) [] tab3):=by kernel_rfl
theorem rc12 (K:Fk):(xfun prog (fun _=>none) 60 29 [.int .i64 12] (mkS [] tab3) (vF K))=(
 K (.str [116,114,101,101,46,99,111,117,110,116]) [] tab3):=by kernel_rfl
theorem rcx (op:Int) (K:Fk):(xfun prog (fun _=>none) 60 29 [.int .i64 op] (mkS [] []) (vF K))=(
 bif xcm .lss op 1 then(
 K (.str []) [] [])
 else(
 bif xcm .gtr op 12 then(
 K (.str []) [] [])
 else(
 ck (xnn (xar .sub .i64 op 1)) <|
 ck (xle (xadd (xnat (xar .sub .i64 op 1)) 1) 12) <|
 False))):=by kernel_rfl
theorem row1 (g:Glb):SFun prog 27 [.int .i64 1] (mkS [] g) fun l st=>l=rowT 1∧st=mkS [] g:=by
 refine SFun.mono (SFun.vc (Q:=fun l bb=>l=rowT 1∧bb=[]) noCx_ok (n:=100) 0 rfl ?_) fun l s' ⟨b0,⟨h1,h2⟩,h3⟩=>⟨h1,by rw [h3,h2]⟩
 rw [rw1]
 exact⟨rfl,_,_,[],⟨rfl,rfl⟩,leafR rfl rfl rfl rfl rfl rfl⟩
theorem row2 (g:Glb):SFun prog 27 [.int .i64 2] (mkS [] g) fun l st=>l=rowT 2∧st=mkS [] g:=by
 refine SFun.mono (SFun.vc (Q:=fun l bb=>l=rowT 2∧bb=[]) noCx_ok (n:=100) 0 rfl ?_) fun l s' ⟨b0,⟨h1,h2⟩,h3⟩=>⟨h1,by rw [h3,h2]⟩
 rw [rw2]
 exact⟨rfl,_,_,[],⟨rfl,rfl⟩,leafR rfl rfl rfl rfl rfl rfl⟩
theorem row3 (g:Glb):SFun prog 27 [.int .i64 3] (mkS [] g) fun l st=>l=rowT 3∧st=mkS [] g:=by
 refine SFun.mono (SFun.vc (Q:=fun l bb=>l=rowT 3∧bb=[]) noCx_ok (n:=100) 0 rfl ?_) fun l s' ⟨b0,⟨h1,h2⟩,h3⟩=>⟨h1,by rw [h3,h2]⟩
 rw [rw3]
 exact⟨rfl,_,_,[],⟨rfl,rfl⟩,leafR rfl rfl rfl rfl rfl rfl⟩
theorem row4 (g:Glb):SFun prog 27 [.int .i64 4] (mkS [] g) fun l st=>l=rowT 4∧st=mkS [] g:=by
 refine SFun.mono (SFun.vc (Q:=fun l bb=>l=rowT 4∧bb=[]) noCx_ok (n:=100) 0 rfl ?_) fun l s' ⟨b0,⟨h1,h2⟩,h3⟩=>⟨h1,by rw [h3,h2]⟩
 rw [rw4]
 exact⟨rfl,_,_,[],⟨rfl,rfl⟩,leafR rfl rfl rfl rfl rfl rfl⟩
theorem row5 (g:Glb):SFun prog 27 [.int .i64 5] (mkS [] g) fun l st=>l=rowT 5∧st=mkS [] g:=by
 refine SFun.mono (SFun.vc (Q:=fun l bb=>l=rowT 5∧bb=[]) noCx_ok (n:=100) 0 rfl ?_) fun l s' ⟨b0,⟨h1,h2⟩,h3⟩=>⟨h1,by rw [h3,h2]⟩
 rw [rw5]
 exact⟨rfl,_,_,[],⟨rfl,rfl⟩,leafR rfl rfl rfl rfl rfl rfl⟩
theorem row6 (g:Glb):SFun prog 27 [.int .i64 6] (mkS [] g) fun l st=>l=rowT 6∧st=mkS [] g:=by
 refine SFun.mono (SFun.vc (Q:=fun l bb=>l=rowT 6∧bb=[]) noCx_ok (n:=100) 0 rfl ?_) fun l s' ⟨b0,⟨h1,h2⟩,h3⟩=>⟨h1,by rw [h3,h2]⟩
 rw [rw6]
 exact⟨rfl,_,_,[],⟨rfl,rfl⟩,leafR rfl rfl rfl rfl rfl rfl⟩
theorem row7 (g:Glb):SFun prog 27 [.int .i64 7] (mkS [] g) fun l st=>l=rowT 7∧st=mkS [] g:=by
 refine SFun.mono (SFun.vc (Q:=fun l bb=>l=rowT 7∧bb=[]) noCx_ok (n:=100) 0 rfl ?_) fun l s' ⟨b0,⟨h1,h2⟩,h3⟩=>⟨h1,by rw [h3,h2]⟩
 rw [rw7]
 exact⟨rfl,_,_,[],⟨rfl,rfl⟩,leafR rfl rfl rfl rfl rfl rfl⟩
theorem row8 (g:Glb):SFun prog 27 [.int .i64 8] (mkS [] g) fun l st=>l=rowT 8∧st=mkS [] g:=by
 refine SFun.mono (SFun.vc (Q:=fun l bb=>l=rowT 8∧bb=[]) noCx_ok (n:=100) 0 rfl ?_) fun l s' ⟨b0,⟨h1,h2⟩,h3⟩=>⟨h1,by rw [h3,h2]⟩
 rw [rw8]
 exact⟨rfl,_,_,[],⟨rfl,rfl⟩,leafR rfl rfl rfl rfl rfl rfl⟩
theorem row9 (g:Glb):SFun prog 27 [.int .i64 9] (mkS [] g) fun l st=>l=rowT 9∧st=mkS [] g:=by
 refine SFun.mono (SFun.vc (Q:=fun l bb=>l=rowT 9∧bb=[]) noCx_ok (n:=100) 0 rfl ?_) fun l s' ⟨b0,⟨h1,h2⟩,h3⟩=>⟨h1,by rw [h3,h2]⟩
 rw [rw9]
 exact⟨rfl,_,_,[],⟨rfl,rfl⟩,leafR rfl rfl rfl rfl rfl rfl⟩
theorem row10 (g:Glb):SFun prog 27 [.int .i64 10] (mkS [] g) fun l st=>l=rowT 10∧st=mkS [] g:=by
 refine SFun.mono (SFun.vc (Q:=fun l bb=>l=rowT 10∧bb=[]) noCx_ok (n:=100) 0 rfl ?_) fun l s' ⟨b0,⟨h1,h2⟩,h3⟩=>⟨h1,by rw [h3,h2]⟩
 rw [rw10]
 exact⟨rfl,_,_,[],⟨rfl,rfl⟩,leafR rfl rfl rfl rfl rfl rfl⟩
theorem row11 (g:Glb):SFun prog 27 [.int .i64 11] (mkS [] g) fun l st=>l=rowT 11∧st=mkS [] g:=by
 refine SFun.mono (SFun.vc (Q:=fun l bb=>l=rowT 11∧bb=[]) noCx_ok (n:=100) 0 rfl ?_) fun l s' ⟨b0,⟨h1,h2⟩,h3⟩=>⟨h1,by rw [h3,h2]⟩
 rw [rw11]
 exact⟨rfl,_,_,[],⟨rfl,rfl⟩,leafR rfl rfl rfl rfl rfl rfl⟩
theorem row12 (g:Glb):SFun prog 27 [.int .i64 12] (mkS [] g) fun l st=>l=rowT 12∧st=mkS [] g:=by
 refine SFun.mono (SFun.vc (Q:=fun l bb=>l=rowT 12∧bb=[]) noCx_ok (n:=100) 0 rfl ?_) fun l s' ⟨b0,⟨h1,h2⟩,h3⟩=>⟨h1,by rw [h3,h2]⟩
 rw [rw12]
 exact⟨rfl,_,_,[],⟨rfl,rfl⟩,leafR rfl rfl rfl rfl rfl rfl⟩
theorem row13 (g:Glb):SFun prog 27 [.int .i64 13] (mkS [] g) fun l st=>l=rowT 13∧st=mkS [] g:=by
 refine SFun.mono (SFun.vc (Q:=fun l bb=>l=rowT 13∧bb=[]) noCx_ok (n:=100) 0 rfl ?_) fun l s' ⟨b0,⟨h1,h2⟩,h3⟩=>⟨h1,by rw [h3,h2]⟩
 rw [rw13]
 exact⟨rfl,_,_,[],⟨rfl,rfl⟩,leafR rfl rfl rfl rfl rfl rfl⟩
theorem row14 (g:Glb):SFun prog 27 [.int .i64 14] (mkS [] g) fun l st=>l=rowT 14∧st=mkS [] g:=by
 refine SFun.mono (SFun.vc (Q:=fun l bb=>l=rowT 14∧bb=[]) noCx_ok (n:=100) 0 rfl ?_) fun l s' ⟨b0,⟨h1,h2⟩,h3⟩=>⟨h1,by rw [h3,h2]⟩
 rw [rw14]
 exact⟨rfl,_,_,[],⟨rfl,rfl⟩,leafR rfl rfl rfl rfl rfl rfl⟩
theorem row15 (g:Glb):SFun prog 27 [.int .i64 15] (mkS [] g) fun l st=>l=rowT 15∧st=mkS [] g:=by
 refine SFun.mono (SFun.vc (Q:=fun l bb=>l=rowT 15∧bb=[]) noCx_ok (n:=100) 0 rfl ?_) fun l s' ⟨b0,⟨h1,h2⟩,h3⟩=>⟨h1,by rw [h3,h2]⟩
 rw [rw15]
 exact⟨rfl,_,_,[],⟨rfl,rfl⟩,leafR rfl rfl rfl rfl rfl rfl⟩
theorem row16 (g:Glb):SFun prog 27 [.int .i64 16] (mkS [] g) fun l st=>l=rowT 16∧st=mkS [] g:=by
 refine SFun.mono (SFun.vc (Q:=fun l bb=>l=rowT 16∧bb=[]) noCx_ok (n:=100) 0 rfl ?_) fun l s' ⟨b0,⟨h1,h2⟩,h3⟩=>⟨h1,by rw [h3,h2]⟩
 rw [rw16]
 exact⟨rfl,_,_,[],⟨rfl,rfl⟩,leafR rfl rfl rfl rfl rfl rfl⟩
theorem row17 (g:Glb):SFun prog 27 [.int .i64 17] (mkS [] g) fun l st=>l=rowT 17∧st=mkS [] g:=by
 refine SFun.mono (SFun.vc (Q:=fun l bb=>l=rowT 17∧bb=[]) noCx_ok (n:=100) 0 rfl ?_) fun l s' ⟨b0,⟨h1,h2⟩,h3⟩=>⟨h1,by rw [h3,h2]⟩
 rw [rw17]
 exact⟨rfl,_,_,[],⟨rfl,rfl⟩,leafR rfl rfl rfl rfl rfl rfl⟩
theorem row18 (g:Glb):SFun prog 27 [.int .i64 18] (mkS [] g) fun l st=>l=rowT 18∧st=mkS [] g:=by
 refine SFun.mono (SFun.vc (Q:=fun l bb=>l=rowT 18∧bb=[]) noCx_ok (n:=100) 0 rfl ?_) fun l s' ⟨b0,⟨h1,h2⟩,h3⟩=>⟨h1,by rw [h3,h2]⟩
 rw [rw18]
 exact⟨rfl,_,_,[],⟨rfl,rfl⟩,leafR rfl rfl rfl rfl rfl rfl⟩
theorem row19 (g:Glb):SFun prog 27 [.int .i64 19] (mkS [] g) fun l st=>l=rowT 19∧st=mkS [] g:=by
 refine SFun.mono (SFun.vc (Q:=fun l bb=>l=rowT 19∧bb=[]) noCx_ok (n:=100) 0 rfl ?_) fun l s' ⟨b0,⟨h1,h2⟩,h3⟩=>⟨h1,by rw [h3,h2]⟩
 rw [rw19]
 exact⟨rfl,_,_,[],⟨rfl,rfl⟩,leafR rfl rfl rfl rfl rfl rfl⟩
theorem row20 (g:Glb):SFun prog 27 [.int .i64 20] (mkS [] g) fun l st=>l=rowT 20∧st=mkS [] g:=by
 refine SFun.mono (SFun.vc (Q:=fun l bb=>l=rowT 20∧bb=[]) noCx_ok (n:=100) 0 rfl ?_) fun l s' ⟨b0,⟨h1,h2⟩,h3⟩=>⟨h1,by rw [h3,h2]⟩
 rw [rw20]
 exact⟨rfl,_,_,[],⟨rfl,rfl⟩,leafR rfl rfl rfl rfl rfl rfl⟩
theorem row21 (g:Glb):SFun prog 27 [.int .i64 21] (mkS [] g) fun l st=>l=rowT 21∧st=mkS [] g:=by
 refine SFun.mono (SFun.vc (Q:=fun l bb=>l=rowT 21∧bb=[]) noCx_ok (n:=100) 0 rfl ?_) fun l s' ⟨b0,⟨h1,h2⟩,h3⟩=>⟨h1,by rw [h3,h2]⟩
 rw [rw21]
 exact⟨rfl,_,_,[],⟨rfl,rfl⟩,leafR rfl rfl rfl rfl rfl rfl⟩
theorem row22 (g:Glb):SFun prog 27 [.int .i64 22] (mkS [] g) fun l st=>l=rowT 22∧st=mkS [] g:=by
 refine SFun.mono (SFun.vc (Q:=fun l bb=>l=rowT 22∧bb=[]) noCx_ok (n:=100) 0 rfl ?_) fun l s' ⟨b0,⟨h1,h2⟩,h3⟩=>⟨h1,by rw [h3,h2]⟩
 rw [rw22]
 exact⟨rfl,_,_,[],⟨rfl,rfl⟩,leafR rfl rfl rfl rfl rfl rfl⟩
theorem row23 (g:Glb):SFun prog 27 [.int .i64 23] (mkS [] g) fun l st=>l=rowT 23∧st=mkS [] g:=by
 refine SFun.mono (SFun.vc (Q:=fun l bb=>l=rowT 23∧bb=[]) noCx_ok (n:=100) 0 rfl ?_) fun l s' ⟨b0,⟨h1,h2⟩,h3⟩=>⟨h1,by rw [h3,h2]⟩
 rw [rw23]
 exact⟨rfl,_,_,[],⟨rfl,rfl⟩,leafR rfl rfl rfl rfl rfl rfl⟩
theorem rcall1  : SFun prog 29 [.int .i64 1] (mkS [] tab3) fun l st=>l=.str (callW 1)∧st=mkS [] tab3:=by
 refine SFun.mono (SFun.vc (Q:=fun l bb=>l=.str (callW 1)∧bb=[]) noCx_ok (n:=60) 0 rfl ?_) fun l s' ⟨b0,⟨h1,h2⟩,h3⟩=>⟨h1,by rw [h3,h2]⟩
 rw [rc1]
 exact⟨rfl,_,_,[],⟨rfl,rfl⟩,leafS rfl⟩
theorem rcall2  : SFun prog 29 [.int .i64 2] (mkS [] tab3) fun l st=>l=.str (callW 2)∧st=mkS [] tab3:=by
 refine SFun.mono (SFun.vc (Q:=fun l bb=>l=.str (callW 2)∧bb=[]) noCx_ok (n:=60) 0 rfl ?_) fun l s' ⟨b0,⟨h1,h2⟩,h3⟩=>⟨h1,by rw [h3,h2]⟩
 rw [rc2]
 exact⟨rfl,_,_,[],⟨rfl,rfl⟩,leafS rfl⟩
theorem rcall3  : SFun prog 29 [.int .i64 3] (mkS [] tab3) fun l st=>l=.str (callW 3)∧st=mkS [] tab3:=by
 refine SFun.mono (SFun.vc (Q:=fun l bb=>l=.str (callW 3)∧bb=[]) noCx_ok (n:=60) 0 rfl ?_) fun l s' ⟨b0,⟨h1,h2⟩,h3⟩=>⟨h1,by rw [h3,h2]⟩
 rw [rc3]
 exact⟨rfl,_,_,[],⟨rfl,rfl⟩,leafS rfl⟩
theorem rcall4  : SFun prog 29 [.int .i64 4] (mkS [] tab3) fun l st=>l=.str (callW 4)∧st=mkS [] tab3:=by
 refine SFun.mono (SFun.vc (Q:=fun l bb=>l=.str (callW 4)∧bb=[]) noCx_ok (n:=60) 0 rfl ?_) fun l s' ⟨b0,⟨h1,h2⟩,h3⟩=>⟨h1,by rw [h3,h2]⟩
 rw [rc4]
 exact⟨rfl,_,_,[],⟨rfl,rfl⟩,leafS rfl⟩
theorem rcall5  : SFun prog 29 [.int .i64 5] (mkS [] tab3) fun l st=>l=.str (callW 5)∧st=mkS [] tab3:=by
 refine SFun.mono (SFun.vc (Q:=fun l bb=>l=.str (callW 5)∧bb=[]) noCx_ok (n:=60) 0 rfl ?_) fun l s' ⟨b0,⟨h1,h2⟩,h3⟩=>⟨h1,by rw [h3,h2]⟩
 rw [rc5]
 exact⟨rfl,_,_,[],⟨rfl,rfl⟩,leafS rfl⟩
theorem rcall6  : SFun prog 29 [.int .i64 6] (mkS [] tab3) fun l st=>l=.str (callW 6)∧st=mkS [] tab3:=by
 refine SFun.mono (SFun.vc (Q:=fun l bb=>l=.str (callW 6)∧bb=[]) noCx_ok (n:=60) 0 rfl ?_) fun l s' ⟨b0,⟨h1,h2⟩,h3⟩=>⟨h1,by rw [h3,h2]⟩
 rw [rc6]
 exact⟨rfl,_,_,[],⟨rfl,rfl⟩,leafS rfl⟩
theorem rcall7  : SFun prog 29 [.int .i64 7] (mkS [] tab3) fun l st=>l=.str (callW 7)∧st=mkS [] tab3:=by
 refine SFun.mono (SFun.vc (Q:=fun l bb=>l=.str (callW 7)∧bb=[]) noCx_ok (n:=60) 0 rfl ?_) fun l s' ⟨b0,⟨h1,h2⟩,h3⟩=>⟨h1,by rw [h3,h2]⟩
 rw [rc7]
 exact⟨rfl,_,_,[],⟨rfl,rfl⟩,leafS rfl⟩
theorem rcall8  : SFun prog 29 [.int .i64 8] (mkS [] tab3) fun l st=>l=.str (callW 8)∧st=mkS [] tab3:=by
 refine SFun.mono (SFun.vc (Q:=fun l bb=>l=.str (callW 8)∧bb=[]) noCx_ok (n:=60) 0 rfl ?_) fun l s' ⟨b0,⟨h1,h2⟩,h3⟩=>⟨h1,by rw [h3,h2]⟩
 rw [rc8]
 exact⟨rfl,_,_,[],⟨rfl,rfl⟩,leafS rfl⟩
theorem rcall9  : SFun prog 29 [.int .i64 9] (mkS [] tab3) fun l st=>l=.str (callW 9)∧st=mkS [] tab3:=by
 refine SFun.mono (SFun.vc (Q:=fun l bb=>l=.str (callW 9)∧bb=[]) noCx_ok (n:=60) 0 rfl ?_) fun l s' ⟨b0,⟨h1,h2⟩,h3⟩=>⟨h1,by rw [h3,h2]⟩
 rw [rc9]
 exact⟨rfl,_,_,[],⟨rfl,rfl⟩,leafS rfl⟩
theorem rcall10  : SFun prog 29 [.int .i64 10] (mkS [] tab3) fun l st=>l=.str (callW 10)∧st=mkS [] tab3:=by
 refine SFun.mono (SFun.vc (Q:=fun l bb=>l=.str (callW 10)∧bb=[]) noCx_ok (n:=60) 0 rfl ?_) fun l s' ⟨b0,⟨h1,h2⟩,h3⟩=>⟨h1,by rw [h3,h2]⟩
 rw [rc10]
 exact⟨rfl,_,_,[],⟨rfl,rfl⟩,leafS rfl⟩
theorem rcall11  : SFun prog 29 [.int .i64 11] (mkS [] tab3) fun l st=>l=.str (callW 11)∧st=mkS [] tab3:=by
 refine SFun.mono (SFun.vc (Q:=fun l bb=>l=.str (callW 11)∧bb=[]) noCx_ok (n:=60) 0 rfl ?_) fun l s' ⟨b0,⟨h1,h2⟩,h3⟩=>⟨h1,by rw [h3,h2]⟩
 rw [rc11]
 exact⟨rfl,_,_,[],⟨rfl,rfl⟩,leafS rfl⟩
theorem rcall12  : SFun prog 29 [.int .i64 12] (mkS [] tab3) fun l st=>l=.str (callW 12)∧st=mkS [] tab3:=by
 refine SFun.mono (SFun.vc (Q:=fun l bb=>l=.str (callW 12)∧bb=[]) noCx_ok (n:=60) 0 rfl ?_) fun l s' ⟨b0,⟨h1,h2⟩,h3⟩=>⟨h1,by rw [h3,h2]⟩
 rw [rc12]
 exact⟨rfl,_,_,[],⟨rfl,rfl⟩,leafS rfl⟩
theorem row_any (op:Int) (g:Glb):SFun prog 27 [.int .i64 op] (mkS [] g) fun l st=>l=rowT op∧st=mkS [] g:=by
 by_cases h:op < 1∨23 < op
 ·refine SFun.mono (row_out op g h) fun l s ⟨h1,h2⟩=>⟨?_,h2⟩
  rw [h1,rowT,nameW_out h,rA,rB,rC,rD,rN_out h,rOk,decide_eq_false (by omega)]
 ·have:op=1∨op=2∨op=3∨op=4∨op=5∨op=6∨op=7∨op=8∨op=9∨op=10∨op=11∨op=12∨op=13∨op=14∨op=15∨op=16∨op=17∨op=18∨op=19∨op=20∨op=21∨op=22∨op=23:=by omega
  rcases this with rfl | rfl | rfl | rfl | rfl | rfl | rfl | rfl | rfl | rfl | rfl | rfl | rfl | rfl | rfl | rfl | rfl | rfl | rfl | rfl | rfl | rfl | rfl
  ·exact row1 g
  ·exact row2 g
  ·exact row3 g
  ·exact row4 g
  ·exact row5 g
  ·exact row6 g
  ·exact row7 g
  ·exact row8 g
  ·exact row9 g
  ·exact row10 g
  ·exact row11 g
  ·exact row12 g
  ·exact row13 g
  ·exact row14 g
  ·exact row15 g
  ·exact row16 g
  ·exact row17 g
  ·exact row18 g
  ·exact row19 g
  ·exact row20 g
  ·exact row21 g
  ·exact row22 g
  ·exact row23 g
def rowG:Gc:=fun args s=>match args with
 | [.int .i64 op]=>some ([],rowT op,s)
 | _=>none
theorem rowG_ok:GOk prog 27 rowG:=by
 intro args s bs l s' hg hb hfr
 unfold rowG at hg
 split at hg
 ·rename_i op
  simp only [Option.some.injEq,Prod.mk.injEq] at hg
  obtain⟨rfl,rfl,rfl⟩:=hg
  exact SFun.pure2 hfr rfl rfl (row_any op s.g)
 ·cases hg
def rcallOutG:Gc:=fun args s=>match args,s.g with
 | [.int .i64 op],[]=>some ([coutW op],.str [],s)
 | _,_=>none
theorem rcall_out (op:Int) (h:op < 1∨12 < op):SFun prog 29 [.int .i64 op] (mkS [] []) fun l s=>l=.str []∧s=mkS [] []:=by
 refine SFun.mono (SFun.vc (Q:=fun l b=>l=.str []∧b=[]) noCx_ok (n:=60) 0 rfl ?_) fun l s' ⟨b0,⟨h1,h2⟩,h3⟩=>⟨h1,by rw [h3,h2]⟩
 rw [rcx]
 simp only [xcm_geq,xcm_leq,xcm_eql,xcm_neq,xcm_lss,xcm_gtr]
 repeat' (first | refine ite_way (fun _=>?_) (fun _=>?_) | refine nite_way (fun _=>?_) (fun _=>?_))
 all_goals first
  | exact⟨rfl,_,_,[],⟨rfl,rfl⟩,leafS rfl⟩
  | omega
theorem rcallOutG_ok:GOk prog 29 rcallOutG:=by
 intro args s bs l s' hg hb hfr
 unfold rcallOutG at hg
 split at hg
 ·rename_i op hgl
  simp only [Option.some.injEq,Prod.mk.injEq] at hg
  obtain⟨rfl,rfl,rfl⟩:=hg
  simp only [allT_cons] at hb
  refine SFun.pure2 hfr rfl rfl ?_
  rw [hgl]
  exact rcall_out op (by simpa [coutW] using hb.1)
 ·cases hg
theorem rcall (op:Int):SFun prog 29 [.int .i64 op] (mkS [] tab3) fun l s=>l=.str (callW op)∧s=mkS [] tab3:=by
 by_cases h:op < 1∨12 < op
 ·rw [callW_out h]
  exact wrapG_ok rcallOutG_ok [.int .i64 op] (mkS [] tab3) [coutW op] (.str []) (mkS [] tab3) rfl (by simp [allT,coutW,h]) (fun b _=>by rw [mkS_get]; rfl)
 ·have:op=1∨op=2∨op=3∨op=4∨op=5∨op=6∨op=7∨op=8∨op=9∨op=10∨op=11∨op=12:=by omega
  rcases this with rfl | rfl | rfl | rfl | rfl | rfl | rfl | rfl | rfl | rfl | rfl | rfl
  ·exact rcall1
  ·exact rcall2
  ·exact rcall3
  ·exact rcall4
  ·exact rcall5
  ·exact rcall6
  ·exact rcall7
  ·exact rcall8
  ·exact rcall9
  ·exact rcall10
  ·exact rcall11
  ·exact rcall12
def rcallG:Gc:=fun args s=>match args,s.g with
 | [.int .i64 op],[(g0,F0),(g1,F1),(g2,F2)]=>cond (Nat.beq g0 0 && eqbs F0 formsL && (Nat.beq g1 2 && eqbs F1 callsL && (Nat.beq g2 1 && eqbs F2 namesL))) (some ([],.str (callW op),s)) none
 | _,_=>none
theorem rcallG_ok:GOk prog 29 rcallG:=by
 intro args s bs l s' hg hb hfr
 unfold rcallG at hg
 split at hg
 ·rename_i op g0 F0 g1 F1 g2 F2 hgl
  cases hc:(Nat.beq g0 0 && eqbs F0 formsL && (Nat.beq g1 2 && eqbs F1 callsL && (Nat.beq g2 1 && eqbs F2 namesL))) with
  | false=>rw [hc] at hg; cases hg
  | true =>
    rw [hc] at hg
    simp only [cond_true,Option.some.injEq,Prod.mk.injEq] at hg
    obtain⟨rfl,rfl,rfl⟩:=hg
    simp only [Bool.and_eq_true] at hc
    obtain⟨⟨c1,c2⟩,⟨c3,c4⟩,c5,c6⟩:=hc
    have e:s.g=tab3:=by rw [hgl,Nat.eq_of_beq_eq_true c1,eqbs_eq c2,Nat.eq_of_beq_eq_true c3,eqbs_eq c4,Nat.eq_of_beq_eq_true c5,eqbs_eq c6]; rfl
    refine SFun.pure2 hfr rfl rfl ?_
    rw [e]; exact rcall op
 ·cases hg
end
end Go.Lev
