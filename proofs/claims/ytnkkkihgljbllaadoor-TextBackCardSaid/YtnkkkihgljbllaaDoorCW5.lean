/- chapter 14: names of instructions and calls (code) -/
import Derived.Test.YtnkkkihgljbllaaDoorCW1
import Derived.Test.YtnkkkihgljbllaaDoorLc
import Derived.Test.YtnkkkihgljbllaaDoorChecked
import Derived.KernelRfl
import Derived.Test.YtnkkkihgljbllaaDoorLc
import Derived.Test.YtnkkkihgljbllaaDoorLc
import Derived.Test.YtnkkkihgljbllaaDoorRows
namespace Go.Lev
set_option linter.unusedSimpArgs false
set_option linter.unusedVariables false
open Go.RowKit
open Go.Proofs.Tryd (prog)
set_option maxRecDepth 100000
noncomputable section
def callsL:List LV:=flatD Go.Proofs.YtnkkkihgljbllaaDoor.Rows.laid_quietus_code_calls
abbrev tab2 (rest:Glb):Glb:=formsG ((2,callsL)::rest)
def nmN:Nat→List UInt8
 | 1=>[115,101,116]
 | 2=>[109,111,118,101]
 | 3=>[97,100,100]
 | 4=>[115,117,98]
 | 5=>[109,117,108]
 | 6=>[108,101,115,115]
 | 7=>[101,113,117,97,108]
 | 8=>[108,111,97,100]
 | 9=>[115,116,111,114,101]
 | 10=>[97,108,108,111,99]
 | 11=>[102,114,101,101]
 | 12=>[106,117,109,112]
 | 13=>[122,101,114,111]
 | 14=>[111,112,101,110]
 | 15=>[99,108,111,115,101]
 | 16=>[117,110,100,111]
 | 17=>[101,105,116,104,101,114]
 | 18=>[111,114]
 | 19=>[100,111,110,101]
 | 20=>[114,101,116,114,121]
 | 21=>[101,109,105,116]
 | 22=>[102,97,105,108]
 | 23=>[99,97,108,108]
 | _=>[]
def clN:Nat→List UInt8
 | 1=>[108,105,115,116,46,97,100,100]
 | 2=>[108,105,115,116,46,99,117,116]
 | 3=>[108,105,115,116,46,104,97,115]
 | 4=>[116,97,98,108,101,46,112,117,116]
 | 5=>[116,97,98,108,101,46,103,101,116]
 | 6=>[116,97,98,108,101,46,100,101,108]
 | 7=>[113,117,101,117,101,46,112,117,115,104]
 | 8=>[113,117,101,117,101,46,116,97,107,101]
 | 9=>[116,114,101,101,46,115,101,116]
 | 10=>[116,114,101,101,46,102,105,110,100]
 | 11=>[116,114,101,101,46,101,114,97,115,101]
 | 12=>[116,114,101,101,46,99,111,117,110,116]
 | _=>[]
def wantN (f:Nat→List UInt8):Nat→List UInt8→Int
 | 0,_=>0
 | k+1,s=>bif f (k+1) == s then((k+1:Nat):Int) else wantN f k s
def nameW (op:Int):List UInt8:=nmN op.toNat
def callW (op:Int):List UInt8:=clN op.toNat
def opW (s:List UInt8):Int:=wantN nmN 23 s
def whW (s:List UInt8):Int:=wantN clN 12 s
def opB (s:List UInt8):Bool:=decide (wantN nmN 23 s≠0)
def whB (s:List UInt8):Bool:=decide (wantN clN 12 s≠0)
theorem str_way {l s:List UInt8} {A B:Prop} (h1:s=l→A) (h2:(l == s)=false→B):cond (xstr .eql l s) A B:=by
 cases h:l == s with
 | true=>rw [show xstr .eql l s=true from h]; exact h1 (eq_of_beq h).symm
 | false=>rw [show xstr .eql l s=false from h]; exact h2 h
theorem leafS {x y:List UInt8} {bs:List (Option LB)} (h:y=x):convOk 0 1 [0] [.str x] bs [] [(0,.str y)] []:=by subst h; (exact zC)
theorem leafT {x y:Int} {p q:Bool} {bs:List (Option LB)} (h:y=x) (h':q=p):convOk 0 1 [0] [.tup [.int .i64 x,.bool p]] bs [] [(0,.tup [.int .i64 y,.bool q])] []:=by subst h; subst h'; (exact zC)
theorem nameW_out {op:Int} (h:op < 1∨23 < op):nameW op=[]:=by
 unfold nameW
 by_cases h0:op < 1
 ·rw [show op.toNat=0 by omega]; rfl
 ·obtain⟨k,hk⟩:∃ k,op.toNat=k+24:=⟨op.toNat - 24,by omega⟩
  rw [hk]; rfl
theorem callW_out {op:Int} (h:op < 1∨12 < op):callW op=[]:=by
 unfold callW
 by_cases h0:op < 1
 ·rw [show op.toNat=0 by omega]; rfl
 ·obtain⟨k,hk⟩:∃ k,op.toNat=k+13:=⟨op.toNat - 13,by omega⟩
  rw [hk]; rfl
theorem nmx1 (rest:Glb) (K:Fk):(xfun prog (fun _=>none) 60 16 [.int .i64 1] (mkS [] (formsG rest)) (vF K))=(
 K (.str [115,101,116]) [] (formsG rest)):=by kernel_rfl
theorem nmx2 (rest:Glb) (K:Fk):(xfun prog (fun _=>none) 60 16 [.int .i64 2] (mkS [] (formsG rest)) (vF K))=(
 K (.str [109,111,118,101]) [] (formsG rest)):=by kernel_rfl
theorem nmx3 (rest:Glb) (K:Fk):(xfun prog (fun _=>none) 60 16 [.int .i64 3] (mkS [] (formsG rest)) (vF K))=(
 K (.str [97,100,100]) [] (formsG rest)):=by kernel_rfl
theorem nmx4 (rest:Glb) (K:Fk):(xfun prog (fun _=>none) 60 16 [.int .i64 4] (mkS [] (formsG rest)) (vF K))=(
 K (.str [115,117,98]) [] (formsG rest)):=by kernel_rfl
theorem nmx5 (rest:Glb) (K:Fk):(xfun prog (fun _=>none) 60 16 [.int .i64 5] (mkS [] (formsG rest)) (vF K))=(
 K (.str [109,117,108]) [] (formsG rest)):=by kernel_rfl
theorem nmx6 (rest:Glb) (K:Fk):(xfun prog (fun _=>none) 60 16 [.int .i64 6] (mkS [] (formsG rest)) (vF K))=(
 K (.str [108,101,115,115]) [] (formsG rest)):=by kernel_rfl
theorem nmx7 (rest:Glb) (K:Fk):(xfun prog (fun _=>none) 60 16 [.int .i64 7] (mkS [] (formsG rest)) (vF K))=(
 K (.str [101,113,117,97,108]) [] (formsG rest)):=by kernel_rfl
theorem nmx8 (rest:Glb) (K:Fk):(xfun prog (fun _=>none) 60 16 [.int .i64 8] (mkS [] (formsG rest)) (vF K))=(
 K (.str [108,111,97,100]) [] (formsG rest)):=by kernel_rfl
theorem nmx9 (rest:Glb) (K:Fk):(xfun prog (fun _=>none) 60 16 [.int .i64 9] (mkS [] (formsG rest)) (vF K))=(
 K (.str [115,116,111,114,101]) [] (formsG rest)):=by kernel_rfl
theorem nmx10 (rest:Glb) (K:Fk):(xfun prog (fun _=>none) 60 16 [.int .i64 10] (mkS [] (formsG rest)) (vF K))=(
 K (.str [97,108,108,111,99]) [] (formsG rest)):=by kernel_rfl
theorem nmx11 (rest:Glb) (K:Fk):(xfun prog (fun _=>none) 60 16 [.int .i64 11] (mkS [] (formsG rest)) (vF K))=(
 K (.str [102,114,101,101]) [] (formsG rest)):=by kernel_rfl
theorem nmx12 (rest:Glb) (K:Fk):(xfun prog (fun _=>none) 60 16 [.int .i64 12] (mkS [] (formsG rest)) (vF K))=(
 K (.str [106,117,109,112]) [] (formsG rest)):=by kernel_rfl
theorem nmx13 (rest:Glb) (K:Fk):(xfun prog (fun _=>none) 60 16 [.int .i64 13] (mkS [] (formsG rest)) (vF K))=(
 K (.str [122,101,114,111]) [] (formsG rest)):=by kernel_rfl
theorem nmx14 (rest:Glb) (K:Fk):(xfun prog (fun _=>none) 60 16 [.int .i64 14] (mkS [] (formsG rest)) (vF K))=(
 K (.str [111,112,101,110]) [] (formsG rest)):=by kernel_rfl
theorem nmx15 (rest:Glb) (K:Fk):(xfun prog (fun _=>none) 60 16 [.int .i64 15] (mkS [] (formsG rest)) (vF K))=(
 K (.str [99,108,111,115,101]) [] (formsG rest)):=by kernel_rfl
theorem nmx16 (rest:Glb) (K:Fk):(xfun prog (fun _=>none) 60 16 [.int .i64 16] (mkS [] (formsG rest)) (vF K))=(
 K (.str [117,110,100,111]) [] (formsG rest)):=by kernel_rfl
theorem nmx17 (rest:Glb) (K:Fk):(xfun prog (fun _=>none) 60 16 [.int .i64 17] (mkS [] (formsG rest)) (vF K))=(
 K (.str [101,105,116,104,101,114]) [] (formsG rest)):=by kernel_rfl
theorem nmx18 (rest:Glb) (K:Fk):(xfun prog (fun _=>none) 60 16 [.int .i64 18] (mkS [] (formsG rest)) (vF K))=(
 K (.str [111,114]) [] (formsG rest)):=by kernel_rfl
theorem nmx19 (rest:Glb) (K:Fk):(xfun prog (fun _=>none) 60 16 [.int .i64 19] (mkS [] (formsG rest)) (vF K))=(
 K (.str [100,111,110,101]) [] (formsG rest)):=by kernel_rfl
theorem nmx20 (rest:Glb) (K:Fk):(xfun prog (fun _=>none) 60 16 [.int .i64 20] (mkS [] (formsG rest)) (vF K))=(
 K (.str [114,101,116,114,121]) [] (formsG rest)):=by kernel_rfl
theorem nmx21 (rest:Glb) (K:Fk):(xfun prog (fun _=>none) 60 16 [.int .i64 21] (mkS [] (formsG rest)) (vF K))=(
 K (.str [101,109,105,116]) [] (formsG rest)):=by kernel_rfl
theorem nmx22 (rest:Glb) (K:Fk):(xfun prog (fun _=>none) 60 16 [.int .i64 22] (mkS [] (formsG rest)) (vF K))=(
 K (.str [102,97,105,108]) [] (formsG rest)):=by kernel_rfl
theorem nmx23 (rest:Glb) (K:Fk):(xfun prog (fun _=>none) 60 16 [.int .i64 23] (mkS [] (formsG rest)) (vF K))=(
 K (.str [99,97,108,108]) [] (formsG rest)):=by kernel_rfl
theorem nmx (op:Int) (g:Glb) (K:Fk):(xfun prog cxo 60 16 [.int .i64 op] (mkS [] g) (vF K))=(
 ck (outW op) <|
 K (.str []) [] g):=by kernel_rfl
theorem clx1 (rest:Glb) (K:Fk):(xfun prog (fun _=>none) 60 54 [.int .i64 1] (mkS [] (tab2 rest)) (vF K))=(
 K (.str [108,105,115,116,46,97,100,100]) [] (tab2 rest)):=by kernel_rfl
theorem clx2 (rest:Glb) (K:Fk):(xfun prog (fun _=>none) 60 54 [.int .i64 2] (mkS [] (tab2 rest)) (vF K))=(
 K (.str [108,105,115,116,46,99,117,116]) [] (tab2 rest)):=by kernel_rfl
theorem clx3 (rest:Glb) (K:Fk):(xfun prog (fun _=>none) 60 54 [.int .i64 3] (mkS [] (tab2 rest)) (vF K))=(
 K (.str [108,105,115,116,46,104,97,115]) [] (tab2 rest)):=by kernel_rfl
theorem clx4 (rest:Glb) (K:Fk):(xfun prog (fun _=>none) 60 54 [.int .i64 4] (mkS [] (tab2 rest)) (vF K))=(
 K (.str [116,97,98,108,101,46,112,117,116]) [] (tab2 rest)):=by kernel_rfl
theorem clx5 (rest:Glb) (K:Fk):(xfun prog (fun _=>none) 60 54 [.int .i64 5] (mkS [] (tab2 rest)) (vF K))=(
 K (.str [116,97,98,108,101,46,103,101,116]) [] (tab2 rest)):=by kernel_rfl
theorem clx6 (rest:Glb) (K:Fk):(xfun prog (fun _=>none) 60 54 [.int .i64 6] (mkS [] (tab2 rest)) (vF K))=(
 K (.str [116,97,98,108,101,46,100,101,108]) [] (tab2 rest)):=by kernel_rfl
theorem clx7 (rest:Glb) (K:Fk):(xfun prog (fun _=>none) 60 54 [.int .i64 7] (mkS [] (tab2 rest)) (vF K))=(
 K (.str [113,117,101,117,101,46,112,117,115,104]) [] (tab2 rest)):=by kernel_rfl
theorem clx8 (rest:Glb) (K:Fk):(xfun prog (fun _=>none) 60 54 [.int .i64 8] (mkS [] (tab2 rest)) (vF K))=(
 K (.str [113,117,101,117,101,46,116,97,107,101]) [] (tab2 rest)):=by kernel_rfl
theorem clx9 (rest:Glb) (K:Fk):(xfun prog (fun _=>none) 60 54 [.int .i64 9] (mkS [] (tab2 rest)) (vF K))=(
 K (.str [116,114,101,101,46,115,101,116]) [] (tab2 rest)):=by kernel_rfl
theorem clx10 (rest:Glb) (K:Fk):(xfun prog (fun _=>none) 60 54 [.int .i64 10] (mkS [] (tab2 rest)) (vF K))=(
 K (.str [116,114,101,101,46,102,105,110,100]) [] (tab2 rest)):=by kernel_rfl
theorem clx11 (rest:Glb) (K:Fk):(xfun prog (fun _=>none) 60 54 [.int .i64 11] (mkS [] (tab2 rest)) (vF K))=(
 K (.str [116,114,101,101,46,101,114,97,115,101]) [] (tab2 rest)):=by kernel_rfl
theorem clx12 (rest:Glb) (K:Fk):(xfun prog (fun _=>none) 60 54 [.int .i64 12] (mkS [] (tab2 rest)) (vF K))=(
 K (.str [116,114,101,101,46,99,111,117,110,116]) [] (tab2 rest)):=by kernel_rfl
theorem clx (op:Int) (K:Fk):(xfun prog (fun _=>none) 60 54 [.int .i64 op] (mkS [] []) (vF K))=(
 bif xcm .lss op 1 then(
 K (.str []) [] [])
 else(
 bif xcm .gtr op 12 then(
 K (.str []) [] [])
 else(
 ck (xnn (xar .sub .i64 op 1)) <|
 ck (xle (xadd (xnat (xar .sub .i64 op 1)) 1) 12) <|
 False))):=by kernel_rfl
theorem opx (s:List UInt8) (rest:Glb) (K:Fk):(xfun prog (fun _=>none) 300 70 [.str s] (mkS [] (formsG rest)) (vF K))=(
 bif xstr .eql [115,101,116] s then(
 K (.tup [.int .i64 1,.bool true]) [] (formsG rest))
 else(
 bif xstr .eql [109,111,118,101] s then(
 K (.tup [.int .i64 2,.bool true]) [] (formsG rest))
 else(
 bif xstr .eql [97,100,100] s then(
 K (.tup [.int .i64 3,.bool true]) [] (formsG rest))
 else(
 bif xstr .eql [115,117,98] s then(
 K (.tup [.int .i64 4,.bool true]) [] (formsG rest))
 else(
 bif xstr .eql [109,117,108] s then(
 K (.tup [.int .i64 5,.bool true]) [] (formsG rest))
 else(
 bif xstr .eql [108,101,115,115] s then(
 K (.tup [.int .i64 6,.bool true]) [] (formsG rest))
 else(
 bif xstr .eql [101,113,117,97,108] s then(
 K (.tup [.int .i64 7,.bool true]) [] (formsG rest))
 else(
 bif xstr .eql [108,111,97,100] s then(
 K (.tup [.int .i64 8,.bool true]) [] (formsG rest))
 else(
 bif xstr .eql [115,116,111,114,101] s then(
 K (.tup [.int .i64 9,.bool true]) [] (formsG rest))
 else(
 bif xstr .eql [97,108,108,111,99] s then(
 K (.tup [.int .i64 10,.bool true]) [] (formsG rest))
 else(
 bif xstr .eql [102,114,101,101] s then(
 K (.tup [.int .i64 11,.bool true]) [] (formsG rest))
 else(
 bif xstr .eql [106,117,109,112] s then(
 K (.tup [.int .i64 12,.bool true]) [] (formsG rest))
 else(
 bif xstr .eql [122,101,114,111] s then(
 K (.tup [.int .i64 13,.bool true]) [] (formsG rest))
 else(
 bif xstr .eql [111,112,101,110] s then(
 K (.tup [.int .i64 14,.bool true]) [] (formsG rest))
 else(
 bif xstr .eql [99,108,111,115,101] s then(
 K (.tup [.int .i64 15,.bool true]) [] (formsG rest))
 else(
 bif xstr .eql [117,110,100,111] s then(
 K (.tup [.int .i64 16,.bool true]) [] (formsG rest))
 else(
 bif xstr .eql [101,105,116,104,101,114] s then(
 K (.tup [.int .i64 17,.bool true]) [] (formsG rest))
 else(
 bif xstr .eql [111,114] s then(
 K (.tup [.int .i64 18,.bool true]) [] (formsG rest))
 else(
 bif xstr .eql [100,111,110,101] s then(
 K (.tup [.int .i64 19,.bool true]) [] (formsG rest))
 else(
 bif xstr .eql [114,101,116,114,121] s then(
 K (.tup [.int .i64 20,.bool true]) [] (formsG rest))
 else(
 bif xstr .eql [101,109,105,116] s then(
 K (.tup [.int .i64 21,.bool true]) [] (formsG rest))
 else(
 bif xstr .eql [102,97,105,108] s then(
 K (.tup [.int .i64 22,.bool true]) [] (formsG rest))
 else(
 bif xstr .eql [99,97,108,108] s then(
 K (.tup [.int .i64 23,.bool true]) [] (formsG rest))
 else(
 K (.tup [.int .i64 0,.bool false]) [] (formsG rest))))))))))))))))))))))))):=by kernel_rfl
theorem whx (s:List UInt8) (rest:Glb) (K:Fk):(xfun prog (fun _=>none) 300 84 [.str s] (mkS [] (tab2 rest)) (vF K))=(
 bif xstr .eql [108,105,115,116,46,97,100,100] s then(
 K (.tup [.int .i64 1,.bool true]) [] (tab2 rest))
 else(
 bif xstr .eql [108,105,115,116,46,99,117,116] s then(
 K (.tup [.int .i64 2,.bool true]) [] (tab2 rest))
 else(
 bif xstr .eql [108,105,115,116,46,104,97,115] s then(
 K (.tup [.int .i64 3,.bool true]) [] (tab2 rest))
 else(
 bif xstr .eql [116,97,98,108,101,46,112,117,116] s then(
 K (.tup [.int .i64 4,.bool true]) [] (tab2 rest))
 else(
 bif xstr .eql [116,97,98,108,101,46,103,101,116] s then(
 K (.tup [.int .i64 5,.bool true]) [] (tab2 rest))
 else(
 bif xstr .eql [116,97,98,108,101,46,100,101,108] s then(
 K (.tup [.int .i64 6,.bool true]) [] (tab2 rest))
 else(
 bif xstr .eql [113,117,101,117,101,46,112,117,115,104] s then(
 K (.tup [.int .i64 7,.bool true]) [] (tab2 rest))
 else(
 bif xstr .eql [113,117,101,117,101,46,116,97,107,101] s then(
 K (.tup [.int .i64 8,.bool true]) [] (tab2 rest))
 else(
 bif xstr .eql [116,114,101,101,46,115,101,116] s then(
 K (.tup [.int .i64 9,.bool true]) [] (tab2 rest))
 else(
 bif xstr .eql [116,114,101,101,46,102,105,110,100] s then(
 K (.tup [.int .i64 10,.bool true]) [] (tab2 rest))
 else(
 bif xstr .eql [116,114,101,101,46,101,114,97,115,101] s then(
 K (.tup [.int .i64 11,.bool true]) [] (tab2 rest))
 else(
 bif xstr .eql [116,114,101,101,46,99,111,117,110,116] s then(
 K (.tup [.int .i64 12,.bool true]) [] (tab2 rest))
 else(
 K (.tup [.int .i64 0,.bool false]) [] (tab2 rest)))))))))))))):=by kernel_rfl
theorem cname1 (rest:Glb):SFun prog 16 [.int .i64 1] (mkS [] (formsG rest)) fun l st=>l=.str (nameW 1)∧st=mkS [] (formsG rest):=by
 refine SFun.mono (SFun.vc (Q:=fun l bb=>l=.str (nameW 1)∧bb=[]) noCx_ok (n:=60) 0 rfl ?_) fun l s' ⟨b0,⟨h1,h2⟩,h3⟩=>⟨h1,by rw [h3,h2]⟩
 rw [nmx1]
 exact⟨rfl,_,_,[],⟨rfl,rfl⟩,leafS rfl⟩
theorem cname2 (rest:Glb):SFun prog 16 [.int .i64 2] (mkS [] (formsG rest)) fun l st=>l=.str (nameW 2)∧st=mkS [] (formsG rest):=by
 refine SFun.mono (SFun.vc (Q:=fun l bb=>l=.str (nameW 2)∧bb=[]) noCx_ok (n:=60) 0 rfl ?_) fun l s' ⟨b0,⟨h1,h2⟩,h3⟩=>⟨h1,by rw [h3,h2]⟩
 rw [nmx2]
 exact⟨rfl,_,_,[],⟨rfl,rfl⟩,leafS rfl⟩
theorem cname3 (rest:Glb):SFun prog 16 [.int .i64 3] (mkS [] (formsG rest)) fun l st=>l=.str (nameW 3)∧st=mkS [] (formsG rest):=by
 refine SFun.mono (SFun.vc (Q:=fun l bb=>l=.str (nameW 3)∧bb=[]) noCx_ok (n:=60) 0 rfl ?_) fun l s' ⟨b0,⟨h1,h2⟩,h3⟩=>⟨h1,by rw [h3,h2]⟩
 rw [nmx3]
 exact⟨rfl,_,_,[],⟨rfl,rfl⟩,leafS rfl⟩
theorem cname4 (rest:Glb):SFun prog 16 [.int .i64 4] (mkS [] (formsG rest)) fun l st=>l=.str (nameW 4)∧st=mkS [] (formsG rest):=by
 refine SFun.mono (SFun.vc (Q:=fun l bb=>l=.str (nameW 4)∧bb=[]) noCx_ok (n:=60) 0 rfl ?_) fun l s' ⟨b0,⟨h1,h2⟩,h3⟩=>⟨h1,by rw [h3,h2]⟩
 rw [nmx4]
 exact⟨rfl,_,_,[],⟨rfl,rfl⟩,leafS rfl⟩
theorem cname5 (rest:Glb):SFun prog 16 [.int .i64 5] (mkS [] (formsG rest)) fun l st=>l=.str (nameW 5)∧st=mkS [] (formsG rest):=by
 refine SFun.mono (SFun.vc (Q:=fun l bb=>l=.str (nameW 5)∧bb=[]) noCx_ok (n:=60) 0 rfl ?_) fun l s' ⟨b0,⟨h1,h2⟩,h3⟩=>⟨h1,by rw [h3,h2]⟩
 rw [nmx5]
 exact⟨rfl,_,_,[],⟨rfl,rfl⟩,leafS rfl⟩
theorem cname6 (rest:Glb):SFun prog 16 [.int .i64 6] (mkS [] (formsG rest)) fun l st=>l=.str (nameW 6)∧st=mkS [] (formsG rest):=by
 refine SFun.mono (SFun.vc (Q:=fun l bb=>l=.str (nameW 6)∧bb=[]) noCx_ok (n:=60) 0 rfl ?_) fun l s' ⟨b0,⟨h1,h2⟩,h3⟩=>⟨h1,by rw [h3,h2]⟩
 rw [nmx6]
 exact⟨rfl,_,_,[],⟨rfl,rfl⟩,leafS rfl⟩
theorem cname7 (rest:Glb):SFun prog 16 [.int .i64 7] (mkS [] (formsG rest)) fun l st=>l=.str (nameW 7)∧st=mkS [] (formsG rest):=by
 refine SFun.mono (SFun.vc (Q:=fun l bb=>l=.str (nameW 7)∧bb=[]) noCx_ok (n:=60) 0 rfl ?_) fun l s' ⟨b0,⟨h1,h2⟩,h3⟩=>⟨h1,by rw [h3,h2]⟩
 rw [nmx7]
 exact⟨rfl,_,_,[],⟨rfl,rfl⟩,leafS rfl⟩
theorem cname8 (rest:Glb):SFun prog 16 [.int .i64 8] (mkS [] (formsG rest)) fun l st=>l=.str (nameW 8)∧st=mkS [] (formsG rest):=by
 refine SFun.mono (SFun.vc (Q:=fun l bb=>l=.str (nameW 8)∧bb=[]) noCx_ok (n:=60) 0 rfl ?_) fun l s' ⟨b0,⟨h1,h2⟩,h3⟩=>⟨h1,by rw [h3,h2]⟩
 rw [nmx8]
 exact⟨rfl,_,_,[],⟨rfl,rfl⟩,leafS rfl⟩
theorem cname9 (rest:Glb):SFun prog 16 [.int .i64 9] (mkS [] (formsG rest)) fun l st=>l=.str (nameW 9)∧st=mkS [] (formsG rest):=by
 refine SFun.mono (SFun.vc (Q:=fun l bb=>l=.str (nameW 9)∧bb=[]) noCx_ok (n:=60) 0 rfl ?_) fun l s' ⟨b0,⟨h1,h2⟩,h3⟩=>⟨h1,by rw [h3,h2]⟩
 rw [nmx9]
 exact⟨rfl,_,_,[],⟨rfl,rfl⟩,leafS rfl⟩
theorem cname10 (rest:Glb):SFun prog 16 [.int .i64 10] (mkS [] (formsG rest)) fun l st=>l=.str (nameW 10)∧st=mkS [] (formsG rest):=by
 refine SFun.mono (SFun.vc (Q:=fun l bb=>l=.str (nameW 10)∧bb=[]) noCx_ok (n:=60) 0 rfl ?_) fun l s' ⟨b0,⟨h1,h2⟩,h3⟩=>⟨h1,by rw [h3,h2]⟩
 rw [nmx10]
 exact⟨rfl,_,_,[],⟨rfl,rfl⟩,leafS rfl⟩
theorem cname11 (rest:Glb):SFun prog 16 [.int .i64 11] (mkS [] (formsG rest)) fun l st=>l=.str (nameW 11)∧st=mkS [] (formsG rest):=by
 refine SFun.mono (SFun.vc (Q:=fun l bb=>l=.str (nameW 11)∧bb=[]) noCx_ok (n:=60) 0 rfl ?_) fun l s' ⟨b0,⟨h1,h2⟩,h3⟩=>⟨h1,by rw [h3,h2]⟩
 rw [nmx11]
 exact⟨rfl,_,_,[],⟨rfl,rfl⟩,leafS rfl⟩
theorem cname12 (rest:Glb):SFun prog 16 [.int .i64 12] (mkS [] (formsG rest)) fun l st=>l=.str (nameW 12)∧st=mkS [] (formsG rest):=by
 refine SFun.mono (SFun.vc (Q:=fun l bb=>l=.str (nameW 12)∧bb=[]) noCx_ok (n:=60) 0 rfl ?_) fun l s' ⟨b0,⟨h1,h2⟩,h3⟩=>⟨h1,by rw [h3,h2]⟩
 rw [nmx12]
 exact⟨rfl,_,_,[],⟨rfl,rfl⟩,leafS rfl⟩
theorem cname13 (rest:Glb):SFun prog 16 [.int .i64 13] (mkS [] (formsG rest)) fun l st=>l=.str (nameW 13)∧st=mkS [] (formsG rest):=by
 refine SFun.mono (SFun.vc (Q:=fun l bb=>l=.str (nameW 13)∧bb=[]) noCx_ok (n:=60) 0 rfl ?_) fun l s' ⟨b0,⟨h1,h2⟩,h3⟩=>⟨h1,by rw [h3,h2]⟩
 rw [nmx13]
 exact⟨rfl,_,_,[],⟨rfl,rfl⟩,leafS rfl⟩
theorem cname14 (rest:Glb):SFun prog 16 [.int .i64 14] (mkS [] (formsG rest)) fun l st=>l=.str (nameW 14)∧st=mkS [] (formsG rest):=by
 refine SFun.mono (SFun.vc (Q:=fun l bb=>l=.str (nameW 14)∧bb=[]) noCx_ok (n:=60) 0 rfl ?_) fun l s' ⟨b0,⟨h1,h2⟩,h3⟩=>⟨h1,by rw [h3,h2]⟩
 rw [nmx14]
 exact⟨rfl,_,_,[],⟨rfl,rfl⟩,leafS rfl⟩
theorem cname15 (rest:Glb):SFun prog 16 [.int .i64 15] (mkS [] (formsG rest)) fun l st=>l=.str (nameW 15)∧st=mkS [] (formsG rest):=by
 refine SFun.mono (SFun.vc (Q:=fun l bb=>l=.str (nameW 15)∧bb=[]) noCx_ok (n:=60) 0 rfl ?_) fun l s' ⟨b0,⟨h1,h2⟩,h3⟩=>⟨h1,by rw [h3,h2]⟩
 rw [nmx15]
 exact⟨rfl,_,_,[],⟨rfl,rfl⟩,leafS rfl⟩
theorem cname16 (rest:Glb):SFun prog 16 [.int .i64 16] (mkS [] (formsG rest)) fun l st=>l=.str (nameW 16)∧st=mkS [] (formsG rest):=by
 refine SFun.mono (SFun.vc (Q:=fun l bb=>l=.str (nameW 16)∧bb=[]) noCx_ok (n:=60) 0 rfl ?_) fun l s' ⟨b0,⟨h1,h2⟩,h3⟩=>⟨h1,by rw [h3,h2]⟩
 rw [nmx16]
 exact⟨rfl,_,_,[],⟨rfl,rfl⟩,leafS rfl⟩
theorem cname17 (rest:Glb):SFun prog 16 [.int .i64 17] (mkS [] (formsG rest)) fun l st=>l=.str (nameW 17)∧st=mkS [] (formsG rest):=by
 refine SFun.mono (SFun.vc (Q:=fun l bb=>l=.str (nameW 17)∧bb=[]) noCx_ok (n:=60) 0 rfl ?_) fun l s' ⟨b0,⟨h1,h2⟩,h3⟩=>⟨h1,by rw [h3,h2]⟩
 rw [nmx17]
 exact⟨rfl,_,_,[],⟨rfl,rfl⟩,leafS rfl⟩
theorem cname18 (rest:Glb):SFun prog 16 [.int .i64 18] (mkS [] (formsG rest)) fun l st=>l=.str (nameW 18)∧st=mkS [] (formsG rest):=by
 refine SFun.mono (SFun.vc (Q:=fun l bb=>l=.str (nameW 18)∧bb=[]) noCx_ok (n:=60) 0 rfl ?_) fun l s' ⟨b0,⟨h1,h2⟩,h3⟩=>⟨h1,by rw [h3,h2]⟩
 rw [nmx18]
 exact⟨rfl,_,_,[],⟨rfl,rfl⟩,leafS rfl⟩
theorem cname19 (rest:Glb):SFun prog 16 [.int .i64 19] (mkS [] (formsG rest)) fun l st=>l=.str (nameW 19)∧st=mkS [] (formsG rest):=by
 refine SFun.mono (SFun.vc (Q:=fun l bb=>l=.str (nameW 19)∧bb=[]) noCx_ok (n:=60) 0 rfl ?_) fun l s' ⟨b0,⟨h1,h2⟩,h3⟩=>⟨h1,by rw [h3,h2]⟩
 rw [nmx19]
 exact⟨rfl,_,_,[],⟨rfl,rfl⟩,leafS rfl⟩
theorem cname20 (rest:Glb):SFun prog 16 [.int .i64 20] (mkS [] (formsG rest)) fun l st=>l=.str (nameW 20)∧st=mkS [] (formsG rest):=by
 refine SFun.mono (SFun.vc (Q:=fun l bb=>l=.str (nameW 20)∧bb=[]) noCx_ok (n:=60) 0 rfl ?_) fun l s' ⟨b0,⟨h1,h2⟩,h3⟩=>⟨h1,by rw [h3,h2]⟩
 rw [nmx20]
 exact⟨rfl,_,_,[],⟨rfl,rfl⟩,leafS rfl⟩
theorem cname21 (rest:Glb):SFun prog 16 [.int .i64 21] (mkS [] (formsG rest)) fun l st=>l=.str (nameW 21)∧st=mkS [] (formsG rest):=by
 refine SFun.mono (SFun.vc (Q:=fun l bb=>l=.str (nameW 21)∧bb=[]) noCx_ok (n:=60) 0 rfl ?_) fun l s' ⟨b0,⟨h1,h2⟩,h3⟩=>⟨h1,by rw [h3,h2]⟩
 rw [nmx21]
 exact⟨rfl,_,_,[],⟨rfl,rfl⟩,leafS rfl⟩
theorem cname22 (rest:Glb):SFun prog 16 [.int .i64 22] (mkS [] (formsG rest)) fun l st=>l=.str (nameW 22)∧st=mkS [] (formsG rest):=by
 refine SFun.mono (SFun.vc (Q:=fun l bb=>l=.str (nameW 22)∧bb=[]) noCx_ok (n:=60) 0 rfl ?_) fun l s' ⟨b0,⟨h1,h2⟩,h3⟩=>⟨h1,by rw [h3,h2]⟩
 rw [nmx22]
 exact⟨rfl,_,_,[],⟨rfl,rfl⟩,leafS rfl⟩
theorem cname23 (rest:Glb):SFun prog 16 [.int .i64 23] (mkS [] (formsG rest)) fun l st=>l=.str (nameW 23)∧st=mkS [] (formsG rest):=by
 refine SFun.mono (SFun.vc (Q:=fun l bb=>l=.str (nameW 23)∧bb=[]) noCx_ok (n:=60) 0 rfl ?_) fun l s' ⟨b0,⟨h1,h2⟩,h3⟩=>⟨h1,by rw [h3,h2]⟩
 rw [nmx23]
 exact⟨rfl,_,_,[],⟨rfl,rfl⟩,leafS rfl⟩
theorem ccall1 (rest:Glb):SFun prog 54 [.int .i64 1] (mkS [] (tab2 rest)) fun l st=>l=.str (callW 1)∧st=mkS [] (tab2 rest):=by
 refine SFun.mono (SFun.vc (Q:=fun l bb=>l=.str (callW 1)∧bb=[]) noCx_ok (n:=60) 0 rfl ?_) fun l s' ⟨b0,⟨h1,h2⟩,h3⟩=>⟨h1,by rw [h3,h2]⟩
 rw [clx1]
 exact⟨rfl,_,_,[],⟨rfl,rfl⟩,leafS rfl⟩
theorem ccall2 (rest:Glb):SFun prog 54 [.int .i64 2] (mkS [] (tab2 rest)) fun l st=>l=.str (callW 2)∧st=mkS [] (tab2 rest):=by
 refine SFun.mono (SFun.vc (Q:=fun l bb=>l=.str (callW 2)∧bb=[]) noCx_ok (n:=60) 0 rfl ?_) fun l s' ⟨b0,⟨h1,h2⟩,h3⟩=>⟨h1,by rw [h3,h2]⟩
 rw [clx2]
 exact⟨rfl,_,_,[],⟨rfl,rfl⟩,leafS rfl⟩
theorem ccall3 (rest:Glb):SFun prog 54 [.int .i64 3] (mkS [] (tab2 rest)) fun l st=>l=.str (callW 3)∧st=mkS [] (tab2 rest):=by
 refine SFun.mono (SFun.vc (Q:=fun l bb=>l=.str (callW 3)∧bb=[]) noCx_ok (n:=60) 0 rfl ?_) fun l s' ⟨b0,⟨h1,h2⟩,h3⟩=>⟨h1,by rw [h3,h2]⟩
 rw [clx3]
 exact⟨rfl,_,_,[],⟨rfl,rfl⟩,leafS rfl⟩
theorem ccall4 (rest:Glb):SFun prog 54 [.int .i64 4] (mkS [] (tab2 rest)) fun l st=>l=.str (callW 4)∧st=mkS [] (tab2 rest):=by
 refine SFun.mono (SFun.vc (Q:=fun l bb=>l=.str (callW 4)∧bb=[]) noCx_ok (n:=60) 0 rfl ?_) fun l s' ⟨b0,⟨h1,h2⟩,h3⟩=>⟨h1,by rw [h3,h2]⟩
 rw [clx4]
 exact⟨rfl,_,_,[],⟨rfl,rfl⟩,leafS rfl⟩
theorem ccall5 (rest:Glb):SFun prog 54 [.int .i64 5] (mkS [] (tab2 rest)) fun l st=>l=.str (callW 5)∧st=mkS [] (tab2 rest):=by
 refine SFun.mono (SFun.vc (Q:=fun l bb=>l=.str (callW 5)∧bb=[]) noCx_ok (n:=60) 0 rfl ?_) fun l s' ⟨b0,⟨h1,h2⟩,h3⟩=>⟨h1,by rw [h3,h2]⟩
 rw [clx5]
 exact⟨rfl,_,_,[],⟨rfl,rfl⟩,leafS rfl⟩
theorem ccall6 (rest:Glb):SFun prog 54 [.int .i64 6] (mkS [] (tab2 rest)) fun l st=>l=.str (callW 6)∧st=mkS [] (tab2 rest):=by
 refine SFun.mono (SFun.vc (Q:=fun l bb=>l=.str (callW 6)∧bb=[]) noCx_ok (n:=60) 0 rfl ?_) fun l s' ⟨b0,⟨h1,h2⟩,h3⟩=>⟨h1,by rw [h3,h2]⟩
 rw [clx6]
 exact⟨rfl,_,_,[],⟨rfl,rfl⟩,leafS rfl⟩
theorem ccall7 (rest:Glb):SFun prog 54 [.int .i64 7] (mkS [] (tab2 rest)) fun l st=>l=.str (callW 7)∧st=mkS [] (tab2 rest):=by
 refine SFun.mono (SFun.vc (Q:=fun l bb=>l=.str (callW 7)∧bb=[]) noCx_ok (n:=60) 0 rfl ?_) fun l s' ⟨b0,⟨h1,h2⟩,h3⟩=>⟨h1,by rw [h3,h2]⟩
 rw [clx7]
 exact⟨rfl,_,_,[],⟨rfl,rfl⟩,leafS rfl⟩
theorem ccall8 (rest:Glb):SFun prog 54 [.int .i64 8] (mkS [] (tab2 rest)) fun l st=>l=.str (callW 8)∧st=mkS [] (tab2 rest):=by
 refine SFun.mono (SFun.vc (Q:=fun l bb=>l=.str (callW 8)∧bb=[]) noCx_ok (n:=60) 0 rfl ?_) fun l s' ⟨b0,⟨h1,h2⟩,h3⟩=>⟨h1,by rw [h3,h2]⟩
 rw [clx8]
 exact⟨rfl,_,_,[],⟨rfl,rfl⟩,leafS rfl⟩
theorem ccall9 (rest:Glb):SFun prog 54 [.int .i64 9] (mkS [] (tab2 rest)) fun l st=>l=.str (callW 9)∧st=mkS [] (tab2 rest):=by
 refine SFun.mono (SFun.vc (Q:=fun l bb=>l=.str (callW 9)∧bb=[]) noCx_ok (n:=60) 0 rfl ?_) fun l s' ⟨b0,⟨h1,h2⟩,h3⟩=>⟨h1,by rw [h3,h2]⟩
 rw [clx9]
 exact⟨rfl,_,_,[],⟨rfl,rfl⟩,leafS rfl⟩
theorem ccall10 (rest:Glb):SFun prog 54 [.int .i64 10] (mkS [] (tab2 rest)) fun l st=>l=.str (callW 10)∧st=mkS [] (tab2 rest):=by
 refine SFun.mono (SFun.vc (Q:=fun l bb=>l=.str (callW 10)∧bb=[]) noCx_ok (n:=60) 0 rfl ?_) fun l s' ⟨b0,⟨h1,h2⟩,h3⟩=>⟨h1,by rw [h3,h2]⟩
 rw [clx10]
 exact⟨rfl,_,_,[],⟨rfl,rfl⟩,leafS rfl⟩
theorem ccall11 (rest:Glb):SFun prog 54 [.int .i64 11] (mkS [] (tab2 rest)) fun l st=>l=.str (callW 11)∧st=mkS [] (tab2 rest):=by
 refine SFun.mono (SFun.vc (Q:=fun l bb=>l=.str (callW 11)∧bb=[]) noCx_ok (n:=60) 0 rfl ?_) fun l s' ⟨b0,⟨h1,h2⟩,h3⟩=>⟨h1,by rw [h3,h2]⟩
 rw [clx11]
 exact⟨rfl,_,_,[],⟨rfl,rfl⟩,leafS rfl⟩
theorem ccall12 (rest:Glb):SFun prog 54 [.int .i64 12] (mkS [] (tab2 rest)) fun l st=>l=.str (callW 12)∧st=mkS [] (tab2 rest):=by
 refine SFun.mono (SFun.vc (Q:=fun l bb=>l=.str (callW 12)∧bb=[]) noCx_ok (n:=60) 0 rfl ?_) fun l s' ⟨b0,⟨h1,h2⟩,h3⟩=>⟨h1,by rw [h3,h2]⟩
 rw [clx12]
 exact⟨rfl,_,_,[],⟨rfl,rfl⟩,leafS rfl⟩
theorem cname (op:Int) (rest:Glb):SFun prog 16 [.int .i64 op] (mkS [] (formsG rest)) fun l s=>l=.str (nameW op)∧s=mkS [] (formsG rest):=by
 by_cases h:op < 1∨23 < op
 ·rw [nameW_out h]
  refine SFun.mono (SFun.vc (Q:=fun l b=>l=.str []∧b=[]) cxo_ok (n:=60) 0 rfl ?_) fun l s' ⟨b0,⟨h1,h2⟩,h3⟩=>⟨h1,by rw [h3,h2]⟩
  rw [nmx]
  simp only [outW_iff.2 h,cond_true]
  exact⟨rfl,_,_,[],⟨rfl,rfl⟩,leafS rfl⟩
 ·have:op=1∨op=2∨op=3∨op=4∨op=5∨op=6∨op=7∨op=8∨op=9∨op=10∨op=11∨op=12∨op=13∨op=14∨op=15∨op=16∨op=17∨op=18∨op=19∨op=20∨op=21∨op=22∨op=23:=by omega
  rcases this with rfl | rfl | rfl | rfl | rfl | rfl | rfl | rfl | rfl | rfl | rfl | rfl | rfl | rfl | rfl | rfl | rfl | rfl | rfl | rfl | rfl | rfl | rfl
  ·exact cname1 rest
  ·exact cname2 rest
  ·exact cname3 rest
  ·exact cname4 rest
  ·exact cname5 rest
  ·exact cname6 rest
  ·exact cname7 rest
  ·exact cname8 rest
  ·exact cname9 rest
  ·exact cname10 rest
  ·exact cname11 rest
  ·exact cname12 rest
  ·exact cname13 rest
  ·exact cname14 rest
  ·exact cname15 rest
  ·exact cname16 rest
  ·exact cname17 rest
  ·exact cname18 rest
  ·exact cname19 rest
  ·exact cname20 rest
  ·exact cname21 rest
  ·exact cname22 rest
  ·exact cname23 rest
def coutW (op:Int):Bool:=decide (op < 1∨12 < op)
def callOutG:Gc:=fun args s=>match args,s.g with
 | [.int .i64 op],[]=>some ([coutW op],.str [],s)
 | _,_=>none
theorem call_out (op:Int) (h:op < 1∨12 < op):SFun prog 54 [.int .i64 op] (mkS [] []) fun l s=>l=.str []∧s=mkS [] []:=by
 refine SFun.mono (SFun.vc (Q:=fun l b=>l=.str []∧b=[]) noCx_ok (n:=60) 0 rfl ?_) fun l s' ⟨b0,⟨h1,h2⟩,h3⟩=>⟨h1,by rw [h3,h2]⟩
 rw [clx]
 simp only [xcm_geq,xcm_leq,xcm_eql,xcm_neq,xcm_lss,xcm_gtr]
 repeat' (first | refine ite_way (fun _=>?_) (fun _=>?_) | refine nite_way (fun _=>?_) (fun _=>?_))
 all_goals first
  | exact⟨rfl,_,_,[],⟨rfl,rfl⟩,leafS rfl⟩
  | omega
theorem callOutG_ok:GOk prog 54 callOutG:=by
 intro args s bs l s' hg hb hfr
 unfold callOutG at hg
 split at hg
 ·rename_i op hgl
  simp only [Option.some.injEq,Prod.mk.injEq] at hg
  obtain⟨rfl,rfl,rfl⟩:=hg
  simp only [allT_cons] at hb
  refine SFun.pure2 hfr rfl rfl ?_
  rw [hgl]
  exact call_out op (by simpa [coutW] using hb.1)
 ·cases hg
theorem ccall (op:Int) (rest:Glb):SFun prog 54 [.int .i64 op] (mkS [] (tab2 rest)) fun l s=>l=.str (callW op)∧s=mkS [] (tab2 rest):=by
 by_cases h:op < 1∨12 < op
 ·rw [callW_out h]
  exact wrapG_ok callOutG_ok [.int .i64 op] (mkS [] (tab2 rest)) [coutW op] (.str []) (mkS [] (tab2 rest)) rfl (by simp [allT,coutW,h]) (fun b _=>by rw [mkS_get]; rfl)
 ·have:op=1∨op=2∨op=3∨op=4∨op=5∨op=6∨op=7∨op=8∨op=9∨op=10∨op=11∨op=12:=by omega
  rcases this with rfl | rfl | rfl | rfl | rfl | rfl | rfl | rfl | rfl | rfl | rfl | rfl
  ·exact ccall1 rest
  ·exact ccall2 rest
  ·exact ccall3 rest
  ·exact ccall4 rest
  ·exact ccall5 rest
  ·exact ccall6 rest
  ·exact ccall7 rest
  ·exact ccall8 rest
  ·exact ccall9 rest
  ·exact ccall10 rest
  ·exact ccall11 rest
  ·exact ccall12 rest
theorem cop (s:List UInt8) (rest:Glb):SFun prog 70 [.str s] (mkS [] (formsG rest)) fun l st=>l=.tup [.int .i64 (opW s),.bool (opB s)]∧st=mkS [] (formsG rest):=by
 refine SFun.mono (SFun.vc (Q:=fun l bb=>l=.tup [.int .i64 (opW s),.bool (opB s)]∧bb=[]) noCx_ok (n:=300) 0 rfl ?_) fun l s' ⟨b0,⟨h1,h2⟩,h3⟩=>⟨h1,by rw [h3,h2]⟩
 rw [opx]
 refine str_way (fun e=>?_) (fun e1=>?_)
 ·subst e; exact⟨rfl,_,_,[],⟨rfl,rfl⟩,leafT rfl rfl⟩
 refine str_way (fun e=>?_) (fun e2=>?_)
 ·subst e; exact⟨rfl,_,_,[],⟨rfl,rfl⟩,leafT rfl rfl⟩
 refine str_way (fun e=>?_) (fun e3=>?_)
 ·subst e; exact⟨rfl,_,_,[],⟨rfl,rfl⟩,leafT rfl rfl⟩
 refine str_way (fun e=>?_) (fun e4=>?_)
 ·subst e; exact⟨rfl,_,_,[],⟨rfl,rfl⟩,leafT rfl rfl⟩
 refine str_way (fun e=>?_) (fun e5=>?_)
 ·subst e; exact⟨rfl,_,_,[],⟨rfl,rfl⟩,leafT rfl rfl⟩
 refine str_way (fun e=>?_) (fun e6=>?_)
 ·subst e; exact⟨rfl,_,_,[],⟨rfl,rfl⟩,leafT rfl rfl⟩
 refine str_way (fun e=>?_) (fun e7=>?_)
 ·subst e; exact⟨rfl,_,_,[],⟨rfl,rfl⟩,leafT rfl rfl⟩
 refine str_way (fun e=>?_) (fun e8=>?_)
 ·subst e; exact⟨rfl,_,_,[],⟨rfl,rfl⟩,leafT rfl rfl⟩
 refine str_way (fun e=>?_) (fun e9=>?_)
 ·subst e; exact⟨rfl,_,_,[],⟨rfl,rfl⟩,leafT rfl rfl⟩
 refine str_way (fun e=>?_) (fun e10=>?_)
 ·subst e; exact⟨rfl,_,_,[],⟨rfl,rfl⟩,leafT rfl rfl⟩
 refine str_way (fun e=>?_) (fun e11=>?_)
 ·subst e; exact⟨rfl,_,_,[],⟨rfl,rfl⟩,leafT rfl rfl⟩
 refine str_way (fun e=>?_) (fun e12=>?_)
 ·subst e; exact⟨rfl,_,_,[],⟨rfl,rfl⟩,leafT rfl rfl⟩
 refine str_way (fun e=>?_) (fun e13=>?_)
 ·subst e; exact⟨rfl,_,_,[],⟨rfl,rfl⟩,leafT rfl rfl⟩
 refine str_way (fun e=>?_) (fun e14=>?_)
 ·subst e; exact⟨rfl,_,_,[],⟨rfl,rfl⟩,leafT rfl rfl⟩
 refine str_way (fun e=>?_) (fun e15=>?_)
 ·subst e; exact⟨rfl,_,_,[],⟨rfl,rfl⟩,leafT rfl rfl⟩
 refine str_way (fun e=>?_) (fun e16=>?_)
 ·subst e; exact⟨rfl,_,_,[],⟨rfl,rfl⟩,leafT rfl rfl⟩
 refine str_way (fun e=>?_) (fun e17=>?_)
 ·subst e; exact⟨rfl,_,_,[],⟨rfl,rfl⟩,leafT rfl rfl⟩
 refine str_way (fun e=>?_) (fun e18=>?_)
 ·subst e; exact⟨rfl,_,_,[],⟨rfl,rfl⟩,leafT rfl rfl⟩
 refine str_way (fun e=>?_) (fun e19=>?_)
 ·subst e; exact⟨rfl,_,_,[],⟨rfl,rfl⟩,leafT rfl rfl⟩
 refine str_way (fun e=>?_) (fun e20=>?_)
 ·subst e; exact⟨rfl,_,_,[],⟨rfl,rfl⟩,leafT rfl rfl⟩
 refine str_way (fun e=>?_) (fun e21=>?_)
 ·subst e; exact⟨rfl,_,_,[],⟨rfl,rfl⟩,leafT rfl rfl⟩
 refine str_way (fun e=>?_) (fun e22=>?_)
 ·subst e; exact⟨rfl,_,_,[],⟨rfl,rfl⟩,leafT rfl rfl⟩
 refine str_way (fun e=>?_) (fun e23=>?_)
 ·subst e; exact⟨rfl,_,_,[],⟨rfl,rfl⟩,leafT rfl rfl⟩
 have e0:wantN nmN 23 s=0:=by
  simp only [wantN,nmN,e1,e2,e3,e4,e5,e6,e7,e8,e9,e10,e11,e12,e13,e14,e15,e16,e17,e18,e19,e20,e21,e22,e23,cond_false]
 exact⟨rfl,_,_,[],⟨rfl,rfl⟩,leafT e0 (by simp [opB,e0])⟩
theorem cwh (s:List UInt8) (rest:Glb):SFun prog 84 [.str s] (mkS [] (tab2 rest)) fun l st=>l=.tup [.int .i64 (whW s),.bool (whB s)]∧st=mkS [] (tab2 rest):=by
 refine SFun.mono (SFun.vc (Q:=fun l bb=>l=.tup [.int .i64 (whW s),.bool (whB s)]∧bb=[]) noCx_ok (n:=300) 0 rfl ?_) fun l s' ⟨b0,⟨h1,h2⟩,h3⟩=>⟨h1,by rw [h3,h2]⟩
 rw [whx]
 refine str_way (fun e=>?_) (fun e1=>?_)
 ·subst e; exact⟨rfl,_,_,[],⟨rfl,rfl⟩,leafT rfl rfl⟩
 refine str_way (fun e=>?_) (fun e2=>?_)
 ·subst e; exact⟨rfl,_,_,[],⟨rfl,rfl⟩,leafT rfl rfl⟩
 refine str_way (fun e=>?_) (fun e3=>?_)
 ·subst e; exact⟨rfl,_,_,[],⟨rfl,rfl⟩,leafT rfl rfl⟩
 refine str_way (fun e=>?_) (fun e4=>?_)
 ·subst e; exact⟨rfl,_,_,[],⟨rfl,rfl⟩,leafT rfl rfl⟩
 refine str_way (fun e=>?_) (fun e5=>?_)
 ·subst e; exact⟨rfl,_,_,[],⟨rfl,rfl⟩,leafT rfl rfl⟩
 refine str_way (fun e=>?_) (fun e6=>?_)
 ·subst e; exact⟨rfl,_,_,[],⟨rfl,rfl⟩,leafT rfl rfl⟩
 refine str_way (fun e=>?_) (fun e7=>?_)
 ·subst e; exact⟨rfl,_,_,[],⟨rfl,rfl⟩,leafT rfl rfl⟩
 refine str_way (fun e=>?_) (fun e8=>?_)
 ·subst e; exact⟨rfl,_,_,[],⟨rfl,rfl⟩,leafT rfl rfl⟩
 refine str_way (fun e=>?_) (fun e9=>?_)
 ·subst e; exact⟨rfl,_,_,[],⟨rfl,rfl⟩,leafT rfl rfl⟩
 refine str_way (fun e=>?_) (fun e10=>?_)
 ·subst e; exact⟨rfl,_,_,[],⟨rfl,rfl⟩,leafT rfl rfl⟩
 refine str_way (fun e=>?_) (fun e11=>?_)
 ·subst e; exact⟨rfl,_,_,[],⟨rfl,rfl⟩,leafT rfl rfl⟩
 refine str_way (fun e=>?_) (fun e12=>?_)
 ·subst e; exact⟨rfl,_,_,[],⟨rfl,rfl⟩,leafT rfl rfl⟩
 have e0:wantN clN 12 s=0:=by
  simp only [wantN,clN,e1,e2,e3,e4,e5,e6,e7,e8,e9,e10,e11,e12,cond_false]
 exact⟨rfl,_,_,[],⟨rfl,rfl⟩,leafT e0 (by simp [whB,e0])⟩
def nameG:Gc:=fun args s=>match args,s.g with
 | [.int .i64 op],(g0,F0)::_=>cond (Nat.beq g0 0 && eqbs F0 formsL) (some ([],.str (nameW op),s)) none
 | _,_=>none
theorem nameG_ok:GOk prog 16 nameG:=by
 intro args s bs l s' hg hb hfr
 unfold nameG at hg
 split at hg
 ·rename_i op g0 F0 rest hgl
  cases hc:(Nat.beq g0 0 && eqbs F0 formsL) with
  | false=>rw [hc] at hg; cases hg
  | true =>
    rw [hc] at hg
    simp only [cond_true,Option.some.injEq,Prod.mk.injEq] at hg
    obtain⟨rfl,rfl,rfl⟩:=hg
    simp only [Bool.and_eq_true] at hc
    obtain⟨c1,c2⟩:=hc
    refine SFun.pure2 hfr rfl rfl ?_
    rw [hgl,Nat.eq_of_beq_eq_true c1,eqbs_eq c2]
    exact cname op rest
 ·cases hg
def callG:Gc:=fun args s=>match args,s.g with
 | [.int .i64 op],(g0,F0)::(g1,F1)::_=>cond (Nat.beq g0 0 && eqbs F0 formsL && (Nat.beq g1 2 && eqbs F1 callsL)) (some ([],.str (callW op),s)) none
 | _,_=>none
theorem callG_ok:GOk prog 54 callG:=by
 intro args s bs l s' hg hb hfr
 unfold callG at hg
 split at hg
 ·rename_i op g0 F0 g1 F1 rest hgl
  cases hc:(Nat.beq g0 0 && eqbs F0 formsL && (Nat.beq g1 2 && eqbs F1 callsL)) with
  | false=>rw [hc] at hg; cases hg
  | true =>
    rw [hc] at hg
    simp only [cond_true,Option.some.injEq,Prod.mk.injEq] at hg
    obtain⟨rfl,rfl,rfl⟩:=hg
    simp only [Bool.and_eq_true] at hc
    obtain⟨⟨c1,c2⟩,c3,c4⟩:=hc
    refine SFun.pure2 hfr rfl rfl ?_
    rw [hgl,Nat.eq_of_beq_eq_true c1,eqbs_eq c2,Nat.eq_of_beq_eq_true c3,eqbs_eq c4]
    exact ccall op rest
 ·cases hg
def opG:Gc:=fun args st=>match args,st.g with
 | [.str s],(g0,F0)::_=>cond (Nat.beq g0 0 && eqbs F0 formsL) (some ([],.tup [.int .i64 (opW s),.bool (opB s)],st)) none
 | _,_=>none
theorem opG_ok:GOk prog 70 opG:=by
 intro args s bs l s' hg hb hfr
 unfold opG at hg
 split at hg
 ·rename_i s g0 F0 rest hgl
  cases hc:(Nat.beq g0 0 && eqbs F0 formsL) with
  | false=>rw [hc] at hg; cases hg
  | true =>
    rw [hc] at hg
    simp only [cond_true,Option.some.injEq,Prod.mk.injEq] at hg
    obtain⟨rfl,rfl,rfl⟩:=hg
    simp only [Bool.and_eq_true] at hc
    obtain⟨c1,c2⟩:=hc
    refine SFun.pure2 hfr rfl rfl ?_
    rw [hgl,Nat.eq_of_beq_eq_true c1,eqbs_eq c2]
    exact cop s rest
 ·cases hg
def whichG:Gc:=fun args st=>match args,st.g with
 | [.str s],(g0,F0)::(g1,F1)::_=>cond (Nat.beq g0 0 && eqbs F0 formsL && (Nat.beq g1 2 && eqbs F1 callsL)) (some ([],.tup [.int .i64 (whW s),.bool (whB s)],st)) none
 | _,_=>none
theorem whichG_ok:GOk prog 84 whichG:=by
 intro args s bs l s' hg hb hfr
 unfold whichG at hg
 split at hg
 ·rename_i s g0 F0 g1 F1 rest hgl
  cases hc:(Nat.beq g0 0 && eqbs F0 formsL && (Nat.beq g1 2 && eqbs F1 callsL)) with
  | false=>rw [hc] at hg; cases hg
  | true =>
    rw [hc] at hg
    simp only [cond_true,Option.some.injEq,Prod.mk.injEq] at hg
    obtain⟨rfl,rfl,rfl⟩:=hg
    simp only [Bool.and_eq_true] at hc
    obtain⟨⟨c1,c2⟩,c3,c4⟩:=hc
    refine SFun.pure2 hfr rfl rfl ?_
    rw [hgl,Nat.eq_of_beq_eq_true c1,eqbs_eq c2,Nat.eq_of_beq_eq_true c3,eqbs_eq c4]
    exact cwh s rest
 ·cases hg
end
end Go.Lev
