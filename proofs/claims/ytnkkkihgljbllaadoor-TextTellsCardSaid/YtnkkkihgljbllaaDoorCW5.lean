/- chapter 14: names of instructions and calls (code) -/
import Derived.Test.YtnkkkihgljbllaaDoorCW1
import Derived.Test.YtnkkkihgljbllaaDoorLc
import Derived.Test.YtnkkkihgljbllaaDoorChecked
import Derived.KernelRfl
import Derived.Test.YtnkkkihgljbllaaDoorLc
import Derived.Test.YtnkkkihgljbllaaDoorLc
import Derived.Test.YtnkkkihgljbllaaDoorRows
namespace Go.Lev
set_option linter.unusedSimpArgs false
set_option linter.unusedVariables false
open Go.RowKit
open Go.Proofs.Tryd (prog)
set_option maxRecDepth 100000
noncomputable section
def a2n:List LV:=c4y Go.Proofs.YtnkkkihgljbllaaDoor.Rows.laid_quietus_code_calls
abbrev a1x (rest:Glb):Glb:=a0l ((2,a2n)::rest)
def nmN:Nat→List UInt8
 | 1=>[115,101,116]
 | 2=>[109,111,118,101]
 | 3=>[97,100,100]
 | 4=>[115,117,98]
 | 5=>[109,117,108]
 | 6=>[108,101,115,115]
 | 7=>[101,113,117,97,108]
 | 8=>[108,111,97,100]
 | 9=>[115,116,111,114,101]
 | 10=>[97,108,108,111,99]
 | 11=>[102,114,101,101]
 | 12=>[106,117,109,112]
 | 13=>[122,101,114,111]
 | 14=>[111,112,101,110]
 | 15=>[99,108,111,115,101]
 | 16=>[117,110,100,111]
 | 17=>[101,105,116,104,101,114]
 | 18=>[111,114]
 | 19=>[100,111,110,101]
 | 20=>[114,101,116,114,121]
 | 21=>[101,109,105,116]
 | 22=>[102,97,105,108]
 | 23=>[99,97,108,108]
 | _=>[]
def clN:Nat→List UInt8
 | 1=>[108,105,115,116,46,97,100,100]
 | 2=>[108,105,115,116,46,99,117,116]
 | 3=>[108,105,115,116,46,104,97,115]
 | 4=>[116,97,98,108,101,46,112,117,116]
 | 5=>[116,97,98,108,101,46,103,101,116]
 | 6=>[116,97,98,108,101,46,100,101,108]
 | 7=>[113,117,101,117,101,46,112,117,115,104]
 | 8=>[113,117,101,117,101,46,116,97,107,101]
 | 9=>[116,114,101,101,46,115,101,116]
 | 10=>[116,114,101,101,46,102,105,110,100]
 | 11=>[116,114,101,101,46,101,114,97,115,101]
 | 12=>[116,114,101,101,46,99,111,117,110,116]
 | _=>[]
def a5a (f:Nat→List UInt8):Nat→List UInt8→Int
 | 0,_=>0
 | k+1,s=>bif f (k+1) == s then((k+1:Nat):Int) else a5a f k s
def a4u (op:Int):List UInt8:=nmN op.toNat
def opW (s:List UInt8):Int:=a5a nmN 23 s
def whW (s:List UInt8):Int:=a5a clN 12 s
def opB (s:List UInt8):Bool:=decide (a5a nmN 23 s≠0)
def whB (s:List UInt8):Bool:=decide (a5a clN 12 s≠0)
theorem a2b {l s:List UInt8} {A B:Prop} (h1:s=l→A) (h2:(l == s)=false→B):cond (a3h .eql l s) A B:=by
 cases h:l == s with
 | true=>rw [show a3h .eql l s=true from h]; exact h1 (eq_of_beq h).symm
 | false=>rw [show a3h .eql l s=false from h]; exact h2 h
theorem a3v {x y:Int} {p q:Bool} {bs:List (Option LB)} (h:y=x) (h':q=p):a4f 0 1 [0] [.tup [.int .i64 x,.bool p]] bs [] [(0,.tup [.int .i64 y,.bool q])] []:=by subst h; subst h'; (exact zC)
theorem opx (s:List UInt8) (rest:Glb) (K:Fk):(a4w prog (fun _=>none) 300 70 [.str s] (mkS [] (a0l rest)) (vF K))=(
 bif a3h .eql [115,101,116] s then(
 K (.tup [.int .i64 1,.bool true]) [] (a0l rest))
 else(
 bif a3h .eql [109,111,118,101] s then(
 K (.tup [.int .i64 2,.bool true]) [] (a0l rest))
 else(
 bif a3h .eql [97,100,100] s then(
 K (.tup [.int .i64 3,.bool true]) [] (a0l rest))
 else(
 bif a3h .eql [115,117,98] s then(
 K (.tup [.int .i64 4,.bool true]) [] (a0l rest))
 else(
 bif a3h .eql [109,117,108] s then(
 K (.tup [.int .i64 5,.bool true]) [] (a0l rest))
 else(
 bif a3h .eql [108,101,115,115] s then(
 K (.tup [.int .i64 6,.bool true]) [] (a0l rest))
 else(
 bif a3h .eql [101,113,117,97,108] s then(
 K (.tup [.int .i64 7,.bool true]) [] (a0l rest))
 else(
 bif a3h .eql [108,111,97,100] s then(
 K (.tup [.int .i64 8,.bool true]) [] (a0l rest))
 else(
 bif a3h .eql [115,116,111,114,101] s then(
 K (.tup [.int .i64 9,.bool true]) [] (a0l rest))
 else(
 bif a3h .eql [97,108,108,111,99] s then(
 K (.tup [.int .i64 10,.bool true]) [] (a0l rest))
 else(
 bif a3h .eql [102,114,101,101] s then(
 K (.tup [.int .i64 11,.bool true]) [] (a0l rest))
 else(
 bif a3h .eql [106,117,109,112] s then(
 K (.tup [.int .i64 12,.bool true]) [] (a0l rest))
 else(
 bif a3h .eql [122,101,114,111] s then(
 K (.tup [.int .i64 13,.bool true]) [] (a0l rest))
 else(
 bif a3h .eql [111,112,101,110] s then(
 K (.tup [.int .i64 14,.bool true]) [] (a0l rest))
 else(
 bif a3h .eql [99,108,111,115,101] s then(
 K (.tup [.int .i64 15,.bool true]) [] (a0l rest))
 else(
 bif a3h .eql [117,110,100,111] s then(
 K (.tup [.int .i64 16,.bool true]) [] (a0l rest))
 else(
 bif a3h .eql [101,105,116,104,101,114] s then(
 K (.tup [.int .i64 17,.bool true]) [] (a0l rest))
 else(
 bif a3h .eql [111,114] s then(
 K (.tup [.int .i64 18,.bool true]) [] (a0l rest))
 else(
 bif a3h .eql [100,111,110,101] s then(
 K (.tup [.int .i64 19,.bool true]) [] (a0l rest))
 else(
 bif a3h .eql [114,101,116,114,121] s then(
 K (.tup [.int .i64 20,.bool true]) [] (a0l rest))
 else(
 bif a3h .eql [101,109,105,116] s then(
 K (.tup [.int .i64 21,.bool true]) [] (a0l rest))
 else(
 bif a3h .eql [102,97,105,108] s then(
 K (.tup [.int .i64 22,.bool true]) [] (a0l rest))
 else(
 bif a3h .eql [99,97,108,108] s then(
 K (.tup [.int .i64 23,.bool true]) [] (a0l rest))
 else(
 K (.tup [.int .i64 0,.bool false]) [] (a0l rest))))))))))))))))))))))))):=by kernel_rfl
theorem whx (s:List UInt8) (rest:Glb) (K:Fk):(a4w prog (fun _=>none) 300 84 [.str s] (mkS [] (a1x rest)) (vF K))=(
 bif a3h .eql [108,105,115,116,46,97,100,100] s then(
 K (.tup [.int .i64 1,.bool true]) [] (a1x rest))
 else(
 bif a3h .eql [108,105,115,116,46,99,117,116] s then(
 K (.tup [.int .i64 2,.bool true]) [] (a1x rest))
 else(
 bif a3h .eql [108,105,115,116,46,104,97,115] s then(
 K (.tup [.int .i64 3,.bool true]) [] (a1x rest))
 else(
 bif a3h .eql [116,97,98,108,101,46,112,117,116] s then(
 K (.tup [.int .i64 4,.bool true]) [] (a1x rest))
 else(
 bif a3h .eql [116,97,98,108,101,46,103,101,116] s then(
 K (.tup [.int .i64 5,.bool true]) [] (a1x rest))
 else(
 bif a3h .eql [116,97,98,108,101,46,100,101,108] s then(
 K (.tup [.int .i64 6,.bool true]) [] (a1x rest))
 else(
 bif a3h .eql [113,117,101,117,101,46,112,117,115,104] s then(
 K (.tup [.int .i64 7,.bool true]) [] (a1x rest))
 else(
 bif a3h .eql [113,117,101,117,101,46,116,97,107,101] s then(
 K (.tup [.int .i64 8,.bool true]) [] (a1x rest))
 else(
 bif a3h .eql [116,114,101,101,46,115,101,116] s then(
 K (.tup [.int .i64 9,.bool true]) [] (a1x rest))
 else(
 bif a3h .eql [116,114,101,101,46,102,105,110,100] s then(
 K (.tup [.int .i64 10,.bool true]) [] (a1x rest))
 else(
 bif a3h .eql [116,114,101,101,46,101,114,97,115,101] s then(
 K (.tup [.int .i64 11,.bool true]) [] (a1x rest))
 else(
 bif a3h .eql [116,114,101,101,46,99,111,117,110,116] s then(
 K (.tup [.int .i64 12,.bool true]) [] (a1x rest))
 else(
 K (.tup [.int .i64 0,.bool false]) [] (a1x rest)))))))))))))):=by kernel_rfl
theorem cop (s:List UInt8) (rest:Glb):a0k prog 70 [.str s] (mkS [] (a0l rest)) fun l st=>l=.tup [.int .i64 (opW s),.bool (opB s)]∧st=mkS [] (a0l rest):=by
 refine a0k.mono (a0k.vc (Q:=fun l bb=>l=.tup [.int .i64 (opW s),.bool (opB s)]∧bb=[]) a0j (n:=300) 0 rfl ?_) fun l s' ⟨b0,⟨h1,h2⟩,h3⟩=>⟨h1,by rw [h3,h2]⟩
 rw [opx]
 refine a2b (fun e=>?_) (fun e1=>?_)
 ·subst e; exact⟨rfl,_,_,[],⟨rfl,rfl⟩,a3v rfl rfl⟩
 refine a2b (fun e=>?_) (fun e2=>?_)
 ·subst e; exact⟨rfl,_,_,[],⟨rfl,rfl⟩,a3v rfl rfl⟩
 refine a2b (fun e=>?_) (fun e3=>?_)
 ·subst e; exact⟨rfl,_,_,[],⟨rfl,rfl⟩,a3v rfl rfl⟩
 refine a2b (fun e=>?_) (fun e4=>?_)
 ·subst e; exact⟨rfl,_,_,[],⟨rfl,rfl⟩,a3v rfl rfl⟩
 refine a2b (fun e=>?_) (fun e5=>?_)
 ·subst e; exact⟨rfl,_,_,[],⟨rfl,rfl⟩,a3v rfl rfl⟩
 refine a2b (fun e=>?_) (fun e6=>?_)
 ·subst e; exact⟨rfl,_,_,[],⟨rfl,rfl⟩,a3v rfl rfl⟩
 refine a2b (fun e=>?_) (fun e7=>?_)
 ·subst e; exact⟨rfl,_,_,[],⟨rfl,rfl⟩,a3v rfl rfl⟩
 refine a2b (fun e=>?_) (fun e8=>?_)
 ·subst e; exact⟨rfl,_,_,[],⟨rfl,rfl⟩,a3v rfl rfl⟩
 refine a2b (fun e=>?_) (fun e9=>?_)
 ·subst e; exact⟨rfl,_,_,[],⟨rfl,rfl⟩,a3v rfl rfl⟩
 refine a2b (fun e=>?_) (fun e10=>?_)
 ·subst e; exact⟨rfl,_,_,[],⟨rfl,rfl⟩,a3v rfl rfl⟩
 refine a2b (fun e=>?_) (fun e11=>?_)
 ·subst e; exact⟨rfl,_,_,[],⟨rfl,rfl⟩,a3v rfl rfl⟩
 refine a2b (fun e=>?_) (fun e12=>?_)
 ·subst e; exact⟨rfl,_,_,[],⟨rfl,rfl⟩,a3v rfl rfl⟩
 refine a2b (fun e=>?_) (fun e13=>?_)
 ·subst e; exact⟨rfl,_,_,[],⟨rfl,rfl⟩,a3v rfl rfl⟩
 refine a2b (fun e=>?_) (fun e14=>?_)
 ·subst e; exact⟨rfl,_,_,[],⟨rfl,rfl⟩,a3v rfl rfl⟩
 refine a2b (fun e=>?_) (fun e15=>?_)
 ·subst e; exact⟨rfl,_,_,[],⟨rfl,rfl⟩,a3v rfl rfl⟩
 refine a2b (fun e=>?_) (fun e16=>?_)
 ·subst e; exact⟨rfl,_,_,[],⟨rfl,rfl⟩,a3v rfl rfl⟩
 refine a2b (fun e=>?_) (fun e17=>?_)
 ·subst e; exact⟨rfl,_,_,[],⟨rfl,rfl⟩,a3v rfl rfl⟩
 refine a2b (fun e=>?_) (fun e18=>?_)
 ·subst e; exact⟨rfl,_,_,[],⟨rfl,rfl⟩,a3v rfl rfl⟩
 refine a2b (fun e=>?_) (fun e19=>?_)
 ·subst e; exact⟨rfl,_,_,[],⟨rfl,rfl⟩,a3v rfl rfl⟩
 refine a2b (fun e=>?_) (fun e20=>?_)
 ·subst e; exact⟨rfl,_,_,[],⟨rfl,rfl⟩,a3v rfl rfl⟩
 refine a2b (fun e=>?_) (fun e21=>?_)
 ·subst e; exact⟨rfl,_,_,[],⟨rfl,rfl⟩,a3v rfl rfl⟩
 refine a2b (fun e=>?_) (fun e22=>?_)
 ·subst e; exact⟨rfl,_,_,[],⟨rfl,rfl⟩,a3v rfl rfl⟩
 refine a2b (fun e=>?_) (fun e23=>?_)
 ·subst e; exact⟨rfl,_,_,[],⟨rfl,rfl⟩,a3v rfl rfl⟩
 have e0:a5a nmN 23 s=0:=by
  simp only [a5a,nmN,e1,e2,e3,e4,e5,e6,e7,e8,e9,e10,e11,e12,e13,e14,e15,e16,e17,e18,e19,e20,e21,e22,e23,cond_false]
 exact⟨rfl,_,_,[],⟨rfl,rfl⟩,a3v e0 (by simp [opB,e0])⟩
theorem cwh (s:List UInt8) (rest:Glb):a0k prog 84 [.str s] (mkS [] (a1x rest)) fun l st=>l=.tup [.int .i64 (whW s),.bool (whB s)]∧st=mkS [] (a1x rest):=by
 refine a0k.mono (a0k.vc (Q:=fun l bb=>l=.tup [.int .i64 (whW s),.bool (whB s)]∧bb=[]) a0j (n:=300) 0 rfl ?_) fun l s' ⟨b0,⟨h1,h2⟩,h3⟩=>⟨h1,by rw [h3,h2]⟩
 rw [whx]
 refine a2b (fun e=>?_) (fun e1=>?_)
 ·subst e; exact⟨rfl,_,_,[],⟨rfl,rfl⟩,a3v rfl rfl⟩
 refine a2b (fun e=>?_) (fun e2=>?_)
 ·subst e; exact⟨rfl,_,_,[],⟨rfl,rfl⟩,a3v rfl rfl⟩
 refine a2b (fun e=>?_) (fun e3=>?_)
 ·subst e; exact⟨rfl,_,_,[],⟨rfl,rfl⟩,a3v rfl rfl⟩
 refine a2b (fun e=>?_) (fun e4=>?_)
 ·subst e; exact⟨rfl,_,_,[],⟨rfl,rfl⟩,a3v rfl rfl⟩
 refine a2b (fun e=>?_) (fun e5=>?_)
 ·subst e; exact⟨rfl,_,_,[],⟨rfl,rfl⟩,a3v rfl rfl⟩
 refine a2b (fun e=>?_) (fun e6=>?_)
 ·subst e; exact⟨rfl,_,_,[],⟨rfl,rfl⟩,a3v rfl rfl⟩
 refine a2b (fun e=>?_) (fun e7=>?_)
 ·subst e; exact⟨rfl,_,_,[],⟨rfl,rfl⟩,a3v rfl rfl⟩
 refine a2b (fun e=>?_) (fun e8=>?_)
 ·subst e; exact⟨rfl,_,_,[],⟨rfl,rfl⟩,a3v rfl rfl⟩
 refine a2b (fun e=>?_) (fun e9=>?_)
 ·subst e; exact⟨rfl,_,_,[],⟨rfl,rfl⟩,a3v rfl rfl⟩
 refine a2b (fun e=>?_) (fun e10=>?_)
 ·subst e; exact⟨rfl,_,_,[],⟨rfl,rfl⟩,a3v rfl rfl⟩
 refine a2b (fun e=>?_) (fun e11=>?_)
 ·subst e; exact⟨rfl,_,_,[],⟨rfl,rfl⟩,a3v rfl rfl⟩
 refine a2b (fun e=>?_) (fun e12=>?_)
 ·subst e; exact⟨rfl,_,_,[],⟨rfl,rfl⟩,a3v rfl rfl⟩
 have e0:a5a clN 12 s=0:=by
  simp only [a5a,clN,e1,e2,e3,e4,e5,e6,e7,e8,e9,e10,e11,e12,cond_false]
 exact⟨rfl,_,_,[],⟨rfl,rfl⟩,a3v e0 (by simp [whB,e0])⟩
def opG:Gc:=fun args st=>match args,st.g with
 | [.str s],(g0,F0)::_=>cond (Nat.beq g0 0 && a2x F0 a2h) (some ([],.tup [.int .i64 (opW s),.bool (opB s)],st)) none
 | _,_=>none
theorem f3g:GOk prog 70 opG:=by
 intro args s bs l s' hg hb hfr
 unfold opG at hg
 split at hg
 ·rename_i s g0 F0 rest hgl
  cases hc:(Nat.beq g0 0 && a2x F0 a2h) with
  | false=>rw [hc] at hg; cases hg
  | true =>
    rw [hc] at hg
    simp only [cond_true,Option.some.injEq,Prod.mk.injEq] at hg
    obtain⟨rfl,rfl,rfl⟩:=hg
    simp only [Bool.and_eq_true] at hc
    obtain⟨c1,c2⟩:=hc
    refine a0k.h0b hfr rfl rfl ?_
    rw [hgl,Nat.eq_of_beq_eq_true c1,a1f c2]
    exact cop s rest
 ·cases hg
def c9n:Gc:=fun args st=>match args,st.g with
 | [.str s],(g0,F0)::(g1,F1)::_=>cond (Nat.beq g0 0 && a2x F0 a2h && (Nat.beq g1 2 && a2x F1 a2n)) (some ([],.tup [.int .i64 (whW s),.bool (whB s)],st)) none
 | _,_=>none
theorem c9m:GOk prog 84 c9n:=by
 intro args s bs l s' hg hb hfr
 unfold c9n at hg
 split at hg
 ·rename_i s g0 F0 g1 F1 rest hgl
  cases hc:(Nat.beq g0 0 && a2x F0 a2h && (Nat.beq g1 2 && a2x F1 a2n)) with
  | false=>rw [hc] at hg; cases hg
  | true =>
    rw [hc] at hg
    simp only [cond_true,Option.some.injEq,Prod.mk.injEq] at hg
    obtain⟨rfl,rfl,rfl⟩:=hg
    simp only [Bool.and_eq_true] at hc
    obtain⟨⟨c1,c2⟩,c3,c4⟩:=hc
    refine a0k.h0b hfr rfl rfl ?_
    rw [hgl,Nat.eq_of_beq_eq_true c1,a1f c2,Nat.eq_of_beq_eq_true c3,a1f c4]
    exact cwh s rest
 ·cases hg
end
end Go.Lev
