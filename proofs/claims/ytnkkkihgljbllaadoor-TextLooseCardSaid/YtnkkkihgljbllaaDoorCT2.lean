/- text: Print of both: their trees -/
import Derived.Test.YtnkkkihgljbllaaDoorCT1
import Derived.Test.YtnkkkihgljbllaaDoorLc
import Derived.Test.YtnkkkihgljbllaaDoorChecked
import Derived.KernelRfl
import Derived.Test.YtnkkkihgljbllaaDoorCZ7
namespace Go.Lev
set_option linter.unusedSimpArgs false
set_option linter.unusedVariables false
open Go.RowKit
open Go.Proofs.Tryd (prog)
set_option maxRecDepth 100000
noncomputable section
instance:Inhabited OP:=⟨⟨0,fun _ _ _ _ _=>True,fun h=>absurd h (by decide),fun h=>absurd h (by decide)⟩⟩
def bdP:OP:=bldP
def isBd2 (F:OP):Bool:=isBd F
def wrS3 (T e:Nat):Gc:=fun args s=>match args with
 | [.ptr b 0,.str t]=>(match s.h.get b with
   | some (.obj F [.str l,.int .i64 (.ofNat T'),.int .i64 (.ofNat e')] γ)=>cond (Nat.beq T' T && Nat.beq e' e) (match s.h.get γ with
     | some .dead=>(match s.put b (.obj F [.str (xscat l t),.int .i64 (.ofNat T),.int .i64 (.ofNat e)] s.n) with
       | some s1=>(match s1.new .dead with
         | some s2=>some ([isBd2 F,xle (xadd (xsln l) (xsln t)) 1000000],.tup [.int .i64 (xsln t:Nat),.nilIface],s2)
         | none=>none)
       | none=>none)
     | _=>none) none
   | _=>none)
 | _=>none
def stS3 (T e:Nat):Gc:=fun args s=>match args with
 | [.ptr b 0]=>(match s.h.get b with
   | some (.obj F [.str l,.int .i64 (.ofNat T'),.int .i64 (.ofNat e')] γ)=>cond (Nat.beq T' T && Nat.beq e' e) (match s.h.get γ with
     | some .dead=>(match s.put b .dead with
       | some s1=>some ([isBd2 F,xle (xsln l) 1000000],.str l,s1)
       | none=>none)
     | _=>none) none
   | _=>none)
 | _=>none
def cxA:Cx:=cxl [(23,prG),(26,lbG),(27,piG),(25,wrS3 63 5),(28,stS3 63 5)]
abbrev paL:List Nat:=[1,2,3,6,13,14,15,27,28,29,50]
abbrev paT (n:Nat) (i:Nat):List (Nat×LV):=[(1,.ptr 1 0),(2,.str []),(3,.ptr 2 0),(13,.slo 0 0 n 0),(14,.int .i64 n),(15,.int .i64 i)]
abbrev paH (n:Nat) (cs nm:List LV):List LB:=[.ro cs,.cells [.slo 0 0 n 0] none,.cells nm none]
abbrev pbL (l:List UInt8):List LV:=[.str l,.int .i64 (.ofNat 63),.int .i64 (.ofNat 5)]
abbrev pbT (n:Nat) (i:Nat):List (Nat×LV):=[(1,.ptr 1 0),(2,.str []),(3,.ptr 2 0),(6,.ptr 3 0),(27,.slo 0 0 n 0),(28,.int .i64 n),(29,.int .i64 i)]
abbrev pbH (n:Nat) (cs nm:List LV) (l:List UInt8):List LB:=[.ro cs,.cells [.slo 0 0 n 0] none,.cells nm none,.obj bdP (pbL l) 4,.dead]
theorem pa_a (n:Nat) (cs:List LV) (K:Pk):(xsp prog cxA 40 58 (seg (sp prog 12) 0 5) (tm0 [.agg [.slo 0 0 n 0]]) (mkS [.ro cs] gt4) (vK paL K))=(
 ck (isFt powF) <|
 ck (okI5 n cs) <|
 bif xnot (prW cs) then(
 K .ret [.ptr 1 0,.str [],.tup [],.tup [],.tup [],.tup [],.tup [],.tup [],.tup [],.tup [],.tup []] [some (.ro cs),sN [.slo 0 0 n 0]] gt4)
 else(
 K .normal [.ptr 1 0,.str [],.ptr 2 0,.tup [],.slo 0 0 n 0,.int .i64 ↑n,.int .i64 0,.tup [],.tup [],.tup [],.tup []] [some (.ro cs),sN [.slo 0 0 n 0],sN [.bool false,.bool false,.bool false,.bool false,.bool false,.bool false,.bool false,.bool false,.bool false,.bool false,.bool false,.bool false,.bool false,.bool false,.bool false,.bool false,.bool false,.bool false,.bool false,.bool false,.bool false,.bool false,.bool false,.bool false,.bool false,.bool false,.bool false,.bool false,.bool false,.bool false,.bool false,.bool false,.bool false,.bool false,.bool false,.bool false,.bool false,.bool false,.bool false,.bool false,.bool false]] gt4)):=by kernel_rfl
abbrev pa_l_b1 (n:Nat) (i:Nat) (cs:List LV) (nm:List LV):List (Option LB):=[some (.ro cs),sN [.slo 0 0 n 0],sN (xlay nm (xix 0 (xnat (asI (nthD cs (xadd (xadd (xadd (xix 0 (xnat ↑i) 5) 1) 1) 1)))) 1) [.bool true]),sN [.int .i64 (asI (nthD cs (xix 0 (xnat ↑i) 5))),.int .i64 (asI (nthD cs (xadd (xix 0 (xnat ↑i) 5) 1))),.int .i64 (asI (nthD cs (xadd (xadd (xix 0 (xnat ↑i) 5) 1) 1))),.int .i64 (asI (nthD cs (xadd (xadd (xadd (xix 0 (xnat ↑i) 5) 1) 1) 1))),.int .u64 (asI (nthD cs (xadd (xadd (xadd (xadd (xix 0 (xnat ↑i) 5) 1) 1) 1) 1)))]]
theorem pa_l (n i:Nat) (cs nm:List LV) (K:Pk):(xcode prog cxA 40 58 (loopOf (nthC (sp prog 12) 5)) (mkTm 58 (paT n i)) (mkS (paH n cs nm) gt4) (vK paL K))=(
 bif xcm .lss ↑i ↑n then(
 ck (xle (xadd (xnat ↑i) 1) n) <|
 ck (xle (xadd (xix 0 (xnat ↑i) 5) 5) (xln cs)) <|
 ck (isI .i64 (nthD cs (xix 0 (xnat ↑i) 5))) <|
 ck (isI .i64 (nthD cs (xadd (xix 0 (xnat ↑i) 5) 1))) <|
 ck (isI .i64 (nthD cs (xadd (xadd (xix 0 (xnat ↑i) 5) 1) 1))) <|
 ck (isI .i64 (nthD cs (xadd (xadd (xadd (xix 0 (xnat ↑i) 5) 1) 1) 1))) <|
 ck (isI .u64 (nthD cs (xadd (xadd (xadd (xadd (xix 0 (xnat ↑i) 5) 1) 1) 1) 1))) <|
 bif xcm .eql (asI (nthD cs (xix 0 (xnat ↑i) 5))) 12 then(
 ck (xnn (asI (nthD cs (xadd (xadd (xadd (xix 0 (xnat ↑i) 5) 1) 1) 1)))) <|
 ck (xle (xadd (xnat (asI (nthD cs (xadd (xadd (xadd (xix 0 (xnat ↑i) 5) 1) 1) 1)))) 1) 41) <|
 ck (xle (xadd (xix 0 (xnat (asI (nthD cs (xadd (xadd (xadd (xix 0 (xnat ↑i) 5) 1) 1) 1)))) 1) 1) (xln nm)) <|
 K .normal [.ptr 1 0,.str [],.ptr 2 0,.any,.slo 0 0 n 0,.int .i64 ↑n,.int .i64 (xar .add .i64 (↑i) 1),.any,.any,.any,.any] (pa_l_b1 n i cs nm) gt4)
 else(
 bif xcm .eql (asI (nthD cs (xix 0 (xnat ↑i) 5))) 13 then(
 ck (xnn (asI (nthD cs (xadd (xadd (xadd (xix 0 (xnat ↑i) 5) 1) 1) 1)))) <|
 ck (xle (xadd (xnat (asI (nthD cs (xadd (xadd (xadd (xix 0 (xnat ↑i) 5) 1) 1) 1)))) 1) 41) <|
 ck (xle (xadd (xix 0 (xnat (asI (nthD cs (xadd (xadd (xadd (xix 0 (xnat ↑i) 5) 1) 1) 1)))) 1) 1) (xln nm)) <|
 K .normal [.ptr 1 0,.str [],.ptr 2 0,.any,.slo 0 0 n 0,.int .i64 ↑n,.int .i64 (xar .add .i64 (↑i) 1),.any,.any,.any,.any] (pa_l_b1 n i cs nm) gt4)
 else(
 K .normal [.ptr 1 0,.str [],.ptr 2 0,.any,.slo 0 0 n 0,.int .i64 ↑n,.int .i64 (xar .add .i64 (↑i) 1),.any,.any,.any,.any] [some (.ro cs),sN [.slo 0 0 n 0],sN nm,sN [.int .i64 (asI (nthD cs (xix 0 (xnat ↑i) 5))),.int .i64 (asI (nthD cs (xadd (xix 0 (xnat ↑i) 5) 1))),.int .i64 (asI (nthD cs (xadd (xadd (xix 0 (xnat ↑i) 5) 1) 1))),.int .i64 (asI (nthD cs (xadd (xadd (xadd (xix 0 (xnat ↑i) 5) 1) 1) 1))),.int .u64 (asI (nthD cs (xadd (xadd (xadd (xadd (xix 0 (xnat ↑i) 5) 1) 1) 1) 1)))]] gt4)))
 else(
 K (.exit 0) [.ptr 1 0,.str [],.ptr 2 0,.any,.slo 0 0 n 0,.int .i64 ↑n,.int .i64 ↑i,.any,.any,.any,.any] [some (.ro cs),sN [.slo 0 0 n 0],sN nm] gt4)):=by kernel_rfl
theorem pb_a (n:Nat) (cs nm:List LV) (K:Pk):(xsp prog cxA 40 58 (seg (sp prog 12) 7 1) (mkTm 58 [(1,.ptr 1 0),(2,.str []),(3,.ptr 2 0),(6,.ptr 3 0)]) (mkS (pbH n cs nm []) gt4) (vK paL K))=(
 K .normal [.ptr 1 0,.str [],.ptr 2 0,.ptr 3 0,.any,.any,.any,.slo 0 0 n 0,.int .i64 ↑n,.int .i64 0,.any] [some (.ro cs),sN [.slo 0 0 n 0],sN nm,some (.obj bdP [.str [],.int .i64 63,.int .i64 5] 4),sD] gt4):=by kernel_rfl
theorem pb_l (n i:Nat) (cs nm:List LV) (l:List UInt8) (K:Pk):(xcode prog cxA 40 58 (loopOf (nthC (sp prog 12) 8)) (mkTm 58 (pbT n i)) (mkS (pbH n cs nm l) gt4) (vK paL K))=(
 bif xcm .lss ↑i ↑n then(
 ck (xle (xadd (xnat ↑i) 1) n) <|
 ck (xle (xadd (xix 0 (xnat ↑i) 5) 5) (xln cs)) <|
 ck (isI .i64 (nthD cs (xix 0 (xnat ↑i) 5))) <|
 ck (isI .i64 (nthD cs (xadd (xix 0 (xnat ↑i) 5) 1))) <|
 ck (isI .i64 (nthD cs (xadd (xadd (xix 0 (xnat ↑i) 5) 1) 1))) <|
 ck (isI .i64 (nthD cs (xadd (xadd (xadd (xix 0 (xnat ↑i) 5) 1) 1) 1))) <|
 ck (isI .u64 (nthD cs (xadd (xadd (xadd (xadd (xix 0 (xnat ↑i) 5) 1) 1) 1) 1))) <|
 ck (xle (xadd (xnat ↑i) 1) 41) <|
 ck (xle (xadd (xix 0 (xnat ↑i) 1) 1) (xln nm)) <|
 ck (isB (nthD nm (xix 0 (xnat ↑i) 1))) <|
 bif asB (nthD nm (xix 0 (xnat ↑i) 1)) then(
 ck (xcm .leq 0 ↑i) <|
 ck (xcm .lss (↑i) 100) <|
 ck (xle (xadd (xsln (108::decW ↑i)) 2) 1000000000) <|
 ck (isBd2 bdP) <|
 ck (xle (xadd (xsln l) (xsln (xscat (108::decW ↑i) [58,32]))) 1000000) <|
 ck (isFt powF) <|
 ck (mayW (asI (nthD cs (xix 0 (xnat ↑i) 5))) (asI (nthD cs (xadd (xix 0 (xnat ↑i) 5) 1))) (asI (nthD cs (xadd (xadd (xix 0 (xnat ↑i) 5) 1) 1))) (asI (nthD cs (xadd (xadd (xadd (xix 0 (xnat ↑i) 5) 1) 1) 1))) (asI (nthD cs (xadd (xadd (xadd (xadd (xix 0 (xnat ↑i) 5) 1) 1) 1) 1)))) <|
 ck (xcm .leq 0 (asI (nthD cs (xadd (xadd (xadd (xadd (xix 0 (xnat ↑i) 5) 1) 1) 1) 1)))) <|
 ck (xcm .leq (asI (nthD cs (xadd (xadd (xadd (xadd (xix 0 (xnat ↑i) 5) 1) 1) 1) 1))) 18446744073709551615) <|
 ck (xle (xadd (xsln (lineW (asI (nthD cs (xix 0 (xnat ↑i) 5))) (asI (nthD cs (xadd (xix 0 (xnat ↑i) 5) 1))) (asI (nthD cs (xadd (xadd (xix 0 (xnat ↑i) 5) 1) 1))) (asI (nthD cs (xadd (xadd (xadd (xix 0 (xnat ↑i) 5) 1) 1) 1))) (asI (nthD cs (xadd (xadd (xadd (xadd (xix 0 (xnat ↑i) 5) 1) 1) 1) 1))))) 1) 1000000000) <|
 ck (isBd2 bdP) <|
 ck (xle (xadd (xsln (xscat l (xscat (108::decW ↑i) [58,32]))) (xsln (xscat (lineW (asI (nthD cs (xix 0 (xnat ↑i) 5))) (asI (nthD cs (xadd (xix 0 (xnat ↑i) 5) 1))) (asI (nthD cs (xadd (xadd (xix 0 (xnat ↑i) 5) 1) 1))) (asI (nthD cs (xadd (xadd (xadd (xix 0 (xnat ↑i) 5) 1) 1) 1))) (asI (nthD cs (xadd (xadd (xadd (xadd (xix 0 (xnat ↑i) 5) 1) 1) 1) 1)))) [10]))) 1000000) <|
 K .normal [.ptr 1 0,.str [],.ptr 2 0,.ptr 3 0,.any,.any,.any,.slo 0 0 n 0,.int .i64 ↑n,.int .i64 (xar .add .i64 (↑i) 1),.any] [some (.ro cs),sN [.slo 0 0 n 0],sN nm,some (.obj bdP [.str (xscat (xscat l (xscat (108::decW ↑i) [58,32])) (xscat (lineW (asI (nthD cs (xix 0 (xnat ↑i) 5))) (asI (nthD cs (xadd (xix 0 (xnat ↑i) 5) 1))) (asI (nthD cs (xadd (xadd (xix 0 (xnat ↑i) 5) 1) 1))) (asI (nthD cs (xadd (xadd (xadd (xix 0 (xnat ↑i) 5) 1) 1) 1))) (asI (nthD cs (xadd (xadd (xadd (xadd (xix 0 (xnat ↑i) 5) 1) 1) 1) 1)))) [10])),.int .i64 63,.int .i64 5] 7),sD,sN [.int .i64 (asI (nthD cs (xix 0 (xnat ↑i) 5))),.int .i64 (asI (nthD cs (xadd (xix 0 (xnat ↑i) 5) 1))),.int .i64 (asI (nthD cs (xadd (xadd (xix 0 (xnat ↑i) 5) 1) 1))),.int .i64 (asI (nthD cs (xadd (xadd (xadd (xix 0 (xnat ↑i) 5) 1) 1) 1))),.int .u64 (asI (nthD cs (xadd (xadd (xadd (xadd (xix 0 (xnat ↑i) 5) 1) 1) 1) 1)))],sD,sD] gt4)
 else(
 ck (isFt powF) <|
 ck (mayW (asI (nthD cs (xix 0 (xnat ↑i) 5))) (asI (nthD cs (xadd (xix 0 (xnat ↑i) 5) 1))) (asI (nthD cs (xadd (xadd (xix 0 (xnat ↑i) 5) 1) 1))) (asI (nthD cs (xadd (xadd (xadd (xix 0 (xnat ↑i) 5) 1) 1) 1))) (asI (nthD cs (xadd (xadd (xadd (xadd (xix 0 (xnat ↑i) 5) 1) 1) 1) 1)))) <|
 ck (xcm .leq 0 (asI (nthD cs (xadd (xadd (xadd (xadd (xix 0 (xnat ↑i) 5) 1) 1) 1) 1)))) <|
 ck (xcm .leq (asI (nthD cs (xadd (xadd (xadd (xadd (xix 0 (xnat ↑i) 5) 1) 1) 1) 1))) 18446744073709551615) <|
 ck (xle (xadd (xsln (lineW (asI (nthD cs (xix 0 (xnat ↑i) 5))) (asI (nthD cs (xadd (xix 0 (xnat ↑i) 5) 1))) (asI (nthD cs (xadd (xadd (xix 0 (xnat ↑i) 5) 1) 1))) (asI (nthD cs (xadd (xadd (xadd (xix 0 (xnat ↑i) 5) 1) 1) 1))) (asI (nthD cs (xadd (xadd (xadd (xadd (xix 0 (xnat ↑i) 5) 1) 1) 1) 1))))) 1) 1000000000) <|
 ck (isBd2 bdP) <|
 ck (xle (xadd (xsln l) (xsln (xscat (lineW (asI (nthD cs (xix 0 (xnat ↑i) 5))) (asI (nthD cs (xadd (xix 0 (xnat ↑i) 5) 1))) (asI (nthD cs (xadd (xadd (xix 0 (xnat ↑i) 5) 1) 1))) (asI (nthD cs (xadd (xadd (xadd (xix 0 (xnat ↑i) 5) 1) 1) 1))) (asI (nthD cs (xadd (xadd (xadd (xadd (xix 0 (xnat ↑i) 5) 1) 1) 1) 1)))) [10]))) 1000000) <|
 K .normal [.ptr 1 0,.str [],.ptr 2 0,.ptr 3 0,.any,.any,.any,.slo 0 0 n 0,.int .i64 ↑n,.int .i64 (xar .add .i64 (↑i) 1),.any] [some (.ro cs),sN [.slo 0 0 n 0],sN nm,some (.obj bdP [.str (xscat l (xscat (lineW (asI (nthD cs (xix 0 (xnat ↑i) 5))) (asI (nthD cs (xadd (xix 0 (xnat ↑i) 5) 1))) (asI (nthD cs (xadd (xadd (xix 0 (xnat ↑i) 5) 1) 1))) (asI (nthD cs (xadd (xadd (xadd (xix 0 (xnat ↑i) 5) 1) 1) 1))) (asI (nthD cs (xadd (xadd (xadd (xadd (xix 0 (xnat ↑i) 5) 1) 1) 1) 1)))) [10])),.int .i64 63,.int .i64 5] 6),sD,sN [.int .i64 (asI (nthD cs (xix 0 (xnat ↑i) 5))),.int .i64 (asI (nthD cs (xadd (xix 0 (xnat ↑i) 5) 1))),.int .i64 (asI (nthD cs (xadd (xadd (xix 0 (xnat ↑i) 5) 1) 1))),.int .i64 (asI (nthD cs (xadd (xadd (xadd (xix 0 (xnat ↑i) 5) 1) 1) 1))),.int .u64 (asI (nthD cs (xadd (xadd (xadd (xadd (xix 0 (xnat ↑i) 5) 1) 1) 1) 1)))],sD] gt4))
 else(
 K (.exit 2) [.ptr 1 0,.str [],.ptr 2 0,.ptr 3 0,.any,.any,.any,.slo 0 0 n 0,.int .i64 ↑n,.int .i64 ↑i,.any] [some (.ro cs),sN [.slo 0 0 n 0],sN nm,some (.obj bdP [.str l,.int .i64 63,.int .i64 5] 4),sD] gt4)):=by kernel_rfl
theorem pb_z (n:Nat) (cs nm:List LV) (l:List UInt8) (K:Pk):(xsp prog cxA 40 58 ((sp prog 12).drop 9) (mkTm 58 (pbT n n)) (mkS (pbH n cs nm l) gt4) (vK paL K))=(
 ck (xle (xadd (xnat ↑n) 1) 41) <|
 ck (xle (xadd (xix 0 (xnat ↑n) 1) 1) (xln nm)) <|
 ck (isB (nthD nm (xix 0 (xnat ↑n) 1))) <|
 bif asB (nthD nm (xix 0 (xnat ↑n) 1)) then(
 ck (xcm .leq 0 ↑n) <|
 ck (xcm .lss (↑n) 100) <|
 ck (xle (xadd (xsln (108::decW ↑n)) 2) 1000000000) <|
 ck (isBd2 bdP) <|
 ck (xle (xadd (xsln l) (xsln (xscat (108::decW ↑n) [58,10]))) 1000000) <|
 ck (isBd2 bdP) <|
 ck (xle (xsln (xscat l (xscat (108::decW ↑n) [58,10]))) 1000000) <|
 K .ret [.ptr 1 0,.str (xscat l (xscat (108::decW ↑n) [58,10])),.ptr 2 0,.ptr 3 0,.any,.any,.any,.slo 0 0 n 0,.int .i64 ↑n,.int .i64 ↑n,.bool (asB (nthD nm (xix 0 (xnat ↑n) 1)))] [some (.ro cs),sN [.slo 0 0 n 0],sN nm,sD,sD,sD] gt4)
 else(
 ck (isBd2 bdP) <|
 ck (xle (xsln l) 1000000) <|
 K .ret [.ptr 1 0,.str l,.ptr 2 0,.ptr 3 0,.any,.any,.any,.slo 0 0 n 0,.int .i64 ↑n,.int .i64 ↑n,.bool (asB (nthD nm (xix 0 (xnat ↑n) 1)))] [some (.ro cs),sN [.slo 0 0 n 0],sN nm,sD,sD] gt4)):=by kernel_rfl
end
end Go.Lev
