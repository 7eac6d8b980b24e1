/- text: printable: its tree -/
import Derived.Test.YtnkkkihgljbllaaDoorCQ8
import Derived.Test.YtnkkkihgljbllaaDoorLc
import Derived.Test.YtnkkkihgljbllaaDoorChecked
import Derived.KernelRfl
namespace Go.Lev
set_option linter.unusedSimpArgs false
set_option linter.unusedVariables false
open Go.RowKit
open Go.Proofs.Tryd (prog)
set_option maxRecDepth 100000
noncomputable section
structure InsR where
 op:Int
 a:Int
 b:Int
 c:Int
 n:Int
abbrev insE (x:InsR):List LV:=[.int .i64 x.op,.int .i64 x.a,.int .i64 x.b,.int .i64 x.c,.int .u64 x.n]
theorem insE_len (x:InsR):(insE x).length=5:=rfl
theorem ins_0 {xs:List InsR} {i:Nat} (h:i < xs.length):nthD (encL insE xs) (i * 5)=.int .i64 xs[i].op:=encL_nth insE_len (j:=0) h (by omega)
theorem ins_1 {xs:List InsR} {i:Nat} (h:i < xs.length):nthD (encL insE xs) (i * 5+1)=.int .i64 xs[i].a:=encL_nth insE_len (j:=1) h (by omega)
theorem ins_2 {xs:List InsR} {i:Nat} (h:i < xs.length):nthD (encL insE xs) (i * 5+2)=.int .i64 xs[i].b:=encL_nth insE_len (j:=2) h (by omega)
theorem ins_3 {xs:List InsR} {i:Nat} (h:i < xs.length):nthD (encL insE xs) (i * 5+3)=.int .i64 xs[i].c:=encL_nth insE_len (j:=3) h (by omega)
theorem ins_4 {xs:List InsR} {i:Nat} (h:i < xs.length):nthD (encL insE xs) (i * 5+4)=.int .u64 xs[i].n:=encL_nth insE_len (j:=4) h (by omega)
theorem ins_n (xs:List InsR):(encL insE xs).length=xs.length * 5:=encL_length insE_len xs
theorem ins_noids (xs:List InsR):noIds (encL insE xs)=true:=noIds_encL (fun _=>rfl) xs
def ins_bd (x:InsR):Prop:=(IntKind.i64.min≤x.op∧x.op≤IntKind.i64.max)∧(IntKind.i64.min≤x.a∧x.a≤IntKind.i64.max)∧(IntKind.i64.min≤x.b∧x.b≤IntKind.i64.max)∧(IntKind.i64.min≤x.c∧x.c≤IntKind.i64.max)∧(IntKind.u64.min≤x.n∧x.n≤IntKind.u64.max)
abbrev gtF (F:World→Prop):Glb:=[(0,formsL),(2,callsL),(2,callsL),(1000,[.fact F])]
def decI5:List LV→List InsR
 | .int _ op::.int _ a::.int _ b::.int _ c::.int _ n::r=>⟨op,a,b,c,n⟩::decI5 r
 | _=>[]
theorem decI5_enc:∀ L:List InsR,decI5 (encL insE L)=L
 | []=>rfl
 | x::r=>by
   show decI5 (.int .i64 x.op::.int .i64 x.a::.int .i64 x.b::.int .i64 x.c::.int .u64 x.n::encL insE r)=_
   rw [decI5,decI5_enc r]
def okx (N:Nat) (x:InsR):Prop:=mayW x.op x.a x.b x.c x.n=true∧((x.op=12∨x.op=13)→x.c≤(N:Int))
def okP (L:List InsR):Prop:=L.length≤40∧∀ x∈L,okx L.length x
def prW (cs:List LV):Bool:=@decide (okP (decI5 cs)) (Classical.propDecidable _)
def okI5 (n:Nat) (cs:List LV):Bool:=@decide (∃ L:List InsR,cs=encL insE L∧L.length=n∧∀ x∈L,ins_bd x) (Classical.propDecidable _)
theorem prW_enc (L:List InsR):prW (encL insE L)=true↔okP L:=by simp only [prW,decI5_enc,decide_eq_true_eq]
theorem okI5_iff {n:Nat} {cs:List LV}:okI5 n cs=true↔∃ L:List InsR,cs=encL insE L∧L.length=n∧∀ x∈L,ins_bd x:=by simp only [okI5,decide_eq_true_eq]
def cxR:Cx:=cxl [(38,mayG)]
abbrev prL:List Nat:=[1,2,10,11,12]
abbrev prT (n:Nat) (i:Nat):List (Nat×LV):=[(1,.ptr 1 0),(2,.bool false),(10,.slo 0 0 n 0),(11,.int .i64 n),(12,.int .i64 i)]
abbrev prH (n:Nat) (cs:List LV):List LB:=[.ro cs,.cells [.slo 0 0 n 0] none]
theorem pr_a (n:Nat) (cs:List LV) (K:Pk):(xsp prog cxR 40 33 (seg (sp prog 23) 0 4) (tm0 [.agg [.slo 0 0 n 0]]) (mkS [.ro cs] gt4) (vK prL K))=(
 bif xcm .gtr (↑n) 40 then(
 K .ret [.ptr 1 0,.bool false,.tup [],.tup [],.tup []] [some (.ro cs),sN [.slo 0 0 n 0]] gt4)
 else(
 K .normal [.ptr 1 0,.bool false,.slo 0 0 n 0,.int .i64 ↑n,.int .i64 0] [some (.ro cs),sN [.slo 0 0 n 0]] gt4)):=by kernel_rfl
abbrev pr_l_b1 (n:Nat) (i:Nat) (cs:List LV):List (Option LB):=[some (.ro cs),sN [.slo 0 0 n 0],sN [.int .i64 (asI (nthD cs (xix 0 (xnat ↑i) 5))),.int .i64 (asI (nthD cs (xadd (xix 0 (xnat ↑i) 5) 1))),.int .i64 (asI (nthD cs (xadd (xadd (xix 0 (xnat ↑i) 5) 1) 1))),.int .i64 (asI (nthD cs (xadd (xadd (xadd (xix 0 (xnat ↑i) 5) 1) 1) 1))),.int .u64 (asI (nthD cs (xadd (xadd (xadd (xadd (xix 0 (xnat ↑i) 5) 1) 1) 1) 1)))]]
theorem pr_l (n i:Nat) (cs:List LV) (K:Pk):(xcode prog cxR 40 33 (loopOf (nthC (sp prog 23) 4)) (mkTm 33 (prT n i)) (mkS (prH n cs) gt4) (vK prL K))=(
 bif xcm .lss ↑i ↑n then(
 ck (xle (xadd (xnat ↑i) 1) n) <|
 ck (xle (xadd (xix 0 (xnat ↑i) 5) 5) (xln cs)) <|
 ck (isI .i64 (nthD cs (xix 0 (xnat ↑i) 5))) <|
 ck (isI .i64 (nthD cs (xadd (xix 0 (xnat ↑i) 5) 1))) <|
 ck (isI .i64 (nthD cs (xadd (xadd (xix 0 (xnat ↑i) 5) 1) 1))) <|
 ck (isI .i64 (nthD cs (xadd (xadd (xadd (xix 0 (xnat ↑i) 5) 1) 1) 1))) <|
 ck (isI .u64 (nthD cs (xadd (xadd (xadd (xadd (xix 0 (xnat ↑i) 5) 1) 1) 1) 1))) <|
 bif xnot (mayW (asI (nthD cs (xix 0 (xnat ↑i) 5))) (asI (nthD cs (xadd (xix 0 (xnat ↑i) 5) 1))) (asI (nthD cs (xadd (xadd (xix 0 (xnat ↑i) 5) 1) 1))) (asI (nthD cs (xadd (xadd (xadd (xix 0 (xnat ↑i) 5) 1) 1) 1))) (asI (nthD cs (xadd (xadd (xadd (xadd (xix 0 (xnat ↑i) 5) 1) 1) 1) 1)))) then(
 K .ret [.ptr 1 0,.bool false,.slo 0 0 n 0,.int .i64 ↑n,.int .i64 ↑i] (pr_l_b1 n i cs) gt4)
 else(
 bif xcm .eql (asI (nthD cs (xix 0 (xnat ↑i) 5))) 12 then(
 bif xcm .gtr (asI (nthD cs (xadd (xadd (xadd (xix 0 (xnat ↑i) 5) 1) 1) 1))) ↑n then(
 K .ret [.ptr 1 0,.bool false,.slo 0 0 n 0,.int .i64 ↑n,.int .i64 ↑i] (pr_l_b1 n i cs) gt4)
 else(
 K .normal [.ptr 1 0,.bool false,.slo 0 0 n 0,.int .i64 ↑n,.int .i64 (xar .add .i64 (↑i) 1)] (pr_l_b1 n i cs) gt4))
 else(
 bif xcm .eql (asI (nthD cs (xix 0 (xnat ↑i) 5))) 13 then(
 bif xcm .gtr (asI (nthD cs (xadd (xadd (xadd (xix 0 (xnat ↑i) 5) 1) 1) 1))) ↑n then(
 K .ret [.ptr 1 0,.bool false,.slo 0 0 n 0,.int .i64 ↑n,.int .i64 ↑i] (pr_l_b1 n i cs) gt4)
 else(
 K .normal [.ptr 1 0,.bool false,.slo 0 0 n 0,.int .i64 ↑n,.int .i64 (xar .add .i64 (↑i) 1)] (pr_l_b1 n i cs) gt4))
 else(
 K .normal [.ptr 1 0,.bool false,.slo 0 0 n 0,.int .i64 ↑n,.int .i64 (xar .add .i64 (↑i) 1)] (pr_l_b1 n i cs) gt4))))
 else(
 K (.exit 0) [.ptr 1 0,.bool false,.slo 0 0 n 0,.int .i64 ↑n,.int .i64 ↑i] [some (.ro cs),sN [.slo 0 0 n 0]] gt4)):=by kernel_rfl
theorem pr_z (n:Nat) (cs:List LV) (K:Pk):(xsp prog cxR 40 33 ((sp prog 23).drop 5) (mkTm 33 (prT n n)) (mkS (prH n cs) gt4) (vK prL K))=(
 K .ret [.ptr 1 0,.bool true,.slo 0 0 n 0,.int .i64 ↑n,.int .i64 ↑n] [some (.ro cs),sN [.slo 0 0 n 0]] gt4):=by kernel_rfl
end
end Go.Lev
