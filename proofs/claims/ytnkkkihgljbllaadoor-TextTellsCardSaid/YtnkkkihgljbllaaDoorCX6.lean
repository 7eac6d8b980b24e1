/- text: the reference's field: its trees -/
import Derived.Test.YtnkkkihgljbllaaDoorCQ4
import Derived.Test.YtnkkkihgljbllaaDoorCX5
import Derived.Test.YtnkkkihgljbllaaDoorCX3
import Derived.Test.YtnkkkihgljbllaaDoorLc
import Derived.Test.YtnkkkihgljbllaaDoorChecked
import Derived.KernelRfl
namespace Go.Lev
set_option linter.unusedSimpArgs false
set_option linter.unusedVariables false
open Go.RowKit
open Go.Proofs.Tryd (prog)
set_option maxRecDepth 100000
noncomputable section
abbrev fiL:List Nat:=[1,4,6,7,8,9,12,13,14,71,91]
def b1r:Cx:=cxl [(63,b1a xuG)]
abbrev inV (op a b c n:Int):LV:=.agg [.int .i64 op,.int .i64 a,.int .i64 b,.int .i64 c,.int .u64 n]
abbrev roV (nm:List UInt8) (A B C:Int) (N:Bool):LV:=.agg [.str nm,.int .i64 A,.int .i64 B,.int .i64 C,.bool N]
abbrev rwV (s:List UInt8) (ln cl:Int) (bd:Bool):LV:=.agg [.str s,.int .i64 ln,.int .i64 cl,.bool bd]
abbrev fiH (op a b c n:Int) (nm:List UInt8) (A B C:Int) (N:Bool) (s:List UInt8) (ln cl:Int) (bd:Bool):List LB:=[.cells [.int .i64 op,.int .i64 a,.int .i64 b,.int .i64 c,.int .u64 n] none,.cells [.str nm,.int .i64 A,.int .i64 B,.int .i64 C,.bool N] none,.cells [.str s,.int .i64 ln,.int .i64 cl,.bool bd] none,.cells [.int .i64 0,.int .i64 0,.int .i64 0,.int .i64 0,.int .u64 0] none]
abbrev fiT (k A v:Int):List (Nat×LV):=[(1,.int .i64 k),(4,.ptr 0 0),(6,.ptr 1 0),(7,.ptr 2 0),(8,.ptr 3 0),(9,.bool false),(12,.int .i64 A),(13,.int .i64 v)]
abbrev d9j (k A:Int) (q:Bool):List (Nat×LV):=[(1,.int .i64 k),(4,.ptr 0 0),(6,.ptr 1 0),(7,.ptr 2 0),(8,.ptr 3 0),(9,.bool false),(12,.int .i64 A),(13,.int .i64 (-1)),(71,.bool q)]
abbrev d9i (k A:Int) (q:Bool):List (Nat×LV):=[(1,.int .i64 k),(4,.ptr 0 0),(6,.ptr 1 0),(7,.ptr 2 0),(8,.ptr 3 0),(9,.bool false),(12,.int .i64 A),(13,.int .i64 (-1)),(91,.bool q)]
abbrev b2s (A v:Int) (k:Nat):List (Nat×LV):=[(1,.int .i64 0),(4,.ptr 0 0),(6,.ptr 1 0),(7,.ptr 2 0),(8,.ptr 3 0),(9,.bool false),(12,.int .i64 A),(13,.int .i64 v),(14,.int .i64 k)]
abbrev fiB:List Code:=a3l (b9t (a4i (sp prog 49) 7))
abbrev fiC:List Code:=a3l (c2r (a4i fiB 1))
abbrev fiE:List Code:=a3l (c2s (a4i fiB 1))
theorem a4e:a3w prog (a2z b1r):=a6i ⟨a4j f1e,trivial⟩
theorem g0v (op a b c n:Int) (nm:List UInt8) (A B C:Int) (N:Bool) (s:List UInt8) (ln cl:Int) (bd:Bool) (K:Pk):(xsp prog b1r 60 139 (seg (sp prog 49) 0 7) (tm0 [inV op a b c n,.int .i64 0,roV nm A B C N,rwV s ln cl bd]) (mkS [] gt4) (vK fiL K))=(
 bif bd then(
 K .ret [.int .i64 0,.ptr 0 0,.ptr 1 0,.ptr 2 0,.ptr 3 0,.bool false,.tup [],.tup [],.tup [],.tup [],.tup []] [sN [.int .i64 op,.int .i64 a,.int .i64 b,.int .i64 c,.int .u64 n],sN [.str nm,.int .i64 A,.int .i64 B,.int .i64 C,.bool N],sN [.str s,.int .i64 ln,.int .i64 cl,.bool bd],sN [.int .i64 op,.int .i64 a,.int .i64 b,.int .i64 c,.int .u64 n]] gt4)
 else(
 K .normal [.int .i64 0,.ptr 0 0,.ptr 1 0,.ptr 2 0,.ptr 3 0,.bool false,.int .i64 A,.int .i64 (-1),.tup [],.tup [],.tup []] [sN [.int .i64 op,.int .i64 a,.int .i64 b,.int .i64 c,.int .u64 n],sN [.str nm,.int .i64 A,.int .i64 B,.int .i64 C,.bool N],sN [.str s,.int .i64 ln,.int .i64 cl,.bool bd],sN [.int .i64 0,.int .i64 0,.int .i64 0,.int .i64 0,.int .u64 0]] gt4)):=by kernel_rfl
theorem f9z (op a b c n:Int) (nm:List UInt8) (A B C:Int) (N:Bool) (s:List UInt8) (ln cl:Int) (bd:Bool) (M v:Int) (K:Pk):(xsp prog b1r 60 139 ((sp prog 49).drop 8) (a1p 139 (fiT 0 M v)) (mkS (fiH op a b c n nm A B C N s ln cl bd) gt4) (vK fiL K))=(
 bif xcm .lss v 0 then(
 K .ret [.int .i64 0,.ptr 0 0,.ptr 1 0,.ptr 2 0,.ptr 3 0,.bool false,.int .i64 M,.int .i64 v,.any,.any,.any] [sN [.int .i64 op,.int .i64 a,.int .i64 b,.int .i64 c,.int .u64 n],sN [.str nm,.int .i64 A,.int .i64 B,.int .i64 C,.bool N],sN [.str s,.int .i64 ln,.int .i64 cl,.bool bd],sN [.int .i64 op,.int .i64 a,.int .i64 b,.int .i64 c,.int .u64 n]] gt4)
 else(
 K .ret [.int .i64 0,.ptr 0 0,.ptr 1 0,.ptr 2 0,.ptr 3 0,.bool true,.int .i64 M,.int .i64 v,.any,.any,.any] [sN [.int .i64 op,.int .i64 v,.int .i64 b,.int .i64 c,.int .u64 n],sN [.str nm,.int .i64 A,.int .i64 B,.int .i64 C,.bool N],sN [.str s,.int .i64 ln,.int .i64 cl,.bool bd],sN [.int .i64 op,.int .i64 v,.int .i64 b,.int .i64 c,.int .u64 n]] gt4)):=by kernel_rfl
abbrev c6z (op:Int) (a:Int) (b:Int) (c:Int) (n:Int) (nm:List UInt8) (A:Int) (B:Int) (C:Int) (N:Bool) (s:List UInt8) (ln:Int) (cl:Int) (bd:Bool):List (Option LB):=[sN [.int .i64 op,.int .i64 a,.int .i64 b,.int .i64 c,.int .u64 n],sN [.str nm,.int .i64 A,.int .i64 B,.int .i64 C,.bool N],sN [.str s,.int .i64 ln,.int .i64 cl,.bool bd],sN [.int .i64 0,.int .i64 0,.int .i64 0,.int .i64 0,.int .u64 0]]
theorem g0s (op a b c n:Int) (nm:List UInt8) (A B C:Int) (N:Bool) (s:List UInt8) (ln cl:Int) (bd:Bool) (M:Int) (K:Pk):(xsp prog b1r 60 139 (seg fiB 0 1) (a1p 139 (fiT 0 M (-1))) (mkS (fiH op a b c n nm A B C N s ln cl bd) gt4) (vK fiL K))=(
 bif xcm .eql op 23 then(
 K .normal [.int .i64 0,.ptr 0 0,.ptr 1 0,.ptr 2 0,.ptr 3 0,.bool false,.int .i64 M,.int .i64 (-1),.any,.bool true,.any] (c6z op a b c n nm A B C N s ln cl bd) gt4)
 else(
 K .normal [.int .i64 0,.ptr 0 0,.ptr 1 0,.ptr 2 0,.ptr 3 0,.bool false,.int .i64 M,.int .i64 (-1),.any,.bool false,.any] (c6z op a b c n nm A B C N s ln cl bd) gt4)):=by kernel_rfl
abbrev b0m (op:Int) (a:Int) (b:Int) (c:Int) (n:Int) (nm:List UInt8) (A:Int) (B:Int) (C:Int) (N:Bool) (s:List UInt8) (ln:Int) (cl:Int) (bd:Bool):List (Option LB):=[sN [.int .i64 op,.int .i64 a,.int .i64 b,.int .i64 c,.int .u64 n],sN [.str nm,.int .i64 A,.int .i64 B,.int .i64 C,.bool N],sN [.str s,.int .i64 ln,.int .i64 cl,.bool bd],sN [.int .i64 0,.int .i64 0,.int .i64 0,.int .i64 0,.int .u64 0]]
theorem g0g (op a b c n:Int) (nm:List UInt8) (A B C:Int) (N:Bool) (s:List UInt8) (ln cl:Int) (bd:Bool) (M:Int) (K:Pk):(xsp prog b1r 60 139 (seg fiE 0 1) (a1p 139 (d9j 0 M false)) (mkS (fiH op a b c n nm A B C N s ln cl bd) gt4) (vK fiL K))=(
 bif xcm .eql op 8 then(
 bif xcm .eql op 23 then(
 K .normal [.int .i64 0,.ptr 0 0,.ptr 1 0,.ptr 2 0,.ptr 3 0,.bool false,.int .i64 M,.int .i64 (-1),.any,.bool false,.bool false] (b0m op a b c n nm A B C N s ln cl bd) gt4)
 else(
 K .normal [.int .i64 0,.ptr 0 0,.ptr 1 0,.ptr 2 0,.ptr 3 0,.bool false,.int .i64 M,.int .i64 (-1),.any,.bool false,.bool false] (b0m op a b c n nm A B C N s ln cl bd) gt4))
 else(
 bif xcm .eql op 9 then(
 bif xcm .eql op 23 then(
 K .normal [.int .i64 0,.ptr 0 0,.ptr 1 0,.ptr 2 0,.ptr 3 0,.bool false,.int .i64 M,.int .i64 (-1),.any,.bool false,.bool false] (b0m op a b c n nm A B C N s ln cl bd) gt4)
 else(
 K .normal [.int .i64 0,.ptr 0 0,.ptr 1 0,.ptr 2 0,.ptr 3 0,.bool false,.int .i64 M,.int .i64 (-1),.any,.bool false,.bool false] (b0m op a b c n nm A B C N s ln cl bd) gt4))
 else(
 bif xcm .eql op 23 then(
 K .normal [.int .i64 0,.ptr 0 0,.ptr 1 0,.ptr 2 0,.ptr 3 0,.bool false,.int .i64 M,.int .i64 (-1),.any,.bool false,.bool false] (b0m op a b c n nm A B C N s ln cl bd) gt4)
 else(
 K .normal [.int .i64 0,.ptr 0 0,.ptr 1 0,.ptr 2 0,.ptr 3 0,.bool false,.int .i64 M,.int .i64 (-1),.any,.bool false,.bool false] (b0m op a b c n nm A B C N s ln cl bd) gt4)))):=by kernel_rfl
theorem g0u (op a b c n:Int) (nm:List UInt8) (A B C:Int) (N:Bool) (s:List UInt8) (ln cl:Int) (bd:Bool) (K:Pk):(xsp prog b1r 60 139 (seg (sp prog 49) 0 7) (tm0 [inV op a b c n,.int .i64 1,roV nm A B C N,rwV s ln cl bd]) (mkS [] gt4) (vK fiL K))=(
 bif bd then(
 K .ret [.int .i64 1,.ptr 0 0,.ptr 1 0,.ptr 2 0,.ptr 3 0,.bool false,.tup [],.tup [],.tup [],.tup [],.tup []] [sN [.int .i64 op,.int .i64 a,.int .i64 b,.int .i64 c,.int .u64 n],sN [.str nm,.int .i64 A,.int .i64 B,.int .i64 C,.bool N],sN [.str s,.int .i64 ln,.int .i64 cl,.bool bd],sN [.int .i64 op,.int .i64 a,.int .i64 b,.int .i64 c,.int .u64 n]] gt4)
 else(
 K .normal [.int .i64 1,.ptr 0 0,.ptr 1 0,.ptr 2 0,.ptr 3 0,.bool false,.int .i64 B,.int .i64 (-1),.tup [],.tup [],.tup []] [sN [.int .i64 op,.int .i64 a,.int .i64 b,.int .i64 c,.int .u64 n],sN [.str nm,.int .i64 A,.int .i64 B,.int .i64 C,.bool N],sN [.str s,.int .i64 ln,.int .i64 cl,.bool bd],sN [.int .i64 0,.int .i64 0,.int .i64 0,.int .i64 0,.int .u64 0]] gt4)):=by kernel_rfl
theorem f9y (op a b c n:Int) (nm:List UInt8) (A B C:Int) (N:Bool) (s:List UInt8) (ln cl:Int) (bd:Bool) (M v:Int) (K:Pk):(xsp prog b1r 60 139 ((sp prog 49).drop 8) (a1p 139 (fiT 1 M v)) (mkS (fiH op a b c n nm A B C N s ln cl bd) gt4) (vK fiL K))=(
 bif xcm .lss v 0 then(
 K .ret [.int .i64 1,.ptr 0 0,.ptr 1 0,.ptr 2 0,.ptr 3 0,.bool false,.int .i64 M,.int .i64 v,.any,.any,.any] [sN [.int .i64 op,.int .i64 a,.int .i64 b,.int .i64 c,.int .u64 n],sN [.str nm,.int .i64 A,.int .i64 B,.int .i64 C,.bool N],sN [.str s,.int .i64 ln,.int .i64 cl,.bool bd],sN [.int .i64 op,.int .i64 a,.int .i64 b,.int .i64 c,.int .u64 n]] gt4)
 else(
 K .ret [.int .i64 1,.ptr 0 0,.ptr 1 0,.ptr 2 0,.ptr 3 0,.bool true,.int .i64 M,.int .i64 v,.any,.any,.any] [sN [.int .i64 op,.int .i64 a,.int .i64 v,.int .i64 c,.int .u64 n],sN [.str nm,.int .i64 A,.int .i64 B,.int .i64 C,.bool N],sN [.str s,.int .i64 ln,.int .i64 cl,.bool bd],sN [.int .i64 op,.int .i64 a,.int .i64 v,.int .i64 c,.int .u64 n]] gt4)):=by kernel_rfl
abbrev c6y (op:Int) (a:Int) (b:Int) (c:Int) (n:Int) (nm:List UInt8) (A:Int) (B:Int) (C:Int) (N:Bool) (s:List UInt8) (ln:Int) (cl:Int) (bd:Bool):List (Option LB):=[sN [.int .i64 op,.int .i64 a,.int .i64 b,.int .i64 c,.int .u64 n],sN [.str nm,.int .i64 A,.int .i64 B,.int .i64 C,.bool N],sN [.str s,.int .i64 ln,.int .i64 cl,.bool bd],sN [.int .i64 0,.int .i64 0,.int .i64 0,.int .i64 0,.int .u64 0]]
theorem g0r (op a b c n:Int) (nm:List UInt8) (A B C:Int) (N:Bool) (s:List UInt8) (ln cl:Int) (bd:Bool) (M:Int) (K:Pk):(xsp prog b1r 60 139 (seg fiB 0 1) (a1p 139 (fiT 1 M (-1))) (mkS (fiH op a b c n nm A B C N s ln cl bd) gt4) (vK fiL K))=(
 bif xcm .eql op 23 then(
 K .normal [.int .i64 1,.ptr 0 0,.ptr 1 0,.ptr 2 0,.ptr 3 0,.bool false,.int .i64 M,.int .i64 (-1),.any,.bool false,.any] (c6y op a b c n nm A B C N s ln cl bd) gt4)
 else(
 K .normal [.int .i64 1,.ptr 0 0,.ptr 1 0,.ptr 2 0,.ptr 3 0,.bool false,.int .i64 M,.int .i64 (-1),.any,.bool false,.any] (c6y op a b c n nm A B C N s ln cl bd) gt4)):=by kernel_rfl
abbrev b0l (op:Int) (a:Int) (b:Int) (c:Int) (n:Int) (nm:List UInt8) (A:Int) (B:Int) (C:Int) (N:Bool) (s:List UInt8) (ln:Int) (cl:Int) (bd:Bool):List (Option LB):=[sN [.int .i64 op,.int .i64 a,.int .i64 b,.int .i64 c,.int .u64 n],sN [.str nm,.int .i64 A,.int .i64 B,.int .i64 C,.bool N],sN [.str s,.int .i64 ln,.int .i64 cl,.bool bd],sN [.int .i64 0,.int .i64 0,.int .i64 0,.int .i64 0,.int .u64 0]]
theorem g0f (op a b c n:Int) (nm:List UInt8) (A B C:Int) (N:Bool) (s:List UInt8) (ln cl:Int) (bd:Bool) (M:Int) (K:Pk):(xsp prog b1r 60 139 (seg fiE 0 1) (a1p 139 (d9j 1 M false)) (mkS (fiH op a b c n nm A B C N s ln cl bd) gt4) (vK fiL K))=(
 bif xcm .eql op 8 then(
 bif xcm .eql op 23 then(
 K .normal [.int .i64 1,.ptr 0 0,.ptr 1 0,.ptr 2 0,.ptr 3 0,.bool false,.int .i64 M,.int .i64 (-1),.any,.bool false,.bool true] (b0l op a b c n nm A B C N s ln cl bd) gt4)
 else(
 K .normal [.int .i64 1,.ptr 0 0,.ptr 1 0,.ptr 2 0,.ptr 3 0,.bool false,.int .i64 M,.int .i64 (-1),.any,.bool false,.bool false] (b0l op a b c n nm A B C N s ln cl bd) gt4))
 else(
 bif xcm .eql op 9 then(
 bif xcm .eql op 23 then(
 K .normal [.int .i64 1,.ptr 0 0,.ptr 1 0,.ptr 2 0,.ptr 3 0,.bool false,.int .i64 M,.int .i64 (-1),.any,.bool false,.bool true] (b0l op a b c n nm A B C N s ln cl bd) gt4)
 else(
 K .normal [.int .i64 1,.ptr 0 0,.ptr 1 0,.ptr 2 0,.ptr 3 0,.bool false,.int .i64 M,.int .i64 (-1),.any,.bool false,.bool false] (b0l op a b c n nm A B C N s ln cl bd) gt4))
 else(
 bif xcm .eql op 23 then(
 K .normal [.int .i64 1,.ptr 0 0,.ptr 1 0,.ptr 2 0,.ptr 3 0,.bool false,.int .i64 M,.int .i64 (-1),.any,.bool false,.bool true] (b0l op a b c n nm A B C N s ln cl bd) gt4)
 else(
 K .normal [.int .i64 1,.ptr 0 0,.ptr 1 0,.ptr 2 0,.ptr 3 0,.bool false,.int .i64 M,.int .i64 (-1),.any,.bool false,.bool false] (b0l op a b c n nm A B C N s ln cl bd) gt4)))):=by kernel_rfl
theorem g0t (op a b c n:Int) (nm:List UInt8) (A B C:Int) (N:Bool) (s:List UInt8) (ln cl:Int) (bd:Bool) (K:Pk):(xsp prog b1r 60 139 (seg (sp prog 49) 0 7) (tm0 [inV op a b c n,.int .i64 2,roV nm A B C N,rwV s ln cl bd]) (mkS [] gt4) (vK fiL K))=(
 bif bd then(
 K .ret [.int .i64 2,.ptr 0 0,.ptr 1 0,.ptr 2 0,.ptr 3 0,.bool false,.tup [],.tup [],.tup [],.tup [],.tup []] [sN [.int .i64 op,.int .i64 a,.int .i64 b,.int .i64 c,.int .u64 n],sN [.str nm,.int .i64 A,.int .i64 B,.int .i64 C,.bool N],sN [.str s,.int .i64 ln,.int .i64 cl,.bool bd],sN [.int .i64 op,.int .i64 a,.int .i64 b,.int .i64 c,.int .u64 n]] gt4)
 else(
 K .normal [.int .i64 2,.ptr 0 0,.ptr 1 0,.ptr 2 0,.ptr 3 0,.bool false,.int .i64 C,.int .i64 (-1),.tup [],.tup [],.tup []] [sN [.int .i64 op,.int .i64 a,.int .i64 b,.int .i64 c,.int .u64 n],sN [.str nm,.int .i64 A,.int .i64 B,.int .i64 C,.bool N],sN [.str s,.int .i64 ln,.int .i64 cl,.bool bd],sN [.int .i64 0,.int .i64 0,.int .i64 0,.int .i64 0,.int .u64 0]] gt4)):=by kernel_rfl
theorem f9x (op a b c n:Int) (nm:List UInt8) (A B C:Int) (N:Bool) (s:List UInt8) (ln cl:Int) (bd:Bool) (M v:Int) (K:Pk):(xsp prog b1r 60 139 ((sp prog 49).drop 8) (a1p 139 (fiT 2 M v)) (mkS (fiH op a b c n nm A B C N s ln cl bd) gt4) (vK fiL K))=(
 bif xcm .lss v 0 then(
 K .ret [.int .i64 2,.ptr 0 0,.ptr 1 0,.ptr 2 0,.ptr 3 0,.bool false,.int .i64 M,.int .i64 v,.any,.any,.any] [sN [.int .i64 op,.int .i64 a,.int .i64 b,.int .i64 c,.int .u64 n],sN [.str nm,.int .i64 A,.int .i64 B,.int .i64 C,.bool N],sN [.str s,.int .i64 ln,.int .i64 cl,.bool bd],sN [.int .i64 op,.int .i64 a,.int .i64 b,.int .i64 c,.int .u64 n]] gt4)
 else(
 K .ret [.int .i64 2,.ptr 0 0,.ptr 1 0,.ptr 2 0,.ptr 3 0,.bool true,.int .i64 M,.int .i64 v,.any,.any,.any] [sN [.int .i64 op,.int .i64 a,.int .i64 b,.int .i64 v,.int .u64 n],sN [.str nm,.int .i64 A,.int .i64 B,.int .i64 C,.bool N],sN [.str s,.int .i64 ln,.int .i64 cl,.bool bd],sN [.int .i64 op,.int .i64 a,.int .i64 b,.int .i64 v,.int .u64 n]] gt4)):=by kernel_rfl
abbrev c6x (op:Int) (a:Int) (b:Int) (c:Int) (n:Int) (nm:List UInt8) (A:Int) (B:Int) (C:Int) (N:Bool) (s:List UInt8) (ln:Int) (cl:Int) (bd:Bool):List (Option LB):=[sN [.int .i64 op,.int .i64 a,.int .i64 b,.int .i64 c,.int .u64 n],sN [.str nm,.int .i64 A,.int .i64 B,.int .i64 C,.bool N],sN [.str s,.int .i64 ln,.int .i64 cl,.bool bd],sN [.int .i64 0,.int .i64 0,.int .i64 0,.int .i64 0,.int .u64 0]]
theorem g0q (op a b c n:Int) (nm:List UInt8) (A B C:Int) (N:Bool) (s:List UInt8) (ln cl:Int) (bd:Bool) (M:Int) (K:Pk):(xsp prog b1r 60 139 (seg fiB 0 1) (a1p 139 (fiT 2 M (-1))) (mkS (fiH op a b c n nm A B C N s ln cl bd) gt4) (vK fiL K))=(
 bif xcm .eql op 23 then(
 K .normal [.int .i64 2,.ptr 0 0,.ptr 1 0,.ptr 2 0,.ptr 3 0,.bool false,.int .i64 M,.int .i64 (-1),.any,.bool false,.any] (c6x op a b c n nm A B C N s ln cl bd) gt4)
 else(
 K .normal [.int .i64 2,.ptr 0 0,.ptr 1 0,.ptr 2 0,.ptr 3 0,.bool false,.int .i64 M,.int .i64 (-1),.any,.bool false,.any] (c6x op a b c n nm A B C N s ln cl bd) gt4)):=by kernel_rfl
abbrev b4y (op:Int) (a:Int) (b:Int) (c:Int) (n:Int) (nm:List UInt8) (A:Int) (B:Int) (C:Int) (N:Bool) (s:List UInt8) (ln:Int) (cl:Int) (bd:Bool):List (Option LB):=[sN [.int .i64 op,.int .i64 a,.int .i64 b,.int .i64 c,.int .u64 n],sN [.str nm,.int .i64 A,.int .i64 B,.int .i64 C,.bool N],sN [.str s,.int .i64 ln,.int .i64 cl,.bool bd],sN [.int .i64 0,.int .i64 0,.int .i64 0,.int .i64 0,.int .u64 0]]
theorem g0e (op a b c n:Int) (nm:List UInt8) (A B C:Int) (N:Bool) (s:List UInt8) (ln cl:Int) (bd:Bool) (M:Int) (K:Pk):(xsp prog b1r 60 139 (seg fiE 0 1) (a1p 139 (d9j 2 M false)) (mkS (fiH op a b c n nm A B C N s ln cl bd) gt4) (vK fiL K))=(
 bif xcm .eql op 8 then(
 K .normal [.int .i64 2,.ptr 0 0,.ptr 1 0,.ptr 2 0,.ptr 3 0,.bool false,.int .i64 M,.int .i64 (-1),.any,.bool false,.bool true] (b4y op a b c n nm A B C N s ln cl bd) gt4)
 else(
 bif xcm .eql op 9 then(
 K .normal [.int .i64 2,.ptr 0 0,.ptr 1 0,.ptr 2 0,.ptr 3 0,.bool false,.int .i64 M,.int .i64 (-1),.any,.bool false,.bool true] (b4y op a b c n nm A B C N s ln cl bd) gt4)
 else(
 bif xcm .eql op 23 then(
 K .normal [.int .i64 2,.ptr 0 0,.ptr 1 0,.ptr 2 0,.ptr 3 0,.bool false,.int .i64 M,.int .i64 (-1),.any,.bool false,.bool false] (b4y op a b c n nm A B C N s ln cl bd) gt4)
 else(
 K .normal [.int .i64 2,.ptr 0 0,.ptr 1 0,.ptr 2 0,.ptr 3 0,.bool false,.int .i64 M,.int .i64 (-1),.any,.bool false,.bool false] (b4y op a b c n nm A B C N s ln cl bd) gt4)))):=by kernel_rfl
theorem g7u (op a b c n:Int) (nm:List UInt8) (A B C:Int) (N:Bool) (s:List UInt8) (ln cl:Int) (bd:Bool) (K:Pk):(xsp prog b1r 60 139 ((sp prog 49).drop 0) (tm0 [inV op a b c n,.int .i64 3,roV nm A B C N,rwV s ln cl bd]) (mkS [] gt4) (vK fiL K))=(
 bif bd then(
 K .ret [.int .i64 3,.ptr 0 0,.ptr 1 0,.ptr 2 0,.ptr 3 0,.bool false,.tup [],.tup [],.tup [],.tup [],.tup []] [sN [.int .i64 op,.int .i64 a,.int .i64 b,.int .i64 c,.int .u64 n],sN [.str nm,.int .i64 A,.int .i64 B,.int .i64 C,.bool N],sN [.str s,.int .i64 ln,.int .i64 cl,.bool bd],sN [.int .i64 op,.int .i64 a,.int .i64 b,.int .i64 c,.int .u64 n]] gt4)
 else(
 K .ret [.int .i64 3,.ptr 0 0,.ptr 1 0,.ptr 2 0,.ptr 3 0,.bool (drB s 18446744073709551615),.tup [],.tup [],.tup [],.tup [],.tup []] [sN [.int .i64 op,.int .i64 a,.int .i64 b,.int .i64 c,.int .u64 (drN s 18446744073709551615)],sN [.str nm,.int .i64 A,.int .i64 B,.int .i64 C,.bool N],sN [.str s,.int .i64 ln,.int .i64 cl,.bool bd],sN [.int .i64 op,.int .i64 a,.int .i64 b,.int .i64 c,.int .u64 (drN s 18446744073709551615)]] gt4)):=by kernel_rfl
abbrev c4z (op:Int) (a:Int) (b:Int) (c:Int) (n:Int) (nm:List UInt8) (A:Int) (B:Int) (C:Int) (N:Bool) (s:List UInt8) (ln:Int) (cl:Int) (bd:Bool):List (Option LB):=[sN [.int .i64 op,.int .i64 a,.int .i64 b,.int .i64 c,.int .u64 n],sN [.str nm,.int .i64 A,.int .i64 B,.int .i64 C,.bool N],sN [.str s,.int .i64 ln,.int .i64 cl,.bool bd],sN [.int .i64 0,.int .i64 0,.int .i64 0,.int .i64 0,.int .u64 0]]
theorem g7r (op a b c n:Int) (nm:List UInt8) (A B C:Int) (N:Bool) (s:List UInt8) (ln cl:Int) (bd:Bool) (k M:Int) (K:Pk):(a1h prog b1r 60 139 (c2r (a4i fiE 1)) (a1p 139 (d9i k M true)) (mkS (fiH op a b c n nm A B C N s ln cl bd) gt4) (vK fiL K))=(
 ck (xcm .leq 0 (xwr .u64 M)) <|
 ck (xcm .leq (xwr .u64 M) 18446744073709551615) <|
 bif drB s (xwr .u64 M) then(
 K .normal [.int .i64 k,.ptr 0 0,.ptr 1 0,.ptr 2 0,.ptr 3 0,.bool false,.int .i64 M,.int .i64 (xwr .i64 (drN s (xwr .u64 M))),.any,.any,.bool true] (c4z op a b c n nm A B C N s ln cl bd) gt4)
 else(
 K .normal [.int .i64 k,.ptr 0 0,.ptr 1 0,.ptr 2 0,.ptr 3 0,.bool false,.int .i64 M,.int .i64 (-1),.any,.any,.bool true] (c4z op a b c n nm A B C N s ln cl bd) gt4)):=by kernel_rfl
abbrev b3n (op:Int) (a:Int) (b:Int) (c:Int) (n:Int) (nm:List UInt8) (A:Int) (B:Int) (C:Int) (N:Bool) (s:List UInt8) (ln:Int) (cl:Int) (bd:Bool):List (Option LB):=[sN [.int .i64 op,.int .i64 a,.int .i64 b,.int .i64 c,.int .u64 n],sN [.str nm,.int .i64 A,.int .i64 B,.int .i64 C,.bool N],sN [.str s,.int .i64 ln,.int .i64 cl,.bool bd],sN [.int .i64 0,.int .i64 0,.int .i64 0,.int .i64 0,.int .u64 0]]
theorem g7q (op a b c n:Int) (nm:List UInt8) (A B C:Int) (N:Bool) (s:List UInt8) (ln cl:Int) (bd:Bool) (k M:Int) (K:Pk):(a1h prog b1r 60 139 (c2s (a4i fiE 1)) (a1p 139 (d9i k M false)) (mkS (fiH op a b c n nm A B C N s ln cl bd) gt4) (vK fiL K))=(
 bif xcm .eql (↑(a0z s)) 2 then(
 ck (xle 1 (a0z s)) <|
 bif xcm .eql (a1i s 0) 114 then(
 ck (xle 2 (a0z s)) <|
 bif xcm .geq (a1i s 1) 48 then(
 ck (xle 2 (a0z s)) <|
 bif xcm .leq (xwr .i64 (xar .sub .u8 (a1i s 1) 48)) M then(
 ck (xle 2 (a0z s)) <|
 K .normal [.int .i64 k,.ptr 0 0,.ptr 1 0,.ptr 2 0,.ptr 3 0,.bool false,.int .i64 M,.int .i64 (xwr .i64 (xar .sub .u8 (a1i s 1) 48)),.any,.any,.bool false] (b3n op a b c n nm A B C N s ln cl bd) gt4)
 else(
 K .normal [.int .i64 k,.ptr 0 0,.ptr 1 0,.ptr 2 0,.ptr 3 0,.bool false,.int .i64 M,.int .i64 (-1),.any,.any,.bool false] (b3n op a b c n nm A B C N s ln cl bd) gt4))
 else(
 K .normal [.int .i64 k,.ptr 0 0,.ptr 1 0,.ptr 2 0,.ptr 3 0,.bool false,.int .i64 M,.int .i64 (-1),.any,.any,.bool false] (b3n op a b c n nm A B C N s ln cl bd) gt4))
 else(
 K .normal [.int .i64 k,.ptr 0 0,.ptr 1 0,.ptr 2 0,.ptr 3 0,.bool false,.int .i64 M,.int .i64 (-1),.any,.any,.bool false] (b3n op a b c n nm A B C N s ln cl bd) gt4))
 else(
 K .normal [.int .i64 k,.ptr 0 0,.ptr 1 0,.ptr 2 0,.ptr 3 0,.bool false,.int .i64 M,.int .i64 (-1),.any,.any,.bool false] (b3n op a b c n nm A B C N s ln cl bd) gt4)):=by kernel_rfl
theorem g7t (op a b c n:Int) (nm:List UInt8) (A B C:Int) (N:Bool) (s:List UInt8) (ln cl:Int) (bd:Bool) (M:Int) (K:Pk):(xsp prog b1r 60 139 (seg fiC 0 1) (a1p 139 (d9j 0 M true)) (mkS (fiH op a b c n nm A B C N s ln cl bd) gt4) (vK fiL K))=(
 K .normal [.int .i64 0,.ptr 0 0,.ptr 1 0,.ptr 2 0,.ptr 3 0,.bool false,.int .i64 M,.int .i64 (-1),.int .i64 1,.bool true,.any] [sN [.int .i64 op,.int .i64 a,.int .i64 b,.int .i64 c,.int .u64 n],sN [.str nm,.int .i64 A,.int .i64 B,.int .i64 C,.bool N],sN [.str s,.int .i64 ln,.int .i64 cl,.bool bd],sN [.int .i64 0,.int .i64 0,.int .i64 0,.int .i64 0,.int .u64 0]] gt4):=by kernel_rfl
abbrev c6w (op:Int) (a:Int) (b:Int) (c:Int) (n:Int) (nm:List UInt8) (A:Int) (B:Int) (C:Int) (N:Bool) (s:List UInt8) (ln:Int) (cl:Int) (bd:Bool):List (Option LB):=[sN [.int .i64 op,.int .i64 a,.int .i64 b,.int .i64 c,.int .u64 n],sN [.str nm,.int .i64 A,.int .i64 B,.int .i64 C,.bool N],sN [.str s,.int .i64 ln,.int .i64 cl,.bool bd],sN [.int .i64 0,.int .i64 0,.int .i64 0,.int .i64 0,.int .u64 0]]
theorem g0p (op a b c n:Int) (nm:List UInt8) (A B C:Int) (N:Bool) (s:List UInt8) (ln cl:Int) (bd:Bool) (v:Int) (K:Pk):(a1h prog b1r 60 139 (a1w (a4i fiC 1)) (a1p 139 (b2s A v 1)) (mkS (fiH op a b c n nm A B C N s ln cl bd) gt4) (vK fiL K))=(
 bif a3h .eql [108,105,115,116,46,97,100,100] s then(
 K .normal [.int .i64 0,.ptr 0 0,.ptr 1 0,.ptr 2 0,.ptr 3 0,.bool false,.int .i64 A,.int .i64 1,.int .i64 2,.any,.any] (c6w op a b c n nm A B C N s ln cl bd) gt4)
 else(
 K .normal [.int .i64 0,.ptr 0 0,.ptr 1 0,.ptr 2 0,.ptr 3 0,.bool false,.int .i64 A,.int .i64 v,.int .i64 2,.any,.any] (c6w op a b c n nm A B C N s ln cl bd) gt4)):=by kernel_rfl
abbrev c6v (op:Int) (a:Int) (b:Int) (c:Int) (n:Int) (nm:List UInt8) (A:Int) (B:Int) (C:Int) (N:Bool) (s:List UInt8) (ln:Int) (cl:Int) (bd:Bool):List (Option LB):=[sN [.int .i64 op,.int .i64 a,.int .i64 b,.int .i64 c,.int .u64 n],sN [.str nm,.int .i64 A,.int .i64 B,.int .i64 C,.bool N],sN [.str s,.int .i64 ln,.int .i64 cl,.bool bd],sN [.int .i64 0,.int .i64 0,.int .i64 0,.int .i64 0,.int .u64 0]]
theorem g0o (op a b c n:Int) (nm:List UInt8) (A B C:Int) (N:Bool) (s:List UInt8) (ln cl:Int) (bd:Bool) (v:Int) (K:Pk):(a1h prog b1r 60 139 (a1w (a4i fiC 1)) (a1p 139 (b2s A v 2)) (mkS (fiH op a b c n nm A B C N s ln cl bd) gt4) (vK fiL K))=(
 bif a3h .eql [108,105,115,116,46,99,117,116] s then(
 K .normal [.int .i64 0,.ptr 0 0,.ptr 1 0,.ptr 2 0,.ptr 3 0,.bool false,.int .i64 A,.int .i64 2,.int .i64 3,.any,.any] (c6v op a b c n nm A B C N s ln cl bd) gt4)
 else(
 K .normal [.int .i64 0,.ptr 0 0,.ptr 1 0,.ptr 2 0,.ptr 3 0,.bool false,.int .i64 A,.int .i64 v,.int .i64 3,.any,.any] (c6v op a b c n nm A B C N s ln cl bd) gt4)):=by kernel_rfl
abbrev c6u (op:Int) (a:Int) (b:Int) (c:Int) (n:Int) (nm:List UInt8) (A:Int) (B:Int) (C:Int) (N:Bool) (s:List UInt8) (ln:Int) (cl:Int) (bd:Bool):List (Option LB):=[sN [.int .i64 op,.int .i64 a,.int .i64 b,.int .i64 c,.int .u64 n],sN [.str nm,.int .i64 A,.int .i64 B,.int .i64 C,.bool N],sN [.str s,.int .i64 ln,.int .i64 cl,.bool bd],sN [.int .i64 0,.int .i64 0,.int .i64 0,.int .i64 0,.int .u64 0]]
theorem g0n (op a b c n:Int) (nm:List UInt8) (A B C:Int) (N:Bool) (s:List UInt8) (ln cl:Int) (bd:Bool) (v:Int) (K:Pk):(a1h prog b1r 60 139 (a1w (a4i fiC 1)) (a1p 139 (b2s A v 3)) (mkS (fiH op a b c n nm A B C N s ln cl bd) gt4) (vK fiL K))=(
 bif a3h .eql [108,105,115,116,46,104,97,115] s then(
 K .normal [.int .i64 0,.ptr 0 0,.ptr 1 0,.ptr 2 0,.ptr 3 0,.bool false,.int .i64 A,.int .i64 3,.int .i64 4,.any,.any] (c6u op a b c n nm A B C N s ln cl bd) gt4)
 else(
 K .normal [.int .i64 0,.ptr 0 0,.ptr 1 0,.ptr 2 0,.ptr 3 0,.bool false,.int .i64 A,.int .i64 v,.int .i64 4,.any,.any] (c6u op a b c n nm A B C N s ln cl bd) gt4)):=by kernel_rfl
abbrev c6t (op:Int) (a:Int) (b:Int) (c:Int) (n:Int) (nm:List UInt8) (A:Int) (B:Int) (C:Int) (N:Bool) (s:List UInt8) (ln:Int) (cl:Int) (bd:Bool):List (Option LB):=[sN [.int .i64 op,.int .i64 a,.int .i64 b,.int .i64 c,.int .u64 n],sN [.str nm,.int .i64 A,.int .i64 B,.int .i64 C,.bool N],sN [.str s,.int .i64 ln,.int .i64 cl,.bool bd],sN [.int .i64 0,.int .i64 0,.int .i64 0,.int .i64 0,.int .u64 0]]
theorem g0m (op a b c n:Int) (nm:List UInt8) (A B C:Int) (N:Bool) (s:List UInt8) (ln cl:Int) (bd:Bool) (v:Int) (K:Pk):(a1h prog b1r 60 139 (a1w (a4i fiC 1)) (a1p 139 (b2s A v 4)) (mkS (fiH op a b c n nm A B C N s ln cl bd) gt4) (vK fiL K))=(
 bif a3h .eql [116,97,98,108,101,46,112,117,116] s then(
 K .normal [.int .i64 0,.ptr 0 0,.ptr 1 0,.ptr 2 0,.ptr 3 0,.bool false,.int .i64 A,.int .i64 4,.int .i64 5,.any,.any] (c6t op a b c n nm A B C N s ln cl bd) gt4)
 else(
 K .normal [.int .i64 0,.ptr 0 0,.ptr 1 0,.ptr 2 0,.ptr 3 0,.bool false,.int .i64 A,.int .i64 v,.int .i64 5,.any,.any] (c6t op a b c n nm A B C N s ln cl bd) gt4)):=by kernel_rfl
abbrev c6s (op:Int) (a:Int) (b:Int) (c:Int) (n:Int) (nm:List UInt8) (A:Int) (B:Int) (C:Int) (N:Bool) (s:List UInt8) (ln:Int) (cl:Int) (bd:Bool):List (Option LB):=[sN [.int .i64 op,.int .i64 a,.int .i64 b,.int .i64 c,.int .u64 n],sN [.str nm,.int .i64 A,.int .i64 B,.int .i64 C,.bool N],sN [.str s,.int .i64 ln,.int .i64 cl,.bool bd],sN [.int .i64 0,.int .i64 0,.int .i64 0,.int .i64 0,.int .u64 0]]
theorem g0l (op a b c n:Int) (nm:List UInt8) (A B C:Int) (N:Bool) (s:List UInt8) (ln cl:Int) (bd:Bool) (v:Int) (K:Pk):(a1h prog b1r 60 139 (a1w (a4i fiC 1)) (a1p 139 (b2s A v 5)) (mkS (fiH op a b c n nm A B C N s ln cl bd) gt4) (vK fiL K))=(
 bif a3h .eql [116,97,98,108,101,46,103,101,116] s then(
 K .normal [.int .i64 0,.ptr 0 0,.ptr 1 0,.ptr 2 0,.ptr 3 0,.bool false,.int .i64 A,.int .i64 5,.int .i64 6,.any,.any] (c6s op a b c n nm A B C N s ln cl bd) gt4)
 else(
 K .normal [.int .i64 0,.ptr 0 0,.ptr 1 0,.ptr 2 0,.ptr 3 0,.bool false,.int .i64 A,.int .i64 v,.int .i64 6,.any,.any] (c6s op a b c n nm A B C N s ln cl bd) gt4)):=by kernel_rfl
abbrev c6r (op:Int) (a:Int) (b:Int) (c:Int) (n:Int) (nm:List UInt8) (A:Int) (B:Int) (C:Int) (N:Bool) (s:List UInt8) (ln:Int) (cl:Int) (bd:Bool):List (Option LB):=[sN [.int .i64 op,.int .i64 a,.int .i64 b,.int .i64 c,.int .u64 n],sN [.str nm,.int .i64 A,.int .i64 B,.int .i64 C,.bool N],sN [.str s,.int .i64 ln,.int .i64 cl,.bool bd],sN [.int .i64 0,.int .i64 0,.int .i64 0,.int .i64 0,.int .u64 0]]
theorem g0k (op a b c n:Int) (nm:List UInt8) (A B C:Int) (N:Bool) (s:List UInt8) (ln cl:Int) (bd:Bool) (v:Int) (K:Pk):(a1h prog b1r 60 139 (a1w (a4i fiC 1)) (a1p 139 (b2s A v 6)) (mkS (fiH op a b c n nm A B C N s ln cl bd) gt4) (vK fiL K))=(
 bif a3h .eql [116,97,98,108,101,46,100,101,108] s then(
 K .normal [.int .i64 0,.ptr 0 0,.ptr 1 0,.ptr 2 0,.ptr 3 0,.bool false,.int .i64 A,.int .i64 6,.int .i64 7,.any,.any] (c6r op a b c n nm A B C N s ln cl bd) gt4)
 else(
 K .normal [.int .i64 0,.ptr 0 0,.ptr 1 0,.ptr 2 0,.ptr 3 0,.bool false,.int .i64 A,.int .i64 v,.int .i64 7,.any,.any] (c6r op a b c n nm A B C N s ln cl bd) gt4)):=by kernel_rfl
abbrev c6q (op:Int) (a:Int) (b:Int) (c:Int) (n:Int) (nm:List UInt8) (A:Int) (B:Int) (C:Int) (N:Bool) (s:List UInt8) (ln:Int) (cl:Int) (bd:Bool):List (Option LB):=[sN [.int .i64 op,.int .i64 a,.int .i64 b,.int .i64 c,.int .u64 n],sN [.str nm,.int .i64 A,.int .i64 B,.int .i64 C,.bool N],sN [.str s,.int .i64 ln,.int .i64 cl,.bool bd],sN [.int .i64 0,.int .i64 0,.int .i64 0,.int .i64 0,.int .u64 0]]
theorem g0j (op a b c n:Int) (nm:List UInt8) (A B C:Int) (N:Bool) (s:List UInt8) (ln cl:Int) (bd:Bool) (v:Int) (K:Pk):(a1h prog b1r 60 139 (a1w (a4i fiC 1)) (a1p 139 (b2s A v 7)) (mkS (fiH op a b c n nm A B C N s ln cl bd) gt4) (vK fiL K))=(
 bif a3h .eql [113,117,101,117,101,46,112,117,115,104] s then(
 K .normal [.int .i64 0,.ptr 0 0,.ptr 1 0,.ptr 2 0,.ptr 3 0,.bool false,.int .i64 A,.int .i64 7,.int .i64 8,.any,.any] (c6q op a b c n nm A B C N s ln cl bd) gt4)
 else(
 K .normal [.int .i64 0,.ptr 0 0,.ptr 1 0,.ptr 2 0,.ptr 3 0,.bool false,.int .i64 A,.int .i64 v,.int .i64 8,.any,.any] (c6q op a b c n nm A B C N s ln cl bd) gt4)):=by kernel_rfl
abbrev c6p (op:Int) (a:Int) (b:Int) (c:Int) (n:Int) (nm:List UInt8) (A:Int) (B:Int) (C:Int) (N:Bool) (s:List UInt8) (ln:Int) (cl:Int) (bd:Bool):List (Option LB):=[sN [.int .i64 op,.int .i64 a,.int .i64 b,.int .i64 c,.int .u64 n],sN [.str nm,.int .i64 A,.int .i64 B,.int .i64 C,.bool N],sN [.str s,.int .i64 ln,.int .i64 cl,.bool bd],sN [.int .i64 0,.int .i64 0,.int .i64 0,.int .i64 0,.int .u64 0]]
theorem g0i (op a b c n:Int) (nm:List UInt8) (A B C:Int) (N:Bool) (s:List UInt8) (ln cl:Int) (bd:Bool) (v:Int) (K:Pk):(a1h prog b1r 60 139 (a1w (a4i fiC 1)) (a1p 139 (b2s A v 8)) (mkS (fiH op a b c n nm A B C N s ln cl bd) gt4) (vK fiL K))=(
 bif a3h .eql [113,117,101,117,101,46,116,97,107,101] s then(
 K .normal [.int .i64 0,.ptr 0 0,.ptr 1 0,.ptr 2 0,.ptr 3 0,.bool false,.int .i64 A,.int .i64 8,.int .i64 9,.any,.any] (c6p op a b c n nm A B C N s ln cl bd) gt4)
 else(
 K .normal [.int .i64 0,.ptr 0 0,.ptr 1 0,.ptr 2 0,.ptr 3 0,.bool false,.int .i64 A,.int .i64 v,.int .i64 9,.any,.any] (c6p op a b c n nm A B C N s ln cl bd) gt4)):=by kernel_rfl
abbrev c6o (op:Int) (a:Int) (b:Int) (c:Int) (n:Int) (nm:List UInt8) (A:Int) (B:Int) (C:Int) (N:Bool) (s:List UInt8) (ln:Int) (cl:Int) (bd:Bool):List (Option LB):=[sN [.int .i64 op,.int .i64 a,.int .i64 b,.int .i64 c,.int .u64 n],sN [.str nm,.int .i64 A,.int .i64 B,.int .i64 C,.bool N],sN [.str s,.int .i64 ln,.int .i64 cl,.bool bd],sN [.int .i64 0,.int .i64 0,.int .i64 0,.int .i64 0,.int .u64 0]]
theorem g0h (op a b c n:Int) (nm:List UInt8) (A B C:Int) (N:Bool) (s:List UInt8) (ln cl:Int) (bd:Bool) (v:Int) (K:Pk):(a1h prog b1r 60 139 (a1w (a4i fiC 1)) (a1p 139 (b2s A v 9)) (mkS (fiH op a b c n nm A B C N s ln cl bd) gt4) (vK fiL K))=(
 bif a3h .eql [116,114,101,101,46,115,101,116] s then(
 K .normal [.int .i64 0,.ptr 0 0,.ptr 1 0,.ptr 2 0,.ptr 3 0,.bool false,.int .i64 A,.int .i64 9,.int .i64 10,.any,.any] (c6o op a b c n nm A B C N s ln cl bd) gt4)
 else(
 K .normal [.int .i64 0,.ptr 0 0,.ptr 1 0,.ptr 2 0,.ptr 3 0,.bool false,.int .i64 A,.int .i64 v,.int .i64 10,.any,.any] (c6o op a b c n nm A B C N s ln cl bd) gt4)):=by kernel_rfl
abbrev c2n (op:Int) (a:Int) (b:Int) (c:Int) (n:Int) (nm:List UInt8) (A:Int) (B:Int) (C:Int) (N:Bool) (s:List UInt8) (ln:Int) (cl:Int) (bd:Bool):List (Option LB):=[sN [.int .i64 op,.int .i64 a,.int .i64 b,.int .i64 c,.int .u64 n],sN [.str nm,.int .i64 A,.int .i64 B,.int .i64 C,.bool N],sN [.str s,.int .i64 ln,.int .i64 cl,.bool bd],sN [.int .i64 0,.int .i64 0,.int .i64 0,.int .i64 0,.int .u64 0]]
theorem f4t (op a b c n:Int) (nm:List UInt8) (A B C:Int) (N:Bool) (s:List UInt8) (ln cl:Int) (bd:Bool) (v:Int) (K:Pk):(a1h prog b1r 60 139 (a1w (a4i fiC 1)) (a1p 139 (b2s A v 10)) (mkS (fiH op a b c n nm A B C N s ln cl bd) gt4) (vK fiL K))=(
 bif a3h .eql [116,114,101,101,46,102,105,110,100] s then(
 K .normal [.int .i64 0,.ptr 0 0,.ptr 1 0,.ptr 2 0,.ptr 3 0,.bool false,.int .i64 A,.int .i64 10,.int .i64 11,.any,.any] (c2n op a b c n nm A B C N s ln cl bd) gt4)
 else(
 K .normal [.int .i64 0,.ptr 0 0,.ptr 1 0,.ptr 2 0,.ptr 3 0,.bool false,.int .i64 A,.int .i64 v,.int .i64 11,.any,.any] (c2n op a b c n nm A B C N s ln cl bd) gt4)):=by kernel_rfl
abbrev c2m (op:Int) (a:Int) (b:Int) (c:Int) (n:Int) (nm:List UInt8) (A:Int) (B:Int) (C:Int) (N:Bool) (s:List UInt8) (ln:Int) (cl:Int) (bd:Bool):List (Option LB):=[sN [.int .i64 op,.int .i64 a,.int .i64 b,.int .i64 c,.int .u64 n],sN [.str nm,.int .i64 A,.int .i64 B,.int .i64 C,.bool N],sN [.str s,.int .i64 ln,.int .i64 cl,.bool bd],sN [.int .i64 0,.int .i64 0,.int .i64 0,.int .i64 0,.int .u64 0]]
theorem f4s (op a b c n:Int) (nm:List UInt8) (A B C:Int) (N:Bool) (s:List UInt8) (ln cl:Int) (bd:Bool) (v:Int) (K:Pk):(a1h prog b1r 60 139 (a1w (a4i fiC 1)) (a1p 139 (b2s A v 11)) (mkS (fiH op a b c n nm A B C N s ln cl bd) gt4) (vK fiL K))=(
 bif a3h .eql [116,114,101,101,46,101,114,97,115,101] s then(
 K .normal [.int .i64 0,.ptr 0 0,.ptr 1 0,.ptr 2 0,.ptr 3 0,.bool false,.int .i64 A,.int .i64 11,.int .i64 12,.any,.any] (c2m op a b c n nm A B C N s ln cl bd) gt4)
 else(
 K .normal [.int .i64 0,.ptr 0 0,.ptr 1 0,.ptr 2 0,.ptr 3 0,.bool false,.int .i64 A,.int .i64 v,.int .i64 12,.any,.any] (c2m op a b c n nm A B C N s ln cl bd) gt4)):=by kernel_rfl
abbrev c2l (op:Int) (a:Int) (b:Int) (c:Int) (n:Int) (nm:List UInt8) (A:Int) (B:Int) (C:Int) (N:Bool) (s:List UInt8) (ln:Int) (cl:Int) (bd:Bool):List (Option LB):=[sN [.int .i64 op,.int .i64 a,.int .i64 b,.int .i64 c,.int .u64 n],sN [.str nm,.int .i64 A,.int .i64 B,.int .i64 C,.bool N],sN [.str s,.int .i64 ln,.int .i64 cl,.bool bd],sN [.int .i64 0,.int .i64 0,.int .i64 0,.int .i64 0,.int .u64 0]]
theorem f4r (op a b c n:Int) (nm:List UInt8) (A B C:Int) (N:Bool) (s:List UInt8) (ln cl:Int) (bd:Bool) (v:Int) (K:Pk):(a1h prog b1r 60 139 (a1w (a4i fiC 1)) (a1p 139 (b2s A v 12)) (mkS (fiH op a b c n nm A B C N s ln cl bd) gt4) (vK fiL K))=(
 bif a3h .eql [116,114,101,101,46,99,111,117,110,116] s then(
 K .normal [.int .i64 0,.ptr 0 0,.ptr 1 0,.ptr 2 0,.ptr 3 0,.bool false,.int .i64 A,.int .i64 12,.int .i64 13,.any,.any] (c2l op a b c n nm A B C N s ln cl bd) gt4)
 else(
 K .normal [.int .i64 0,.ptr 0 0,.ptr 1 0,.ptr 2 0,.ptr 3 0,.bool false,.int .i64 A,.int .i64 v,.int .i64 13,.any,.any] (c2l op a b c n nm A B C N s ln cl bd) gt4)):=by kernel_rfl
theorem f4q (op a b c n:Int) (nm:List UInt8) (A B C:Int) (N:Bool) (s:List UInt8) (ln cl:Int) (bd:Bool) (v:Int) (K:Pk):(a1h prog b1r 60 139 (a1w (a4i fiC 1)) (a1p 139 (b2s A v 13)) (mkS (fiH op a b c n nm A B C N s ln cl bd) gt4) (vK fiL K))=(
 K (.exit 1) [.int .i64 0,.ptr 0 0,.ptr 1 0,.ptr 2 0,.ptr 3 0,.bool false,.int .i64 A,.int .i64 v,.int .i64 13,.any,.any] [sN [.int .i64 op,.int .i64 a,.int .i64 b,.int .i64 c,.int .u64 n],sN [.str nm,.int .i64 A,.int .i64 B,.int .i64 C,.bool N],sN [.str s,.int .i64 ln,.int .i64 cl,.bool bd],sN [.int .i64 0,.int .i64 0,.int .i64 0,.int .i64 0,.int .u64 0]] gt4):=by kernel_rfl
end
end Go.Lev
