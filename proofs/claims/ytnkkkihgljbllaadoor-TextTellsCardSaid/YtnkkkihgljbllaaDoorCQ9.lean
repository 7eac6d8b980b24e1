/- text: printable: its tree -/
import Derived.Test.YtnkkkihgljbllaaDoorCQ8
import Derived.Test.YtnkkkihgljbllaaDoorLc
import Derived.Test.YtnkkkihgljbllaaDoorChecked
import Derived.KernelRfl
namespace Go.Lev
set_option linter.unusedSimpArgs false
set_option linter.unusedVariables false
open Go.RowKit
open Go.Proofs.Tryd (prog)
set_option maxRecDepth 100000
noncomputable section
structure b9y where
 op:Int
 a:Int
 b:Int
 c:Int
 n:Int
abbrev a9m (x:b9y):List LV:=[.int .i64 x.op,.int .i64 x.a,.int .i64 x.b,.int .i64 x.c,.int .u64 x.n]
theorem b0j (x:b9y):(a9m x).length=5:=rfl
theorem f4g {xs:List b9y} {i:Nat} (h:i < xs.length):a0b (a0f a9m xs) (i * 5)=.int .i64 xs[i].op:=a2s b0j (j:=0) h (by omega)
theorem f4f {xs:List b9y} {i:Nat} (h:i < xs.length):a0b (a0f a9m xs) (i * 5+1)=.int .i64 xs[i].a:=a2s b0j (j:=1) h (by omega)
theorem f4e {xs:List b9y} {i:Nat} (h:i < xs.length):a0b (a0f a9m xs) (i * 5+2)=.int .i64 xs[i].b:=a2s b0j (j:=2) h (by omega)
theorem f4d {xs:List b9y} {i:Nat} (h:i < xs.length):a0b (a0f a9m xs) (i * 5+3)=.int .i64 xs[i].c:=a2s b0j (j:=3) h (by omega)
theorem f4c {xs:List b9y} {i:Nat} (h:i < xs.length):a0b (a0f a9m xs) (i * 5+4)=.int .u64 xs[i].n:=a2s b0j (j:=4) h (by omega)
theorem f4a (xs:List b9y):(a0f a9m xs).length=xs.length * 5:=a1v b0j xs
theorem b6l (xs:List b9y):a1q (a0f a9m xs)=true:=a1y (fun _=>rfl) xs
abbrev gtF (F:World→Prop):Glb:=[(0,a2h),(2,a2n),(1,a6x),(1000,[.fact F])]
def d4v:List LV→List b9y
 | .int _ op::.int _ a::.int _ b::.int _ c::.int _ n::r=>⟨op,a,b,c,n⟩::d4v r
 | _=>[]
theorem b6q:∀ L:List b9y,d4v (a0f a9m L)=L
 | []=>rfl
 | x::r=>by
   show d4v (.int .i64 x.op::.int .i64 x.a::.int .i64 x.b::.int .i64 x.c::.int .u64 x.n::a0f a9m r)=_
   rw [d4v,b6q r]
end
end Go.Lev
