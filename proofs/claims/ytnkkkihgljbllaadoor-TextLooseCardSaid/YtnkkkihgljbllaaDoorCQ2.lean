/- the reference's Decimal: the numeral -/
import Derived.Test.YtnkkkihgljbllaaDoorLc
import Derived.Test.YtnkkkihgljbllaaDoorChecked
import Derived.KernelRfl
import Derived.Lib.ItoaNum
namespace Go.Lev
set_option linter.unusedSimpArgs false
set_option linter.unusedVariables false
open Go.RowKit
open Go.Proofs.Tryd (prog)
set_option maxRecDepth 100000
noncomputable section
theorem nd_le:∀ (k u:Nat),u < 10 ^ (k+1)→Lib.nDigits u≤k+1
 | 0,u,h=>by rw [Lib.nDigits_small (by simpa using h)]; omega
 | k+1,u,h=>by
   by_cases c:u < 10
   ·rw [Lib.nDigits_small c]; omega
   ·rw [Lib.nDigits_big c]
    have:=nd_le k (u / 10) (by rw [Nat.pow_succ] at h; omega)
    omega
def decW (n:Int):List UInt8:=Lib.decDigits n.toNat
theorem decW_eq (u:Nat):decW (u:Int)=Lib.decDigits u:=by rw [decW,Int.toNat_natCast]
theorem decW_len {n:Int} (h0:0≤n) (h1:n≤18446744073709551615):(decW n).length≤20:=by
 rw [decW,Lib.decDigits_length]
 exact nd_le 19 _ (by omega)
end
end Go.Lev
