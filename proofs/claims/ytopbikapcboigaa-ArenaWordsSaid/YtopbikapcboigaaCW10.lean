/- ArenaWords (P11.4): for any words, any bump, any heads, raw or not, both see the same blocks and the same lists, or none; what was there stays as it was. No condition. -/
import Derived.Test.YtopbikapcboigaaCW9
import Derived.Test.YtopbikapcboigaaLc
import Derived.Test.YtopbikapcboigaaChecked
import Derived.KernelRfl
import Derived.Test.YtopbikapcboigaaLc
namespace Go.Lev
set_option linter.unusedSimpArgs false
set_option linter.unusedVariables false
open Go.RowKit
open Go.Proofs.Try (prog)
set_option maxRecDepth 100000
theorem words_any {H:Type} {enc:TypeId×Value→H} {W:World} {a0 a2:Option Addr} {len0 cap0 len2 cap2:Nat} {d0 d2:DataW H} {p0 p2:List MemPlace} (b:Int) (q:Bool)
  (h0:DataW.Trod enc prog W 0 (fun _=>true) true 24 (.slice a0 len0 cap0) d0 p0) (h2:DataW.Trod enc prog W 0 (fun _=>true) true 45 (.slice a2 len2 cap2) d2 p2) :
  Calls prog 6 #[.slice a0 len0 cap0,.int .u16 b,.slice a2 len2 cap2,.bool q] W fun e W'=>e=.returned (.bool true)∧Below W.heap.size W W':=by
 obtain⟨us,e0,n0,q0,r0⟩:=row_arg (f:=cI .u64) (ok:=fun y:Int=>IntKind.u64.min≤y∧y≤IntKind.u64.max) (cI_len .u64) (by omega) Go.Proofs.Try.underlying24 (by kernel_rfl) h0 (el_int Go.Proofs.Try.underlying36)
 obtain⟨hs,e2,n2,_,r2⟩:=row_arg (f:=cI .u8) (ok:=fun y:Int=>IntKind.u8.min≤y∧y≤IntKind.u8.max) (cI_len .u8) (by omega) Go.Proofs.Try.underlying45 (by kernel_rfl) h2 (el_int Go.Proofs.Try.underlying5)
 refine SFun.top (rows:=[(.slice a0 len0 cap0,len0,encL (cI .u64) us),(.slice a2 len2 cap2,len2,encL (cI .u8) hs)]) (g:=[]) (us:=[.slice a0 len0 cap0,.int .u16 b,.slice a2 len2 cap2,.bool q]) ⟨r0,r2,trivial⟩ (fun x hx=>by cases hx) (fun r h=>?_) (words_fun us hs b q len0 len2 e0 e2 q0 n0 n2)
 simp only [VRs,VR]
 exact⟨_,_,rfl,h 0 _ _ _ rfl,_,_,rfl,rfl,_,_,rfl,h 1 _ _ _ rfl,_,_,rfl,rfl,rfl⟩
end Go.Lev
