/- ThreadLimits: the cut behind thread.New -/
import Derived.Test.YtcgkfbdbbfpofaaGreatDoorCT5
import Derived.Test.YtcgkfbdbbfpofaaGreatDoorLc
import Derived.Test.YtcgkfbdbbfpofaaGreatDoorChecked
import Derived.KernelRfl
import Derived.Test.YtcgkfbdbbfpofaaGreatDoorLc
namespace Go.Lev
set_option linter.unusedSimpArgs false
set_option linter.unusedVariables false
open Go.RowKit
open Go.Proofs.Tryz (prog)
set_option maxRecDepth 100000
noncomputable section
abbrev tkH (c:Int):List LB:=[.cells [.int .i64 0,.int .i64 0,.int .i64 0,.int .i64 4,.int .u64 0,.int .i64 0,.int .i64 0,.int .i64 9] none,.cells [.int .i64 32,.int .i64 1,.int .i64 1,.int .i64 4,.int .u64 0,.ptr 3 0,.ptr 4 0,.ptr 5 0,.ptr 6 0,.int .i64 0] none,.cells [.int .i64 c,.int .i64 32,.int .i64 1,.int .i64 1,.int .i64 4,.int .u64 0,.int .i64 0,.int .i64 0,.int .i64 9,.slo 7 0 6 0,.int .i64 1,.int .i64 0,.bool false,.nils,.int .i64 0,.int .i64 0,.bool false,.ptr 8 0,.int .i64 0,.int .i64 0,.int .i64 0,.bool false,.int .u64 0,.nils,.ptr 9 0,.nils,.nils] none,.cells [.sl 10 0 32 32] none,.cells [.int .i64 1,.sl 11 0 1 1] none,.cells [.int .u64 0] none,.cells [.sl 12 0 4 4] none,.cells [.slo 13 0 2 0,.slo 14 0 2 0,.slo 15 0 2 0,.slo 16 0 2 0,.slo 17 0 2 0,.slo 18 0 2 0] (some 1),.cells [.ptr 19 0,.int .i64 c,.int .i64 32,.int .i64 1,.int .i64 1,.int .i64 4,.int .u64 0,.int .i64 0,.int .i64 0,.int .i64 9,.ptr 20 0,.ptr 21 0,.iface 117 (.ptr 22 0),.ptr 22 0,.nils,.int .i64 0,.int .i64 0,.nilIface,.nilp,.nilp,.nilp,.int .u64 0,.int .u64 0,.bool false,.int .i64 0,.int .i64 0,.int .i64 0] none,.cells [.nils] none,.cells [.int .u64 0,.int .u64 0,.int .u64 0,.int .u64 0,.int .u64 0,.int .u64 0,.int .u64 0,.int .u64 0,.int .u64 0,.int .u64 0,.int .u64 0,.int .u64 0,.int .u64 0,.int .u64 0,.int .u64 0,.int .u64 0,.int .u64 0,.int .u64 0,.int .u64 0,.int .u64 0,.int .u64 0,.int .u64 0,.int .u64 0,.int .u64 0,.int .u64 0,.int .u64 0,.int .u64 0,.int .u64 0,.int .u64 0,.int .u64 0,.int .u64 0,.int .u64 0] none,.cells [.int .u64 0,.bool false,.int .i64 0] none,.cells [.int .u64 0,.int .u64 0,.int .u64 0,.int .u64 0] none,.cells [.int .i64 1,.int .i64 0,.int .i64 0,.int .i64 0,.int .u64 0,.int .i64 21,.int .i64 0,.int .i64 0,.int .i64 0,.int .u64 0] (some 5),.cells [.int .i64 1,.int .i64 0,.int .i64 0,.int .i64 0,.int .u64 1,.int .i64 21,.int .i64 0,.int .i64 0,.int .i64 0,.int .u64 0] (some 5),.cells [.int .i64 1,.int .i64 0,.int .i64 0,.int .i64 0,.int .u64 2,.int .i64 21,.int .i64 0,.int .i64 0,.int .i64 0,.int .u64 0] (some 5),.cells [.int .i64 1,.int .i64 0,.int .i64 0,.int .i64 0,.int .u64 3,.int .i64 21,.int .i64 0,.int .i64 0,.int .i64 0,.int .u64 0] (some 5),.cells [.int .i64 1,.int .i64 0,.int .i64 0,.int .i64 0,.int .u64 4,.int .i64 21,.int .i64 0,.int .i64 0,.int .i64 0,.int .u64 0] (some 5),.cells [.int .i64 1,.int .i64 0,.int .i64 0,.int .i64 0,.int .u64 5,.int .i64 21,.int .i64 0,.int .i64 0,.int .i64 0,.int .u64 0] (some 5),.cells [.int .i64 c,.int .i64 0,.int .i64 0,.int .i64 (-1),.int .i64 0] none,.cells [.nils,.sl 23 0 32 32,.int .i64 0,.ptr 24 0] none,.cells [.int .i64 16,.nils] none,.cells [.slo 25 0 2 0,.slo 26 0 2 0,.int .i64 0,.ptr 20 0,.ptr 27 0,.int .u64 0,.int .u64 0,.int .u64 0,.int .u64 0,.int .u64 0,.int .u64 0,.int .u64 0,.int .u64 0,.nils,.int .i64 0,.int .i64 9,.int .i64 0,.int .i64 0] none,.cells [.int .i64 0,.int .i64 0,.int .i64 0,.int .i64 0,.int .i64 0,.int .i64 0,.int .i64 0,.int .i64 0,.int .i64 0,.int .i64 0,.int .i64 0,.int .i64 0,.int .i64 0,.int .i64 0,.int .i64 0,.int .i64 0,.int .i64 0,.int .i64 0,.int .i64 0,.int .i64 0,.int .i64 0,.int .i64 0,.int .i64 0,.int .i64 0,.int .i64 0,.int .i64 0,.int .i64 0,.int .i64 0,.int .i64 0,.int .i64 0,.int .i64 0,.int .i64 0] none,.cells [.int .i64 0,.sl 28 0 1 1] none,.cells [.int .i64 1,.int .i64 0,.int .i64 0,.int .i64 0,.int .u64 0,.int .i64 21,.int .i64 0,.int .i64 0,.int .i64 0,.int .u64 0] (some 5),.cells [.int .i64 (-1),.int .i64 (-1)] (some 1),.cells [.nils] none,.cells [.ptr 29 0] none,.cells [.ptr 30 0,.nils] none,.cells [.int .i64 96,.nils] none]
abbrev tkT (k:Int):List (Nat×LV):=[(5,.ptr 0 0),(6,.ptr 1 0),(8,.int .i64 k),(10,.ptr 2 0)]
theorem rest_k {tm:Tm} {s:St} (h:okE (lsp prog (ctrOf cxr) 20000 137 ((sp prog 3).drop 10) tm s)=true):SSp prog 137 ((sp prog 3).drop 10) 0 tm s (vK tlL (endK 0 [4] tlL gtab fun l _=>l=.bool true)):=by
 cases hr:lsp prog (ctrOf cxr) 20000 137 ((sp prog 3).drop 10) tm s with
 | none=>rw [hr] at h; cases h
 | some p =>
   obtain⟨x,tm',s'⟩:=p
   rw [hr] at h
   cases x with
   | normal=>cases h
   | exit k=>cases h
   | ret =>
     simp only [okE,Bool.and_eq_true] at h
     exact SSp.lrun cxr_ok (Nat.zero_le _) hr ⟨trivial,isG_eq h.2,.bool true,[],[],rfl,leafT (isB1_eq h.1)⟩
end
end Go.Lev
