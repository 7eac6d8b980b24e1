/- ThreadLimits: a run behind the cut as the rest of the law -/
import Derived.Test.YtcgkfbdbbfpofaaGreatDoorCT1
import Derived.Test.YtcgkfbdbbfpofaaGreatDoorLc
import Derived.Test.YtcgkfbdbbfpofaaGreatDoorChecked
import Derived.KernelRfl
import Derived.Test.YtcgkfbdbbfpofaaGreatDoorLc
namespace Go.Lev
set_option linter.unusedSimpArgs false
set_option linter.unusedVariables false
open Go.RowKit
open Go.Proofs.Tryz (prog)
set_option maxRecDepth 100000
noncomputable section
abbrev tlH:List LB:=[.cells [.int .i64 0,.int .i64 0,.int .i64 0,.int .i64 4,.int .u64 0,.int .i64 0,.int .i64 0,.int .i64 9] none,.cells [.int .i64 32,.int .i64 1,.int .i64 1,.int .i64 4,.int .u64 0] none,.cells [.int .i64 0,.int .i64 0,.int .i64 0,.int .i64 4,.int .u64 0] none,.cells [.int .i64 32,.int .i64 1,.int .i64 1,.int .i64 4,.int .u64 0] none,.cells [.int .u64 0,.int .u64 0,.int .u64 0,.int .u64 0,.int .u64 0,.int .u64 0,.int .u64 0,.int .u64 0,.int .u64 0,.int .u64 0,.int .u64 0,.int .u64 0,.int .u64 0,.int .u64 0,.int .u64 0,.int .u64 0,.int .u64 0,.int .u64 0,.int .u64 0,.int .u64 0,.int .u64 0,.int .u64 0,.int .u64 0,.int .u64 0,.int .u64 0,.int .u64 0,.int .u64 0,.int .u64 0,.int .u64 0,.int .u64 0,.int .u64 0,.int .u64 0] none,.cells [.sl 4 0 32 32] none,.cells [.int .u64 0,.bool false,.int .i64 0] none,.cells [.int .i64 1,.sl 6 0 1 1] none,.cells [.int .u64 0] none,.cells [.int .u64 0,.int .u64 0,.int .u64 0,.int .u64 0] none,.cells [.sl 9 0 4 4] none,.cells [.int .i64 32,.int .i64 1,.int .i64 1,.int .i64 4,.int .u64 0,.ptr 5 0,.ptr 7 0,.ptr 8 0,.ptr 10 0,.int .i64 0] none]
abbrev tlT (me:Int) (k:Int):List (Nat×LV):=[(1,.int .i64 me),(5,.ptr 0 0),(6,.ptr 11 0),(7,.nils),(8,.int .i64 k)]
abbrev tlL:List Nat:=[1,4,5,6,7,8,10]
def isG (g:Glb):Bool:=match g with
 | [(g0,F0)]=>Nat.beq g0 0 && eqbs F0 formsL
 | _=>false
theorem isG_eq {g:Glb} (h:isG g=true):g=gtab:=by
 unfold isG at h
 split at h
 ·simp only [Bool.and_eq_true] at h
  rw [Nat.eq_of_beq_eq_true h.1,eqbs_eq h.2]; rfl
 ·cases h
def isB1 (l:LV):Bool:=match l with
 | .bool b=>b
 | _=>false
theorem isB1_eq {l:LV} (h:isB1 l=true):l=.bool true:=by
 unfold isB1 at h
 split at h
 ·rw [h]
 ·cases h
def okE (o:Option (LX×Tm×St)):Bool:=match o with
 | some (.ret,tm,s)=>isB1 (tmGet tm 4) && isG s.g
 | _=>false
theorem leafT {bs:List (Option LB)} {l:LV} (h:l=.bool true):convOk 0 1 [0] [l] bs [] [(0,.bool true)] []:=by subst h; (exact zC)
theorem rest_of {tm:Tm} {s:St} (h:okE (lsp prog (ctrOf cxr) 20000 137 ((sp prog 3).drop 7) tm s)=true):SSp prog 137 ((sp prog 3).drop 7) 0 tm s (vK tlL (endK 0 [4] tlL gtab fun l _=>l=.bool true)):=by
 cases hr:lsp prog (ctrOf cxr) 20000 137 ((sp prog 3).drop 7) tm s with
 | none=>rw [hr] at h; cases h
 | some p =>
   obtain⟨x,tm',s'⟩:=p
   rw [hr] at h
   cases x with
   | normal=>cases h
   | exit k=>cases h
   | ret =>
     simp only [okE,Bool.and_eq_true] at h
     exact SSp.lrun cxr_ok (Nat.zero_le _) hr ⟨trivial,isG_eq h.2,.bool true,[],[],rfl,leafT (isB1_eq h.1)⟩
end
end Go.Lev
