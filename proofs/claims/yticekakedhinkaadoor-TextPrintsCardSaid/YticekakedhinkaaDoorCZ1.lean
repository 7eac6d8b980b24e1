/- strings.Builder: what copyCheck does with a builder of its own block -/
import Derived.Test.YticekakedhinkaaDoorLc
import Derived.Test.YticekakedhinkaaDoorChecked
import Derived.KernelRfl
import Derived.Shelf.Strings.Builder1
namespace Go.Lev
set_option linter.unusedSimpArgs false
set_option linter.unusedVariables false
open Go.RowKit
open Go.Proofs.Tryd (prog)
theorem bl_size:(prog.info? 47).map (·.size)=some 2:=by kernel_rfl
theorem bl_lies:liesAt prog prog.depth 47 (2 / prog.cellsOf 47) 0 47 1=true:=by kernel_rfl
set_option maxHeartbeats 1000000 in
set_option maxRecDepth 100000 in
theorem cc_used (b:Nat) (w:World) (h0:w.cell? ⟨b,0,none⟩=some (.pointer (some ⟨b,0,none⟩))) :
  Calls prog 22 #[.pointer (some ⟨b,0,none⟩)] w fun e w'=>e=.returned (.tuple #[])∧w'=w:=by
 obtain⟨j,hj,_⟩:=Option.map_eq_some_iff.1 bl_size
 go_enter Go.Proofs.Tryd.func22,Go.Proofs.Tryd.ntmps22
 go_wp2
 rw [Lib.run_neq_ptr_same w _ Go.Proofs.Tryd.underlying45 hj]
 go_wp2
 go_end0
 exact⟨rfl,rfl⟩
set_option maxHeartbeats 1000000 in
set_option maxRecDepth 100000 in
theorem cc_fresh (b:Nat) (w:World) (h0:w.cell? ⟨b,0,none⟩=some (.pointer none)) (hsh:w.shape? b=some (47,2)) (hfz:w.frozen? ⟨b,0,none⟩=false) :
  Calls prog 22 #[.pointer (some ⟨b,0,none⟩)] w fun e w'=>e=.returned (.tuple #[])∧w'=w.setCell ⟨b,0,none⟩ (.pointer (some ⟨b,0,none⟩)):=by
 obtain⟨j,hj,hjs⟩:=Option.map_eq_some_iff.1 bl_size
 go_enter Go.Proofs.Tryd.func22,Go.Proofs.Tryd.ntmps22
 go_wp2
 rw [Lib.run_to_unsafe w ⟨b,0,none⟩ Go.Proofs.Tryd.underlying45 Go.Proofs.Tryd.underlying94 hj (by rw [hjs]; decide) hsh (Nat.zero_lt_succ 1)]
 simp only [Result.andThen]
 rw [Oper.upon_value]
 go_wp2
 rw [run_callFunc_extern Go.Proofs.Tryd.func40 (by kernel_rfl) (by kernel_rfl) (by kernel_rfl) (e:=Extern.AbiNoEscape.same) (by kernel_rfl)]
 rw [Lib.run_noEscape]
 simp only [Result.andThen]
 rw [Oper.upon_value]
 go_wp2
 rw [Lib.run_from_unsafe w ⟨b,0,none⟩ Go.Proofs.Tryd.underlying94 Go.Proofs.Tryd.underlying45 hj hsh bl_lies]
 simp only [Result.andThen]
 rw [Oper.upon_value]
 go_wp2
 go_end0
 exact⟨rfl,rfl⟩
end Go.Lev
