/- strings.Builder: String of a builder that holds something -/
import Derived.Test.YtnkkkihgljbllaaDoorCZ3
namespace Go.Lev
set_option linter.unusedSimpArgs false
set_option linter.unusedVariables false
open Go.RowKit
open Go.Proofs.Tryd (prog)
theorem cells_byte:prog.cellsOf 5=1:=by kernel_rfl
set_option maxHeartbeats 2000000 in
set_option maxRecDepth 100000 in
theorem st_any {b:Nat} {p v:Value} {l:List UInt8} {w:World} (h:BldA 63 5 b p v l w) (h0:l≠[]) (hl:l.length≤1000000) :
  Calls prog 28 #[.pointer (some ⟨b,0,none⟩)] w fun e w'=>e=.returned (.string ⟨l.toArray⟩)∧w.grownBy w' v.ownBlock:=by
 obtain⟨hbk,hp,hrow,hne⟩:=h
 have hl0:l.length≠0:=by simpa using h0
 have hown:=hrow.own
 obtain⟨g,cap,cur,rfl,hg,hnc,hcm,hcs,htake⟩:∃ g cap cur,v=.slice (some ⟨g,0,none⟩) l.length cap∧w.heap[g]? = some (.cells cur 5 (0,0))∧l.length≤cap∧cap≤maxLen∧cur.size=cap * 1∧cur.toList.take (l.length * 1)=bytesV l:=by
  rcases hrow with⟨_,hz⟩ | ⟨g,cap,cur,_,h⟩
  ·exact absurd hz h0
  ·exact⟨g,cap,cur,h⟩
 have hbd:w.drew.heap[b]? = some (.cells #[p,.slice (some ⟨g,0,none⟩) l.length cap] 63 (0,0)):=hbk
 have hgd:w.drew.heap[g]? = some (.cells cur 5 (0,0)):=hg
 have c1:w.drew.cell? ⟨b,1,none⟩=some (.slice (some ⟨g,0,none⟩) l.length cap):=by rw [Lib.cell_of_heap hbd]; rfl
 have hSD:(Builtin.unsafeSliceData_ #[22] 101 #[.slice (some ⟨g,0,none⟩) l.length cap]).run prog w.drew=.ok (.pointer (some ⟨g,0,none⟩)) w.drew :=
  Lib.run_unsafeSliceData_row _ _ _ _ _ _ (by omega)
 have hUS:(Builtin.unsafeString_ #[101,3] 9 #[.pointer (some ⟨g,0,none⟩),.int .i64 l.length]).run prog w.drew=.ok (.string ⟨l.toArray⟩) (w.drew.freeze ⟨g,0,none⟩ l.length):=by
  refine Lib.run_unsafeString_row w.drew 101 3 9 5 Go.Proofs.Tryd.underlying101 cells_byte g cur.size (by simp [World.shape?,hgd]) l h0 (by omega) (by unfold maxLen at hcm; omega) ?_
  intro j x hx
  exact hown.cells (g:=g) rfl j (.int .u8 x.toNat) (by simp [bytesV,hx])
 have hfr:w.grownBy (w.drew.freeze ⟨g,0,none⟩ l.length) (some g):=by
  have:=Lib.below_freeze (Below.drew (Below.refl 0 w)) (p:=⟨g,0,none⟩) (Nat.zero_le _) l.length
  refine⟨this.os,this.tape,this.output,this.size,fun k _ hk=>?_⟩
  have hkg:k≠g:=fun e=>hk (by rw [e])
  unfold World.freeze
  split
  ·rfl
  ·simp only [World.drew]
   rw [Array.getElem?_modify,if_neg (Ne.symm hkg)]
 have mixed:prog.follows .mixedOrders=true:=by kernel_rfl
 go_enter Go.Proofs.Tryd.func28,Go.Proofs.Tryd.ntmps28
 go_wp2
 go_region_o
 all_goals (go_wp2; go_ret; exact⟨rfl,hfr⟩)
set_option maxHeartbeats 2000000 in
set_option maxRecDepth 100000 in
theorem st_nil {b:Nat} {p v:Value} {w:World} (h:BldA 63 5 b p v [] w) :
  Calls prog 28 #[.pointer (some ⟨b,0,none⟩)] w fun e w'=>e=.returned (.string ⟨#[]⟩)∧w.grownBy w' v.ownBlock:=by
 obtain⟨hbk,hp,hrow,hne⟩:=h
 obtain rfl:v=.slice none 0 0:=by
  rcases hrow with⟨h,_⟩ | ⟨g,cap,cur,h0,_⟩
  ·exact h
  ·exact absurd rfl h0
 have hbd:w.drew.heap[b]? = some (.cells #[p,.slice none 0 0] 63 (0,0)):=hbk
 have c1:w.drew.cell? ⟨b,1,none⟩=some (.slice none 0 0):=by rw [Lib.cell_of_heap hbd]; rfl
 have hSD:(Builtin.unsafeSliceData_ #[22] 101 #[.slice none 0 0]).run prog w.drew=.ok (.pointer none) w.drew:=rfl
 have hUS:(Builtin.unsafeString_ #[101,3] 9 #[.pointer none,.int .i64 0]).run prog w.drew=.ok (.string ⟨#[]⟩) w.drew:=Lib.run_unsafeString_none w.drew _ _ _ none
 have mixed:prog.follows .mixedOrders=true:=by kernel_rfl
 go_enter Go.Proofs.Tryd.func28,Go.Proofs.Tryd.ntmps28
 go_wp2
 go_region_o
 all_goals (go_wp2; go_ret; exact⟨rfl,rfl,rfl,rfl,Nat.le_refl _,fun _ _ _=>rfl⟩)
end Go.Lev
