/- strings.Builder: the statement that makes one -/
import Derived.Test.YtnkkkihgljbllaaDoorCZ7
import Derived.Test.YtnkkkihgljbllaaDoorLc
import Derived.Test.YtnkkkihgljbllaaDoorLc
namespace Go.Lev
set_option linter.unusedSimpArgs false
set_option linter.unusedVariables false
open Go.RowKit
open Go.Proofs.Tryd (prog)
set_option maxRecDepth 100000
noncomputable def isAlloc (T d:Nat):Code→Bool
 | .region _ ops false=>(match ops.toList with
   | [o]=>(match o.op,o.dst,o.guard with
     | .alloc t,some e,none=>Nat.beq t T && Nat.beq e d
     | _,_,_=>false)
   | _=>false)
 | _=>false
noncomputable def allocB (T e nt d:Nat) (tm:Tm) (s:St):Option (Tm×St):=match s.new (.obj bldP (bldL [] T e) (s.n+1)) with
 | some s1=>(match s1.new .dead with
   | some s2=>(match putTm nt tm (some d) (.ptr s.n 0) with
     | some tm'=>some (tm',s2)
     | none=>none)
   | none=>none)
 | none=>none
theorem alloc_step {P:Program} {T e nt d n0:Nat} {c:Code} (hc:isAlloc T d c=true) (hz:tyZero P T=some (.agg #[.pointer none,.slice none 0 0])) {tm tm':Tm} {s s':St} (hn:n0≤s.n) (ha:allocB T e nt d tm s=some (tm',s')) {Q:LX→Tm→St→Prop} (hq:Q .normal tm' s'):SCode P nt c n0 tm s Q:=by
 intro W0 r a w hI hA K hK
 unfold allocB at ha
 split at ha
 case h_2=>cases ha
 rename_i s1 h1
 split at ha
 case h_2=>cases ha
 rename_i s2 h2
 split at ha
 case h_2=>cases ha
 rename_i tm2 h3
 simp only [Option.some.injEq,Prod.mk.injEq] at ha
 obtain⟨rfl,rfl⟩:=ha
 obtain⟨k1,k2⟩:=hI.newBld h1 h2
 obtain⟨p1,p2⟩:=putTm_spec h3
 unfold isAlloc at hc
 split at hc
 case h_2=>cases hc
 rename_i id ops
 split at hc
 case h_2=>cases hc
 rename_i o ho
 split at hc
 case h_2=>cases hc
 rename_i t e' hop hdst hgd
 simp only [Bool.and_eq_true] at hc
 have e1:=Nat.eq_of_beq_eq_true hc.1
 have e2:=Nat.eq_of_beq_eq_true hc.2
 subst e1 e2
 refine wp_region_list ?_
 rw [ho]
 refine wpList_plain hgd fun K2 hK2=>?_
 unfold Oper.wp
 have hrun:(execOp a.eval o).run P w=.ok (.value (.pointer (some ⟨w.heap.size,0,none⟩))) { w with heap:=w.heap.push (.cells #[.pointer none,.slice none 0 0] t (0,0)) }:=by
  simp [execOp,hop,Instr.alloc,run_zero' hz,newVar,newRow]; rfl
 rw [hrun,Oper.upon_value]
 refine hK2 _ _ ?_
 refine wpList_nil ?_
 rw [hdst]
 exact hK .normal _ _ _ _ _ hq k1 (ExtB.of k2 hn) ((hA.mono k2.le).put (dst:=some e') (v:=.ptr s.n 0) (by simp only [VR]; exact⟨w.heap.size,0,0,by simp [renB],rfl⟩) p1 p2)
end Go.Lev
