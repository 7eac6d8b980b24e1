/- text.Print of one instruction, as a contract of closed runs -/
import Derived.Test.YticekakedhinkaaDoorCW7
import Derived.Test.YticekakedhinkaaDoorRows
import Derived.Test.YticekakedhinkaaDoorLc
import Derived.Test.YticekakedhinkaaDoorLc
namespace Go.Lev
set_option linter.unusedSimpArgs false
set_option linter.unusedVariables false
open Go.RowKit
open Go.Proofs.Tryd (prog)
set_option maxRecDepth 100000
noncomputable def isAlloc (T d:Nat):Code→Bool
 | .region _ ops false=>(match ops.toList with
   | [o]=>(match o.op,o.dst,o.guard with
     | .alloc t,some e,none=>Nat.beq t T && Nat.beq e d
     | _,_,_=>false)
   | _=>false)
 | _=>false
noncomputable def allocB (T e nt d:Nat) (tm:Tm) (s:St):Option (Tm×St):=match s.new (.obj bldP (bldL [] T e) (s.n+1)) with
 | some s1=>(match s1.new .dead with
   | some s2=>(match putTm nt tm (some d) (.ptr s.n 0) with
     | some tm'=>some (tm',s2)
     | none=>none)
   | none=>none)
 | none=>none
theorem alloc_step {P:Program} {T e nt d n0:Nat} {c:Code} (hc:isAlloc T d c=true) (hz:tyZero P T=some (.agg #[.pointer none,.slice none 0 0])) {tm tm':Tm} {s s':St} (hn:n0≤s.n) (ha:allocB T e nt d tm s=some (tm',s')) {Q:LX→Tm→St→Prop} (hq:Q .normal tm' s'):SCode P nt c n0 tm s Q:=by
 intro W0 r a w hI hA K hK
 unfold allocB at ha
 split at ha
 case h_2=>cases ha
 rename_i s1 h1
 split at ha
 case h_2=>cases ha
 rename_i s2 h2
 split at ha
 case h_2=>cases ha
 rename_i tm2 h3
 simp only [Option.some.injEq,Prod.mk.injEq] at ha
 obtain⟨rfl,rfl⟩:=ha
 obtain⟨k1,k2⟩:=hI.newBld h1 h2
 obtain⟨p1,p2⟩:=putTm_spec h3
 unfold isAlloc at hc
 split at hc
 case h_2=>cases hc
 rename_i id ops
 split at hc
 case h_2=>cases hc
 rename_i o ho
 split at hc
 case h_2=>cases hc
 rename_i t e' hop hdst hgd
 simp only [Bool.and_eq_true] at hc
 have e1:=Nat.eq_of_beq_eq_true hc.1
 have e2:=Nat.eq_of_beq_eq_true hc.2
 subst e1 e2
 refine wp_region_list ?_
 rw [ho]
 refine wpList_plain hgd fun K2 hK2=>?_
 unfold Oper.wp
 have hrun:(execOp a.eval o).run P w=.ok (.value (.pointer (some ⟨w.heap.size,0,none⟩))) { w with heap:=w.heap.push (.cells #[.pointer none,.slice none 0 0] t (0,0)) }:=by
  simp [execOp,hop,Instr.alloc,run_zero' hz,newVar,newRow]; rfl
 rw [hrun,Oper.upon_value]
 refine hK2 _ _ ?_
 refine wpList_nil ?_
 rw [hdst]
 exact hK .normal _ _ _ _ _ hq k1 (ExtB.of k2 hn) ((hA.mono k2.le).put (dst:=some e') (v:=.ptr s.n 0) (by simp only [VR]; exact⟨w.heap.size,0,0,by simp [renB],rfl⟩) p1 p2)
noncomputable def gtab:Glb:=[(4,flatD Go.Proofs.YticekakedhinkaaDoor.Rows.laid_math_bits_deBruijn32tab),(5,flatD Go.Proofs.YticekakedhinkaaDoor.Rows.laid_math_bits_deBruijn64tab),(3,flatD Go.Proofs.YticekakedhinkaaDoor.Rows.laid_internal_strconv_uint64pow10),(0,flatD Go.Proofs.YticekakedhinkaaDoor.Rows.laid_quietus_code_forms),(2,flatD Go.Proofs.YticekakedhinkaaDoor.Rows.laid_quietus_code_calls)]
noncomputable def eqG:Glb→Glb→Bool
 | [],[]=>true
 | (a,x)::r,(b,y)::t=>Nat.beq a b && eqbs x y && eqG r t
 | _,_=>false
theorem eqG_eq:∀ {a b:Glb},eqG a b=true→a=b
 | [],[],_=>rfl
 | (a,x)::r,(b,y)::t,h=>by
   simp only [eqG,Bool.and_eq_true] at h
   rw [Nat.eq_of_beq_eq_true h.1.1,eqbs_eq h.1.2,eqG_eq h.2]
 | [],_::_,h=>by simp [eqG] at h
 | _::_,[],h=>by simp [eqG] at h
abbrev retI:List LV:=[.int .i64 20,.int .i64 0,.int .i64 0,.int .i64 0,.int .u64 0]
abbrev retS:List UInt8:=[114,101,116,114,121,10]
noncomputable def cxb:Cx:=cxl [(11,wrS 47 5),(14,stS 47 5)]
theorem cxb_ok:CtrOk prog (ctrOf cxb):=cxl_ok ⟨wrS_ok,stS_ok,trivial⟩
noncomputable def runB (f nt k d:Nat) (tm:Tm) (s:St):Option (LX×Tm×St):=match lsp prog (ctrOf cxb) 20000 nt (seg (sp prog f) 0 k) tm s with
 | some (.normal,tm1,s1)=>(match allocB 47 5 nt d tm1 s1 with
   | some (tm2,s2)=>cond (Nat.ble 1 s1.n && Nat.ble 1 s2.n) (lsp prog (ctrOf cxb) 20000 nt ((sp prog f).drop (k+1)) tm2 s2) none
   | none=>none)
 | _=>none
noncomputable def endP:Option (LX×Tm×St)→Bool
 | some (.ret,tm,s)=>eqG s.g gtab && eqbs [tmGet tm 2] [.str retS] && Nat.ble 1 s.n && (match s.h.get 0 with
   | some (.cells cs none)=>eqbs cs retI
   | _=>false)
 | _=>false
theorem print_run:endP (runB 6 58 6 6 (tm0 [.agg [.sl 0 0 1 1]]) (mkS [.cells retI none] gtab))=true:=by kernel_rfl
end Go.Lev
