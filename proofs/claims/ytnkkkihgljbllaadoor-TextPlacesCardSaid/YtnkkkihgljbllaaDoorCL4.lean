/- TextPlaces: how long a program's text is; the numbers of a drawn program -/
import Derived.Test.YtnkkkihgljbllaaDoorCQ8
import Derived.Test.YtnkkkihgljbllaaDoorCT3
import Derived.Test.YtnkkkihgljbllaaDoorCY3
import Derived.Test.YtnkkkihgljbllaaDoorLc
import Derived.Test.YtnkkkihgljbllaaDoorChecked
import Derived.KernelRfl
namespace Go.Lev
set_option linter.unusedSimpArgs false
set_option linter.unusedVariables false
open Go.RowKit
open Go.Proofs.Tryd (prog)
set_option maxRecDepth 100000
noncomputable section
theorem dec2 {n:Int} (h0:0≤n) (h1:n≤40):(decW n).length≤2:=by
 rw [decW,Lib.decDigits_length]
 exact nd_le 1 _ (by omega)
theorem call10 (n:Int):(callW n).length≤10:=by
 have hc:∀ m:Nat,(clN m).length≤10:=fun m=>by
  unfold clN; split <;> simp
 exact hc _
theorem name6 (op:Int):(nameW op).length≤6:=by
 have hc:∀ m:Nat,(nmN m).length≤6:=fun m=>by
  unfold nmN; split <;> simp
 exact hc _
theorem sg11 {s n:Int} (h0:0≤n) (h1:n≤40):(sgW s n).length≤11:=by
 have a:=dec2 h0 h1; have b:=call10 n
 unfold sgW pvW
 split
 ·simp
 ·split
  ·simp; omega
  ·split
   ·simp; omega
   ·split <;> simp <;> omega
theorem line70 {op a b c n:Int} (h:mayW op a b c n=true) (hn:0≤n∧n≤18446744073709551615):(lineW op a b c n).length≤70:=by
 obtain⟨⟨o1,o2⟩,⟨a1,a2⟩,⟨b1,b2⟩,c1,c2⟩:=may_b h
 have sa:=sg11 (s:=fA op) a1 a2; have sb:=sg11 (s:=fB op) b1 b2; have sc:=sg11 (s:=fC op) c1 c2; have sd:=sg_len (s:=fD op) hn.1 hn.2
 have ln:=name6 op
 unfold lineW
 simp only [List.length_append]
 omega
theorem lab5 (b:Bool) (k:Nat) (hk:k≤40) (x y:UInt8):(labX b k [x,y]).length≤5:=by
 have:=dec2 (n:=(k:Int)) (by omega) (by omega)
 unfold labX; split <;> simp <;> omega
theorem outK_76 {L:List InsR} (h:okP L) (hb:∀ x∈L,ins_bd x):∀ k,k≤L.length→(outK L k).length≤76 * k
 | 0,_=>by simp [outK]
 | k+1,hk=>by
   have i:=outK_76 h hb k (by omega)
   have hx:L[k]∈L:=List.getElem_mem (by omega)
   have l1:(lnX L[k]).length≤70:=line70 (h.2 _ hx).1 (by have:=(hb _ hx).2.2.2.2; exact this)
   have l2:=lab5 (nmB L k) k (by have:=h.1; omega) 58 32
   rw [outK_succ (by omega)]
   simp only [List.length_append,List.length_cons,List.length_nil]
   omega
theorem ptx_len {L:List InsR} (hb:∀ x∈L,ins_bd x):(ptxW (encL insE L)).length≤3100:=by
 by_cases h:okP L
 ·rw [ptxW_ok h,outL]
  have i:=outK_76 h hb L.length (Nat.le_refl _)
  have l2:=lab5 (nmB L L.length) L.length h.1 58 10
  have:=h.1
  simp only [List.length_append]
  omega
 ·rw [ptxW_no h]; simp
theorem bd_mk {op a b c n:Int} (h1:0≤op∧op≤100) (h2:0≤a∧a≤2000) (h3:0≤b∧b≤2000) (h4:0≤c∧c≤2000) (h5:0≤n∧n≤18446744073709551615):ins_bd ⟨op,a,b,c,n⟩:=by
 have e1:IntKind.min .i64 = -9223372036854775808:=rfl
 have e2:IntKind.max .i64=9223372036854775807:=rfl
 have e3:IntKind.min .u64=0:=rfl
 have e4:IntKind.max .u64=18446744073709551615:=rfl
 refine⟨⟨?_,?_⟩,⟨?_,?_⟩,⟨?_,?_⟩,⟨?_,?_⟩,?_,?_⟩ <;> simp only [e1,e2,e3,e4] <;> omega
theorem sim_bd {w a b c n:Int} (hn:0≤n∧n≤18446744073709551615):ins_bd (simF w a b c n):=by
 have wa:=wthV_in (a:=a) (lo:=0) (hi:=6) (by omega)
 have wb:=wthV_in (a:=b) (lo:=0) (hi:=6) (by omega)
 have wc:=wthV_in (a:=c) (lo:=0) (hi:=6) (by omega)
 have wd:=wthV_in (a:=c) (lo:=6) (hi:=15) (by omega)
 have we:=wthV_in (a:=c) (lo:=0) (hi:=3) (by omega)
 have wf:=wthV_in (a:=xwr .i64 (xar .rem .u64 n 64)) (lo:=0) (hi:=4) (by omega)
 have hr:0≤xar .rem .u64 n 20∧xar .rem .u64 n 20≤18446744073709551615:=by
  rw [xar_rem _ _ _ (by omega),Int.tmod_eq_emod_of_nonneg hn.1]; omega
 have ha:xar .add .i64 3 (wthV (xwr .i64 (xar .rem .u64 n 64)) 0 4)=3+wthV (xwr .i64 (xar .rem .u64 n 64)) 0 4:=add_i64 (by omega) (by omega)
 unfold simF simV
 rw [ha]
 repeat' (split)
 all_goals (refine bd_mk ?_ ?_ ?_ ?_ ?_ <;> omega)
theorem I1_bd {k:Int} (h:0≤k∧k≤100):ins_bd (I1 k):=bd_mk h (by omega) (by omega) (by omega) (by omega)
def allBd (l:List InsR):Prop:=∀ x∈l,ins_bd x
theorem allBd_app {a b:List InsR} (h:allBd a) (k:allBd b):allBd (a++b):=fun x hx=>(List.mem_append.1 hx).elim (h x) (k x)
theorem allBd_1 {x:InsR} (h:ins_bd x):allBd [x]:=fun y hy=>by rw [List.mem_singleton.1 hy]; exact h
theorem allBd_2 {x y:InsR} (h:ins_bd x) (k:ins_bd y):allBd [x,y]:=fun z hz=>by
 rcases List.mem_cons.1 hz with rfl | hz
 ·exact h
 ·rw [List.mem_singleton.1 hz]; exact k
theorem shS_bd {l:List InsR} {o:List Int} (h:allBd l):allBd (shS l o).1:=by
 unfold shS
 split
 ·exact allBd_app h (allBd_1 (I1_bd (by omega)))
 ·split
  ·exact allBd_app h (allBd_1 (I1_bd (by omega)))
  ·exact allBd_app h (allBd_1 (I1_bd (by omega)))
theorem zero_bd {v:Int} {n:Nat} (hv:0≤v∧v≤6) (hn:n≤1900):ins_bd ⟨13,v,0,(n:Int),0⟩:=bd_mk (by omega) (by omega) (by omega) (by omega) (by omega)
theorem gst_bd {calm:Bool} {x:KinR} {l:List InsR} {o:List Int} (hx:0≤x.n∧x.n≤18446744073709551615) (hl:l.length≤1000) (h:allBd l):allBd (gst calm x l o).1:=by
 have wa:=wthV_in (a:=x.a) (lo:=0) (hi:=6) (by omega)
 have wb:=wthV_in (a:=x.b) (lo:=0) (hi:=6) (by omega)
 have hs:=sim_bd (w:=x.w) (a:=x.a) (b:=x.b) (c:=x.c) hx
 unfold gst
 split
 ·exact allBd_app h (allBd_1 (I1_bd (by omega)))
 split
 ·exact allBd_app h (allBd_1 (I1_bd (by omega)))
 split
 ·exact shS_bd h
 split
 ·exact allBd_app h (allBd_1 (I1_bd (by omega)))
 split
 ·exact allBd_app h (allBd_2 (zero_bd (by omega) (by omega)) (I1_bd (by omega)))
 split
 ·exact allBd_app h (allBd_2 (zero_bd (by omega) (by omega)) (I1_bd (by omega)))
 split
 ·exact allBd_app h (allBd_2 (zero_bd (by omega) (by omega)) (I1_bd (by omega)))
 split
 ·exact allBd_app h (allBd_2 (zero_bd (by omega) (by omega)) hs)
 split
 ·exact allBd_app h (allBd_2 hs (zero_bd (by omega) (by omega)))
 ·exact allBd_app h (allBd_1 hs)
theorem gL_bd {m:Int} {calm:Bool} (hm:m≤1000):∀ (ks:List KinR) (l:List InsR) (o:List Int),(∀ x∈ks,0≤x.n∧x.n≤18446744073709551615)→allBd l→allBd (gL m calm ks l o).1
 | [],l,o,_,h=>h
 | x::r,l,o,hk,h=>by
   unfold gL
   split
   ·exact h
   ·exact gL_bd hm r _ _ (fun y hy=>hk y (by simp [hy])) (gst_bd (hk x (by simp)) (by omega) h)
theorem gC_bd:∀ (f:Nat) (l:List InsR) (o:List Int),allBd l→allBd (gC f l o)
 | 0,l,o,h=>h
 | f+1,l,o,h=>by
   unfold gC
   split
   ·exact h
   ·exact gC_bd f _ _ (shS_bd h)
theorem gF_bd {ks:List KinR} {m:Int} {calm:Bool} (hm:m≤1000) (hk:∀ x∈ks,0≤x.n∧x.n≤18446744073709551615):allBd (gF ks m calm):=by
 unfold gF
 split
 ·exact allBd_1 (bd_mk (by omega) (by omega) (by omega) (by omega) (by omega))
 ·exact gC_bd _ _ _ (gL_bd hm _ _ _ hk fun x hx=>by simp at hx)
end
end Go.Lev
