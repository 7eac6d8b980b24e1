/- text: what a program's text is; the piece around the new builder -/
import Derived.Test.YtnkkkihgljbllaaDoorCT2
import Derived.Test.YtnkkkihgljbllaaDoorLc
import Derived.Test.YtnkkkihgljbllaaDoorChecked
import Derived.KernelRfl
import Derived.Test.YtnkkkihgljbllaaDoorCZ8
namespace Go.Lev
set_option linter.unusedSimpArgs false
set_option linter.unusedVariables false
open Go.RowKit
open Go.Proofs.Tryd (prog)
set_option maxRecDepth 100000
noncomputable section
def nmB (L:List InsR) (j:Nat):Bool:=L.any fun x=>decide (x.op=12∨x.op=13) && decide (x.c=(j:Int))
abbrev nmT (L:List InsR) (i:Nat):Nat→Bool:=fun j=>nmB (L.take i) j
theorem nmT_zero (L:List InsR) (j:Nat):nmT L 0 j=false:=by simp [nmT,nmB]
theorem nmT_full (L:List InsR):nmT L L.length=nmB L:=funext fun j=>by simp [nmT]
theorem nmT_succ {L:List InsR} {i:Nat} (h:i < L.length) (j:Nat):nmT L (i+1) j=(nmT L i j || (decide (L[i].op=12∨L[i].op=13) && decide (L[i].c=(j:Int)))):=by
 show nmB (L.take (i+1)) j=_
 rw [List.take_add_one,List.getElem?_eq_getElem h]
 simp only [Option.toList_some,nmB,List.any_append,List.any_cons,List.any_nil,Bool.or_false]
theorem nm_no {L:List InsR} {i:Nat} (h:i < L.length) (hn:¬ (L[i].op=12∨L[i].op=13)) (N:Nat):tab cB N (nmT L (i+1))=tab cB N (nmT L i) :=
 tab_congr fun j _=>by rw [nmT_succ h,decide_eq_false hn,Bool.false_and,Bool.or_false]
theorem nm_yes {L:List InsR} {i m N:Nat} (h:i < L.length) (hn:L[i].op=12∨L[i].op=13) (hc:L[i].c=(m:Int)) (hm:m < N):xlay (tab cB N (nmT L i)) m [.bool true]=tab cB N (nmT L (i+1)):=by
 rw [cB_set _ _ hm]
 refine tab_congr fun j _=>?_
 rw [nmT_succ h,decide_eq_true hn,Bool.true_and,hc]
 by_cases e:j=m
 ·subst e; rw [upd_same,decide_eq_true rfl,Bool.or_true]
 ·rw [upd_ne _ _ e,decide_eq_false (fun k=>e (by omega)),Bool.or_false]
abbrev lnX (x:InsR):List UInt8:=lineW x.op x.a x.b x.c x.n
def labX (b:Bool) (k:Nat) (s:List UInt8):List UInt8:=if b=true then(108::decW (k:Int))++s else []
def outK (L:List InsR):Nat→List UInt8
 | 0=>[]
 | k+1=>(outK L k++labX (nmB L k) k [58,32])++(match L[k]? with
   | some x=>lnX x++[10]
   | none=>[])
theorem outK_succ {L:List InsR} {k:Nat} (h:k < L.length):outK L (k+1)=(outK L k++labX (nmB L k) k [58,32])++(lnX L[k]++[10]):=by
 rw [outK,List.getElem?_eq_getElem h]
def outL (L:List InsR):List UInt8:=outK L L.length++labX (nmB L L.length) L.length [58,10]
def ptxW (cs:List LV):List UInt8:=@ite _ (okP (decI5 cs)) (Classical.propDecidable _) (outL (decI5 cs)) []
theorem ptxW_ok {L:List InsR} (h:okP L):ptxW (encL insE L)=outL L:=by rw [ptxW,decI5_enc,if_pos h]
theorem ptxW_no {L:List InsR} (h:¬ okP L):ptxW (encL insE L)=[]:=by rw [ptxW,decI5_enc,if_neg h]
theorem line_len {op a b c n:Int} (h:mayW op a b c n=true) (hn:0≤n∧n≤18446744073709551615):(lineW op a b c n).length≤160:=by
 obtain⟨⟨o1,o2⟩,⟨a1,a2⟩,⟨b1,b2⟩,c1,c2⟩:=may_b h
 have sa:=sg_len (s:=fA op) a1 (by omega); have sb:=sg_len (s:=fB op) b1 (by omega); have sc:=sg_len (s:=fC op) c1 (by omega); have sd:=sg_len (s:=fD op) hn.1 hn.2
 have ln:=name_len op
 unfold lineW
 simp only [List.length_append]
 omega
theorem lab_len (b:Bool) (k:Nat) (hk:k≤100) (x y:UInt8):(labX b k [x,y]).length≤30:=by
 have:=decW_len (n:=(k:Int)) (by omega) (by omega)
 unfold labX; split <;> simp <;> omega
theorem ins_nb {x:InsR} (h:ins_bd x):0≤x.n∧x.n≤18446744073709551615:=by
 simp only [ins_bd] at h
 have h1:=h.2.2.2.2
 simpa [IntKind.min,IntKind.max,IntKind.signed,IntKind.bits] using h1
theorem outK_len {L:List InsR} (h:okP L) (hb:∀ x∈L,ins_bd x):∀ k,k≤L.length→(outK L k).length≤k * 250
 | 0,_=>by simp [outK]
 | k+1,hk=>by
   have ih:=outK_len h hb k (by omega)
   have h40:=h.1
   have hm:=List.getElem_mem (l:=L) (n:=k) (by omega)
   have l1:(lnX L[k]).length≤160:=line_len (h.2 _ hm).1 (ins_nb (hb _ hm))
   have l2:=lab_len (nmB L k) k (by omega) 58 32
   rw [outK_succ (by omega)]
   simp only [List.length_append,List.length_cons,List.length_nil]
   omega
theorem bl_zero:tyZero prog 63=some (.agg #[.pointer none,.slice none 0 0]):=by kernel_rfl
theorem blkAt_get {s:St} {c:Nat} (h:c < s.n):blkAt (blksOf s) c=s.h.get c:=by
 unfold blkAt blksOf; rw [blksFrom_get,if_pos h]; simp
theorem wrS3_ok:GOk prog 25 (wrS3 63 5):=wrS_ok
theorem stS3_ok:GOk prog 28 (stS3 63 5):=stS_ok
theorem cxA_ok:CtrOk prog (ctrOf cxA):=cxl_ok ⟨prG_ok,lbG_ok,piG_ok,wrS3_ok,stS3_ok,trivial⟩
theorem alloc_to {n:Nat} {cs nm:List LV} (nc:noIds cs=true) (nn:noIds nm=true) {Φ : Pk} (h2:SSp prog 58 ((sp prog 12).drop 7) 1 (mkTm 58 [(1,.ptr 1 0),(2,.str []),(3,.ptr 2 0),(6,.ptr 3 0)]) (mkS (pbH n cs nm []) gt4) (vK paL Φ)) :
  SSp prog 58 ((sp prog 12).drop 6) 1 (mkTm 58 (paT n n)) (mkS (paH n cs nm) gt4) (vK paL Φ):=by
 rw [drop_nth _ 6 (by decide +kernel)]
 obtain⟨⟨tm',s'⟩,ha⟩:∃ x,allocB 63 5 58 6 (mkTm 58 (paT n n)) (mkS (paH n cs nm) gt4)=some x:=Option.isSome_iff_exists.1 (by kernel_rfl)
 refine alloc_step (by kernel_rfl) bl_zero (mkS_le (Nat.le_of_ble_eq_true rfl)) ha ?_
 have ha2:=ha
 unfold allocB at ha2
 split at ha2
 case h_2=>cases ha2
 rename_i s1 e1
 split at ha2
 case h_2=>cases ha2
 rename_i s2 e2
 split at ha2
 case h_2=>cases ha2
 rename_i tm2 e3
 simp only [Option.some.injEq,Prod.mk.injEq] at ha2
 obtain⟨rfl,rfl⟩:=ha2
 obtain⟨n1,g1⟩:=St.new_spec e1
 obtain⟨n2,g2⟩:=St.new_spec e2
 obtain⟨_,p2⟩:=putTm_spec e3
 have hn0:(mkS (paH n cs nm) gt4).n=3:=by rw [mkS_n]; rfl
 have hn:s2.n=5:=by omega
 have hget:∀ m,s2.h.get m=if m=4 then some .dead else if m=3 then some (.obj bldP (bldL [] 63 5) 4) else(paH n cs nm)[m]?:=fun m=>by
  rw [g2,g1,n1,hn0,mkS_get]
 have ht:∀ t,t < 58→tmGet tm2 t=if t=6 then .ptr 3 0 else slotAt (paT n n) t:=fun t h=>by
  rw [p2,mkTm_get,if_pos h,hn0]
  by_cases e:t=6
  ·subst e; rfl
  ·rw [if_neg e,if_neg (fun k=>e (by simpa using k.symm))]
 have k:=toK_ok (nt:=58) (n0:=1) (l:=(sp prog 12).drop 7) (L:=paL) (g:=gt4) (T:=fun _:Unit=>[(1,.ptr 1 0),(2,.str []),(3,.ptr 2 0),(6,.ptr 3 0)]) (H:=fun _=>pbH n cs nm []) (Φ:=Φ)
  (fun e=>by have h3:((sp prog 12).drop 7).isEmpty=true:=by rw [e]; rfl
             have h4:((sp prog 12).drop 7).isEmpty=false:=by kernel_rfl
             rw [h3] at h4; cases h4) (fun _=>h2) (x:=.normal) (tm:=tm2) (s:=s2)
  ⟨by rw [St.new_g e2,St.new_g e1]; rfl,(),[.id 0,.id 1,.id 2,.id 3,.id 4],by kernel_rfl,?_,?_⟩
 ·exact k
 ·refine⟨?_,?_,?_,?_,trivial⟩
  ·show LVW _ _ (tmGet tm2 1); rw [ht 1 (by omega),if_neg (by omega)]; show LVW _ (.ptr 1 0) (.ptr 1 0); simp [LVW,lsrc]
  ·show LVW _ _ (tmGet tm2 2); rw [ht 2 (by omega),if_neg (by omega)]; show LVW _ (.str []) (.str []); simp only [LVW]
  ·show LVW _ _ (tmGet tm2 3); rw [ht 3 (by omega),if_neg (by omega)]; show LVW _ (.ptr 2 0) (.ptr 2 0); simp [LVW,lsrc]
  ·show LVW _ _ (tmGet tm2 6); rw [ht 6 (by omega)]; simp [LVW,lsrc]
 ·refine⟨?_,?_,?_,?_,?_,trivial⟩
  ·show LBW _ _ _ (blkAt (blksOf s2) 0); rw [blkAt_get (by omega),hget]; exact lb_ro nc
  ·show LBW _ _ _ (blkAt (blksOf s2) 1); rw [blkAt_get (by omega),hget]; show LBW _ _ _ (some (.cells [.slo 0 0 n 0] none)); simp [LBW,CW,LVWs,LVW,lsrc]
  ·show LBW _ _ _ (blkAt (blksOf s2) 2); rw [blkAt_get (by omega),hget]; exact lb_same nn
  ·show LBW _ _ _ (blkAt (blksOf s2) 3); rw [blkAt_get (by omega),hget]; exact lb_obj rfl
  ·show LBW _ _ _ _; simp only [LBW]
end
end Go.Lev
