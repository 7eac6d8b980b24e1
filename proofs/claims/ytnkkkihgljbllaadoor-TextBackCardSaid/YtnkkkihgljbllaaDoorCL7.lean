import Derived.Test.YtnkkkihgljbllaaDoorCBA
import Derived.Test.YtnkkkihgljbllaaDoorCL1
import Derived.Test.YtnkkkihgljbllaaDoorLc
import Derived.Test.YtnkkkihgljbllaaDoorChecked
import Derived.KernelRfl
import Derived.Test.YtnkkkihgljbllaaDoorRows
import Derived.Lib.LaidTab
/- TextBack: the law's tree -/
namespace Go.Lev
set_option linter.unusedSimpArgs false
set_option linter.unusedVariables false
open Go.RowKit
open Go.Proofs.Tryd (prog)
set_option maxRecDepth 100000
noncomputable section
def cxBT:Cx:=cxl [(8,trG),(12,poG),(11,wrapG progG),(14,pgG),(15,wrapG saG)]
abbrev btL:List Nat:=[4]
abbrev bt_x_b1 (ka:List LV) (kb:List LV):List (Option LB):=[some (.ro ka),some (.ro kb),sC (gW ka 40 false) 5,sC (gW kb 40 false) 5,sN [.slo 2 0 (gN ka 40 false) 0],sN [.slo 3 0 (gN kb 40 false) 0],sC (rdAx (ptxW (gW ka 40 false))) 5,sN [.slo 6 0 (rdNi (ptxW (gW ka 40 false))) 0]]
theorem bt_x (na nb:Nat) (ka kb:List LV) (K:Pk):(xsp prog cxBT 60 62 ((sp prog 5).drop 0) (tm0 [.slo 0 0 na 0,.slo 1 0 nb 0]) (mkS [.ro ka,.ro kb] gt4) (vK btL K))=(
 ck (isFt powF) <|
 ck (okKin na ka 40) <|
 ck (okKin nb kb 40) <|
 ck (isFt powF) <|
 ck (okI5 (gN ka 40 false) (gW ka 40 false)) <|
 ck (isFt powF) <|
 ck (okI5 (gN kb 40 false) (gW kb 40 false)) <|
 ck (xeq (gN kb 40 false) (gN kb 40 false)) <|
 ck (xeq (gN kb 40 false) (gN kb 40 false)) <|
 ck (okT (ptxW (gW ka 40 false))) <|
 ck (pzG (ptxW (gW ka 40 false))) <|
 bif xstr .neq (ptxW (gW ka 40 false)) [] then(
 ck (okE (rdNi (ptxW (gW ka 40 false))) (rdAx (ptxW (gW ka 40 false)))) <|
 ck (okE (gN ka 40 false) (gW ka 40 false)) <|
 bif sameE (rdNi (ptxW (gW ka 40 false))) (gN ka 40 false) (rdAx (ptxW (gW ka 40 false))) (gW ka 40 false) then(
 ck (okE (gN ka 40 false) (gW ka 40 false)) <|
 ck (okE (gN kb 40 false) (gW kb 40 false)) <|
 K .ret [.bool (xbq (xstr .eql (ptxW (gW ka 40 false)) (ptxW (gW kb 40 false))) (sameE (gN ka 40 false) (gN kb 40 false) (gW ka 40 false) (gW kb 40 false)))] (bt_x_b1 ka kb) gt4)
 else(
 K .ret [.bool false] (bt_x_b1 ka kb) gt4))
 else(
 K .ret [.bool false] (bt_x_b1 ka kb) gt4)):=by kernel_rfl
end
end Go.Lev
/- TextBack (P16.4): a program comes back out of its text; two have one text just if they are the same. Condition: the listed package-level variables hold what the program's text lays. -/
namespace Go.Lev
set_option linter.unusedSimpArgs false
set_option linter.unusedVariables false
open Go.RowKit
open Go.Proofs.Tryd (prog)
set_option maxRecDepth 100000
noncomputable section
theorem cxBT_ok:CtrOk prog (ctrOf cxBT):=cxl_ok ⟨trG_ok,poG_ok,wrapG_ok progG_ok,pgG_ok,wrapG_ok saG_ok,trivial⟩
theorem xs_eql (x y:List UInt8):xstr .eql x y=(x == y):=rfl
set_option maxHeartbeats 4000000 in
theorem back_fun (A B:List KinR) (na:A.length≤9223372036854775807) (nb:B.length≤9223372036854775807) (ha:∀ x∈A,kin_bd x) (hb:∀ x∈B,kin_bd x) :
  SFun prog 5 [.slo 0 0 A.length 0,.slo 1 0 B.length 0] (mkS [.ro (encL kinE A),.ro (encL kinE B)] gt4) fun l s=>l=.bool true∧s=mkS [.ro (encL kinE A),.ro (encL kinE B)] gt4:=by
 refine SFun.mono (SFun.pieces (Q:=fun l b=>l=.bool true∧b=[.ro (encL kinE A),.ro (encL kinE B)]) 62 2 btL [4] (by kernel_rfl) rfl rfl rfl ?_) fun l s' ⟨b0,⟨h1,h2⟩,h3⟩=>⟨h1,by rw [h3,h2]⟩
 have nka:=kin_noids A; have nkb:=kin_noids B
 have fa:=pf_of A na ha; have fb:=pf_of B nb hb
 generalize encL kinE A=ka at *
 generalize encL kinE B=kb at *
 generalize A.length=na at *
 generalize B.length=nb at *
 generalize gF A 40 false=L at *
 generalize gF B 40 false=M at *
 obtain⟨_,_,_,e1⟩:=rdZ_back fa.okp fa.bd
 obtain⟨p1,p2,p3⟩:=rd_facts e1
 have n1:=ins_noids L; have n2:=ins_noids M
 have kt:okT (outL L)=true:=okT_iff.2 ⟨fa.l1,by have:=fa.l2; omega⟩
 have i5a:=fa.i5; have i5b:=fb.i5
 rw [fa.gw,fa.gn] at i5a
 rw [fb.gw,fb.gn] at i5b
 refine SSp.vc cxBT_ok (n:=60) (mkS_le (Nat.le_of_ble_eq_true rfl)) ?_
 rw [bt_x]; simp only [bt_x_b1]
 have hs:xstr .neq (outL L) []=true:=by
  have:=fa.l1
  cases h:outL L with
  | nil=>rw [h] at this; simp at this
  | cons b r=>rfl
 have hq:xbq (xstr .eql (outL L) (outL M)) (sameE L.length M.length (encL insE L) (encL insE M))=true:=by
  by_cases e:L=M
  ·subst e
   rw [sameE_self]
   rw [xs_eql,wd_bq,beq_self_eq_true]; rfl
  ·have h1:sameE L.length M.length (encL insE L) (encL insE M)=false:=by
    simp only [sameE,decide_eq_false_iff_not]
    exact fun q=>e (insE_inj q.2)
   have h2:xstr .eql (outL L) (outL M)=false:=by
    have:outL L≠outL M:=fun q=>e (outL_inj fa.okp fa.bd fb.okp fb.bd q)
    rw [xs_eql]; simpa using this
   rw [h1,h2]; rfl
 simp only [isFt_self,fa.kin,fb.kin,fa.gw,fb.gw,fa.gn,fb.gn,fa.px,fb.px,i5a,i5b,kt,p1,p2,p3,hs,fa.oe,fb.oe,sameE_self,hq,show ∀ x,xeq x x=true from fun x=>by simp [xeq],cond_true]
 exact⟨trivial,rfl,.bool true,[.ro _,.ro _],[.id 0,.id 1],⟨rfl,rfl⟩,by(exact zC)⟩
theorem back_any {H:Type} {enc:TypeId×Value→H} {W:World} (hg:Gl W gtab) (hp:Lib.TabIs prog W "internal/strconv.uint64pow10" .u64 Lib.pow10Tab) {a0 a1:Option Addr} {len0 cap0 len1 cap1:Nat} {d0 d1:DataW H} {p0 p1:List MemPlace} (h0:DataW.Trod enc prog W 0 (fun _=>true) true 29 (.slice a0 len0 cap0) d0 p0) (h1:DataW.Trod enc prog W 0 (fun _=>true) true 29 (.slice a1 len1 cap1) d1 p1) :
  Calls prog 5 #[.slice a0 len0 cap0,.slice a1 len1 cap1] W fun e W'=>e=.returned (.bool true)∧Below W.heap.size W W':=by
 obtain⟨A,ea,na,ka,ra⟩:=kin_rowP h0
 obtain⟨B,eb,nb,kb,rb⟩:=kin_rowP h1
 subst ea; subst eb
 refine SFun.top (rows:=[(.slice a0 A.length cap0,A.length,encL kinE A),(.slice a1 B.length cap1,B.length,encL kinE B)]) (g:=gt4) (us:=[.slice a0 A.length cap0,.slice a1 B.length cap1]) ⟨ra,rb,trivial⟩ (gt4_of hg hp) (fun r h=>?_) (SFun.mono (back_fun A B na nb ka kb) fun l s h=>h.1)
 simp only [VRs,VR]
 exact⟨_,_,rfl,h 0 _ _ _ rfl,_,_,rfl,h 1 _ _ _ rfl,rfl⟩
theorem pow_tabB {W:World} {ps:List MemPlace} (hl:DataW.LaidVars prog W Go.Proofs.YtnkkkihgljbllaaDoor.Rows.textBackRow.laid ps):Lib.TabIs prog W "internal/strconv.uint64pow10" .u64 Lib.pow10Tab:=by
 refine tab_third (P:=prog) (ps:=ps) (n0 := "math/bits.deBruijn32tab") (n1 := "math/bits.deBruijn64tab") (d0:=Go.Proofs.YtnkkkihgljbllaaDoor.Rows.laid_math_bits_deBruijn32tab) (d1:=Go.Proofs.YtnkkkihgljbllaaDoor.Rows.laid_math_bits_deBruijn64tab) (rest:=[("quietus/code.forms",Go.Proofs.YtnkkkihgljbllaaDoor.Rows.laid_quietus_code_forms),("quietus/code.calls",Go.Proofs.YtnkkkihgljbllaaDoor.Rows.laid_quietus_code_calls)]) (g:=3) (t:=150) (e:=23) (n:=20) (by kernel_rfl) (by kernel_rfl) (by kernel_rfl) (by kernel_rfl) (by kernel_rfl) (by kernel_rfl) ?_
 have e:Go.Proofs.YtnkkkihgljbllaaDoor.Rows.textBackRow.laid=[("math/bits.deBruijn32tab",Go.Proofs.YtnkkkihgljbllaaDoor.Rows.laid_math_bits_deBruijn32tab),("math/bits.deBruijn64tab",Go.Proofs.YtnkkkihgljbllaaDoor.Rows.laid_math_bits_deBruijn64tab),("internal/strconv.uint64pow10",Lib.tabData .u64 Lib.pow10Tab),("quietus/code.forms",Go.Proofs.YtnkkkihgljbllaaDoor.Rows.laid_quietus_code_forms),("quietus/code.calls",Go.Proofs.YtnkkkihgljbllaaDoor.Rows.laid_quietus_code_calls)]:=by kernel_rfl
 rw [e] at hl
 exact hl
end
end Go.Lev
