/- chapter 30: Parts as a contract; trees of the law -/
import Derived.Test.YtkbaelndiimmpaaGreatDoorCJ5
import Derived.Test.YtkbaelndiimmpaaGreatDoorLc
import Derived.Test.YtkbaelndiimmpaaGreatDoorChecked
import Derived.KernelRfl
import Derived.Test.YtkbaelndiimmpaaGreatDoorLc
import Derived.Test.YtkbaelndiimmpaaGreatDoorRows
namespace Go.Lev
set_option linter.unusedSimpArgs false
set_option linter.unusedVariables false
open Go.RowKit
open Go.Proofs.Tryz (prog)
set_option maxRecDepth 100000
noncomputable section
def okRs (F:World→Prop) (cs:List LV) (k:Nat) (rs:List RR):Prop:=cs=encL valC (rs.map (·.1))∧k=rs.length∧k≤1000∧(∀ x∈rs,x.2.length≤1000)∧(∃ W,F W)∧(∀ W w:World,Below W.heap.size W w→F W→F w)∧∀ W,F W→∀ x∈rs,RowArg W x.1 x.2.length (encL cell x.2)
def rsF (F:World→Prop) (cs:List LV) (k:Nat):List RR:=match Classical.propDecidable (∃ rs,okRs F cs k rs) with
 | .isTrue h=>Classical.choose h
 | .isFalse _=>[]
def okR (F:World→Prop) (cs:List LV) (k:Nat):Bool:=@decide (∃ rs,okRs F cs k rs) (Classical.propDecidable _)
theorem okR_iff {F:World→Prop} {cs:List LV} {k:Nat}:okR F cs k=true↔∃ rs,okRs F cs k rs:=by simp only [okR,decide_eq_true_eq]
theorem rsF_ok {F:World→Prop} {cs:List LV} {k:Nat} (h:okR F cs k=true):okRs F cs k (rsF F cs k):=by
 have hp:=okR_iff.1 h
 unfold rsF
 split
 ·rename_i h2 _; exact Classical.choose_spec h2
 ·rename_i h2 _; exact absurd hp h2
theorem encL_inj {xs ys:List (Int×Int)} (h:encL cell xs=encL cell ys):xs=ys:=by rw [← decC_enc xs,h,decC_enc]
theorem row_uniq {W:World} {v:Value} {xs ys:List (Int×Int)} (h1:RowArg W v xs.length (encL cell xs)) (h2:RowArg W v ys.length (encL cell ys)):xs=ys:=by
 have e:xs.length=ys.length:=by rw [← vlen_row h1,← vlen_row h2]
 refine encL_inj ?_
 have l1:=cell_n xs; have l2:=cell_n ys
 rcases Nat.eq_zero_or_pos xs.length with h0 | h0
 ·rw [List.length_eq_zero_iff.1 h0,List.length_eq_zero_iff.1 (by omega:ys.length=0)]
 ·have k1:=(vrow_eq (F:=fun W'=>W'=W) ⟨W,rfl⟩ (fun W' hW=>by subst hW; exact h1) (can_c xs) (k:=0) (m:=xs.length * 2) (by omega) (by omega)).2
  have k2:=(vrow_eq (F:=fun W'=>W'=W) ⟨W,rfl⟩ (fun W' hW=>by subst hW; exact h2) (can_c ys) (k:=0) (m:=xs.length * 2) (by omega) (by omega)).2
  rw [k1,List.drop_zero,List.drop_zero,List.take_of_length_le (by omega),List.take_of_length_le (by omega)] at k2
  exact k2
theorem rs_uniq {F:World→Prop} {cs:List LV} {k:Nat} {rs qs:List RR} (h1:okRs F cs k rs) (h2:okRs F cs k qs):rs=qs:=by
 obtain⟨a1,a2,a3,a4,⟨W,hW⟩,a6,a7⟩:=h1
 obtain⟨b1,b2,b3,b4,_,b6,b7⟩:=h2
 have e:rs.map (·.1)=qs.map (·.1):=by
  have he:encL valC (rs.map (·.1))=encL valC (qs.map (·.1)):=a1.symm.trans b1
  have:∀ {x y:List Value},encL valC x=encL valC y→x=y:=fun {x}=>by
   induction x with
   | nil=>intro y h; cases y with
     | nil=>rfl
     | cons z r=>simp [encL] at h
   | cons z r ih=>intro y h; cases y with
     | nil=>simp [encL] at h
     | cons z' r' =>
       simp only [encL,List.cons_append,List.nil_append,List.cons.injEq,LV.val.injEq] at h
       rw [h.1,ih h.2]
  exact this he
 refine List.ext_getElem (by omega) fun i h1 h2=>?_
 have ev:rs[i].1=qs[i].1:=by
  have:=congrArg (fun l=>l[i]?) e
  simp only [List.getElem?_map,List.getElem?_eq_getElem h1,List.getElem?_eq_getElem h2,Option.map_some,Option.some.injEq] at this
  exact this
 have g1:=a7 W hW rs[i] (List.getElem_mem h1)
 have g2:=b7 W hW qs[i] (List.getElem_mem h2)
 rw [← ev] at g2
 exact Prod.ext ev (row_uniq g1 g2)
def ptW (F:World→Prop) (wc cs:List LV) (k:Nat):Bool:=ptV (decIu64 wc) (rsF F cs k)
def ptG:Gc:=fun args s=>match args,s.g with
 | [x,y],[(0,[.fact F])]=>(match fzSl x,fzSl y with
   | some (a,n,ca),some (b,k,cb)=>(match fzAt s a,fzAt s b with
     | some wc,some cs=>some ([okU wc n,xle n 100000,okR F cs k],.bool (ptW F wc cs k),s)
     | _,_=>none)
   | _,_=>none)
 | _,_=>none
theorem ptG_of {f:Nat} (H:∀ (us:Row) (hu:inU us) (hn:us.length≤100000) (rs:List RR) (F:World→Prop) (hs:∃ W,F W) (hF:∀ W,F W→∀ x∈rs,RowArg W x.1 x.2.length (encL cell x.2)) (hk:rs.length≤1000) (hl:∀ x∈rs,x.2.length≤1000),
  SFun prog f [.slo 0 0 us.length 0,.slo 1 0 rs.length 0] (mkS [.ro (encL (cI .u64) us),.ro (encL valC (rs.map (·.1)))] (factG F)) fun l _=>l=.bool (ptV us rs)):GOk prog f ptG:=by
 intro args s bs l s' hg hb hfr
 unfold ptG at hg
 split at hg
 ·rename_i x y F hgl
  split at hg
  ·rename_i a n ca b k cb hx hy
   split at hg
   ·rename_i wc cs h1 h2
    simp only [Option.some.injEq,Prod.mk.injEq] at hg
    obtain⟨rfl,rfl,rfl⟩:=hg
    simp only [allT_cons] at hb
    obtain⟨k1,k2,k3,_⟩:=hb
    obtain⟨us,rfl,rfl,hn,hu⟩:=okU_iff.1 k1
    rw [wd_le,decide_eq_true_eq] at k2
    have hr:=rsF_ok k3
    unfold ptW
    rw [decIu64_enc]
    generalize rsF F cs k=rs at hr ⊢
    obtain⟨rfl,rfl,q3,q4,q5,q6,q7⟩:=hr
    refine SFun.frozen [a,b] [encL (cI .u64) us,encL valC (rs.map fun x:RR=>x.1)] (fun i=>fzC (match i with | 0=>ca | _=>cb)) (g0:=factG F) (args0:=[.slo 0 0 us.length 0,.slo 1 0 rs.length 0]) rfl rfl (fun i c x hi hx=>?_) (fun c hc=>?_) (fun W w hW hB=>?_) (fun r vs hvs=>?_) (H us hu k2 rs F q5 q7 q3 q4)
    ·match i with
     | 0=>simp at hi hx; subst hi hx; exact h1
     | 1=>simp at hi hx; subst hi hx; exact h2
     | i+2=>simp at hi
    ·simp only [List.mem_cons,List.not_mem_nil,or_false] at hc
     rcases hc with rfl | rfl
     ·exact noIds_Iu64 _
     ·exact noids_val _
    ·rw [hgl] at hW
     exact Gl_fact.2 (q6 W w hB (Gl_fact.1 hW))
    ·simp only [VRs] at hvs ⊢
     obtain⟨u1,_,e1,v1,u2,_,e2,v2,e3⟩:=hvs
     exact⟨u1,_,e1,fzSl_vr hx v1 rfl rfl,u2,_,e2,fzSl_vr hy v2 rfl rfl,e3⟩
   ·cases hg
  ·cases hg
 ·cases hg
theorem ptG_ok:GOk prog 10 ptG:=ptG_of pr_ok
theorem ptG_ok2:GOk prog 11 ptG:=ptG_of qr_ok
def formsL:List LV:=flatD Go.Proofs.YtkbaelndiimmpaaGreatDoor.Rows.laid_quietus_code_forms
def gtab:Glb:=[(0,formsL)]
abbrev gl2 (F:World→Prop):Glb:=[(0,[.fact F]),(0,formsL)]
def runGt2:Gc:=fun args s=>match args,s.g with
 | [],[(0,[.fact F]),(g0,F0)]=>cond (Nat.beq g0 0 && eqbs F0 formsL) (some ([],.bool true,s)) none
 | _,_=>none
def cxk:Cx:=cxl [(5,runGt2),(6,wrapG wdsG)]
def cxt:Cx:=cxl [(10,ptG),(11,ptG)]
abbrev kS:List Code:=sp prog 4
abbrev kL:List Nat:=[1,2,3,4,10,11,12,13,14,15,16,17,18,19,20]
abbrev kT0 (m k N gn:Nat) (tu v:Int) (p i:Nat):List (Nat×LV):=[(1,.slo 0 0 m 0),(2,.slo 1 0 k 0),(3,.int .u8 tu),(4,.int .u8 v),(11,.slo 2 0 N 0),(12,.slo 3 0 gn 0),(13,.int .i64 p),(14,.int .i64 i)]
abbrev kH0 (bx rx wc gc:List LV):List LB:=[.ro bx,.ro rx,.cells wc (some 1),.cells gc (some 2),.dead,.dead]
abbrev kH1 (bx rx wc:List LV) (O:LB):List LB:=[.ro bx,.ro rx,.cells wc (some 1),.dead,.dead,.dead,O,.dead]
abbrev kT2 (k N:Nat) (tu v:Int) (vg:Value) (i:Nat):List (Nat×LV):=[(2,.slo 1 0 k 0),(3,.int .u8 tu),(4,.int .u8 v),(11,.slo 2 0 N 0),(12,.val vg),(15,.slo 3 0 i 0),(16,.int .i64 i)]
abbrev kH2 (bx rx wc vc:List LV) (O:LB):List LB:=[.ro bx,.ro rx,.cells wc (some 1),.cells vc (some 1),O,.dead]
abbrev kT3 (k N:Nat) (tu v:Int) (vg:Value) (i j:Nat):List (Nat×LV):=[(2,.slo 1 0 k 0),(3,.int .u8 tu),(4,.int .u8 v),(11,.slo 2 0 N 0),(12,.val vg),(15,.slo 3 0 i 0),(16,.int .i64 i),(17,.slo 6 0 j 0),(18,.int .i64 j)]
abbrev kH3 (bx rx wc vc xc:List LV) (O:LB):List LB:=[.ro bx,.ro rx,.cells wc (some 1),.cells vc (some 1),O,.dead,.cells xc (some 2)]
abbrev kH4 (bx rx wc vc:List LV) (O:LB):List LB:=[.ro bx,.ro rx,.cells wc (some 1),.cells vc (some 1),.dead,.dead,.dead,O,.dead]
abbrev kH5 (bx rx wc vc:List LV):List LB:=[.ro bx,.ro rx,.ro wc,.ro vc,.dead,.dead]
abbrev kT6 (k N:Nat) (vg:Value):List (Nat×LV):=[(11,.slo 0 0 N 0),(12,.val vg),(15,.slo 1 0 k 0),(19,.slo 2 0 (k+1) 0),(20,.slo 3 0 N 0)]
abbrev kH6 (wc vc bc xc:List LV):List LB:=[.ro wc,.ro vc,.cells bc (some 1),.cells xc (some 1)]
abbrev kB:List Code:=spineL (loopOf (nthC kS 12))
abbrev kC:List Code:=spineL (blockIn (nthC kB 2))
theorem kq_a (n tu v:Int) (m k:Nat) (bx rx:List LV) (F:World→Prop) (K:Pk):(xsp prog cxk 60 166 (seg kS 0 9) (tm0 [.int .i64 n,.slo 0 0 m 0,.slo 1 0 k 0,.int .u8 tu,.int .u8 v]) (mkS [.ro bx,.ro rx] (gl2 F)) (vK kL K))=(
 bif xcm .gtr (↑k) 5 then(
 K .ret [.slo 0 0 m 0,.slo 1 0 k 0,.int .u8 tu,.int .u8 v,.bool true,.tup [],.tup [],.tup [],.tup [],.tup [],.tup [],.tup [],.tup [],.tup [],.tup []] [some (.ro bx),some (.ro rx)] (gl2 F))
 else(
 ck (okB8 bx m) <|
 K .normal [.slo 0 0 m 0,.slo 1 0 k 0,.int .u8 tu,.int .u8 v,.bool false,.slo 2 0 (wdN n) 0,.nils,.int .i64 14,.int .i64 0,.tup [],.tup [],.tup [],.tup [],.tup [],.tup []] [some (.ro bx),some (.ro rx),sC (wdC n bx) 1] (gl2 F))):=by kernel_rfl
theorem kq_b (m k N gn:Nat) (tu v:Int) (p i:Nat) (bx rx wc gc:List LV) (F:World→Prop) (K:Pk):(xcode prog cxk 60 166 (loopOf (nthC kS 9)) (mkTm 166 (kT0 m k N gn tu v p i)) (mkS (kH0 bx rx wc gc) (gl2 F)) (vK kL K))=(
 bif xcm .lss ↑i ↑m then(
 bif xcm .lss (↑i) 8 then(
 ck (xle 6 N) <|
 ck (xle 6 (xln wc)) <|
 ck (isI .u64 (nthD wc 5)) <|
 bif xcm .lss (↑p) (xwr .i64 (asI (nthD wc 5))) then(
 ck (xle (xadd (xnat ↑i) 1) m) <|
 ck (xle (xadd (xix 0 (xnat ↑i) 1) 1) (xln bx)) <|
 ck (isI .u8 (nthD bx (xix 0 (xnat ↑i) 1))) <|
 bif xcm .eql (xar .and .u8 (asI (nthD bx (xix 0 (xnat ↑i) 1))) 48) 0 then(
 ck (xle (xadd gn 1) 1000000) <|
 ck (xle (xadd 0 (xmul gn 2)) (xln gc)) <|
 ck (xle (xadd (xnat ↑i) 1) m) <|
 ck (xle (xadd (xix 0 (xnat ↑i) 1) 1) (xln bx)) <|
 ck (isI .u8 (nthD bx (xix 0 (xnat ↑i) 1))) <|
 ck (xnn (xwr .u64 (xar .add .u8 (xar .rem .u8 (asI (nthD bx (xix 0 (xnat ↑i) 1))) 3) 1))) <|
 K .normal [.slo 0 0 m 0,.slo 1 0 k 0,.int .u8 tu,.int .u8 v,.any,.slo 2 0 N 0,.slo 7 0 (xadd gn 1) 0,.int .i64 (xar .add .i64 (xar .add .i64 (↑p) 1) (xsh .shl .i64 1 (xwr .u64 (xar .add .u8 (xar .rem .u8 (asI (nthD bx (xix 0 (xnat ↑i) 1))) 3) 1)))),.int .i64 (xar .add .i64 (↑i) 1),.any,.any,.any,.any,.any,.any] [some (.ro bx),some (.ro rx),sC wc 1,sD,sD,sD,sN [.int .i64 (xar .add .i64 (↑p) 1),.int .u64 (xwr .u64 ↑i)],sC (xcat (xcut gc 0 (xmul gn 2)) [.int .i64 (xar .add .i64 (↑p) 1),.int .u64 (xwr .u64 ↑i)]) 2] (gl2 F))
 else(
 ck (xle (xadd (xnat ↑i) 1) m) <|
 ck (xle (xadd (xix 0 (xnat ↑i) 1) 1) (xln bx)) <|
 ck (isI .u8 (nthD bx (xix 0 (xnat ↑i) 1))) <|
 ck (xnn (xwr .u64 (xar .add .u8 (xar .rem .u8 (asI (nthD bx (xix 0 (xnat ↑i) 1))) 3) 1))) <|
 K .normal [.slo 0 0 m 0,.slo 1 0 k 0,.int .u8 tu,.int .u8 v,.any,.slo 2 0 N 0,.slo 3 0 gn 0,.int .i64 (xar .add .i64 (xar .add .i64 (↑p) 1) (xsh .shl .i64 1 (xwr .u64 (xar .add .u8 (xar .rem .u8 (asI (nthD bx (xix 0 (xnat ↑i) 1))) 3) 1)))),.int .i64 (xar .add .i64 (↑i) 1),.any,.any,.any,.any,.any,.any] [some (.ro bx),some (.ro rx),sC wc 1,sC gc 2,sD,sD] (gl2 F)))
 else(
 K (.exit 0) [.slo 0 0 m 0,.slo 1 0 k 0,.int .u8 tu,.int .u8 v,.any,.slo 2 0 N 0,.slo 3 0 gn 0,.int .i64 ↑p,.int .i64 ↑i,.any,.any,.any,.any,.any,.any] [some (.ro bx),some (.ro rx),sC wc 1,sC gc 2,sD,sD] (gl2 F)))
 else(
 K (.exit 0) [.slo 0 0 m 0,.slo 1 0 k 0,.int .u8 tu,.int .u8 v,.any,.slo 2 0 N 0,.slo 3 0 gn 0,.int .i64 ↑p,.int .i64 ↑i,.any,.any,.any,.any,.any,.any] [some (.ro bx),some (.ro rx),sC wc 1,sC gc 2,sD,sD] (gl2 F)))
 else(
 K (.exit 0) [.slo 0 0 m 0,.slo 1 0 k 0,.int .u8 tu,.int .u8 v,.any,.slo 2 0 N 0,.slo 3 0 gn 0,.int .i64 ↑p,.int .i64 ↑i,.any,.any,.any,.any,.any,.any] [some (.ro bx),some (.ro rx),sC wc 1,sC gc 2,sD,sD] (gl2 F))):=by kernel_rfl
theorem kq_c (m k N gn:Nat) (tu v:Int) (p i:Nat) (vg:Value) (bx rx wc:List LV) (O:LB) (F:World→Prop) (K:Pk):(xsp prog cxk 60 166 (seg kS 10 2) (mkTm 166 ((12,.val vg)::kT0 m k N gn tu v p i)) (mkS (kH1 bx rx wc O) (gl2 F)) (vK kL K))=(
 K .normal [.slo 0 0 m 0,.slo 1 0 k 0,.int .u8 tu,.int .u8 v,.any,.slo 2 0 N 0,.val vg,.int .i64 ↑p,.int .i64 ↑i,.nils,.int .i64 0,.any,.any,.any,.any] [some (.ro bx),some (.ro rx),sC wc 1,sD,sD,sD,some O,sD] (gl2 F)):=by kernel_rfl
theorem kq_d (k N:Nat) (tu v:Int) (vg:Value) (i:Nat) (bx rx wc vc:List LV) (O:LB) (F:World→Prop) (K:Pk):(xsp prog cxk 60 166 (seg kB 0 2) (mkTm 166 (kT2 k N tu v vg i)) (mkS (kH2 bx rx wc vc O) (gl2 F)) (vK kL K))=(
 bif xcm .lss ↑i ↑k then(
 K .normal [.any,.slo 1 0 k 0,.int .u8 tu,.int .u8 v,.any,.slo 2 0 N 0,.val vg,.any,.any,.slo 3 0 i 0,.int .i64 ↑i,.any,.any,.any,.any] [some (.ro bx),some (.ro rx),sC wc 1,sC vc 1,some O,sD] (gl2 F))
 else(
 K (.exit 2) [.any,.slo 1 0 k 0,.int .u8 tu,.int .u8 v,.any,.slo 2 0 N 0,.val vg,.any,.any,.slo 3 0 i 0,.int .i64 ↑i,.any,.any,.any,.any] [some (.ro bx),some (.ro rx),sC wc 1,sC vc 1,some O,sD] (gl2 F))):=by kernel_rfl
theorem kq_e (k N:Nat) (tu v:Int) (vg:Value) (i:Nat) (bx rx wc vc:List LV) (O:LB) (F:World→Prop) (K:Pk):(xsp prog cxk 60 166 (seg kC 0 2) (mkTm 166 (kT2 k N tu v vg i)) (mkS (kH2 bx rx wc vc O) (gl2 F)) (vK kL K))=(
 K .normal [.any,.slo 1 0 k 0,.int .u8 tu,.int .u8 v,.any,.slo 2 0 N 0,.val vg,.any,.any,.slo 3 0 i 0,.int .i64 ↑i,.nils,.int .i64 0,.any,.any] [some (.ro bx),some (.ro rx),sC wc 1,sC vc 1,some O,sD] (gl2 F)):=by kernel_rfl
theorem kq_f (k N:Nat) (tu v:Int) (vg:Value) (i j:Nat) (bx rx wc vc xc:List LV) (O:LB) (F:World→Prop) (K:Pk):(xcode prog cxk 60 166 (loopOf (nthC kC 2)) (mkTm 166 (kT3 k N tu v vg i j)) (mkS (kH3 bx rx wc vc xc O) (gl2 F)) (vK kL K))=(
 ck (xle (xadd (xnat ↑i) 1) k) <|
 ck (xle (xadd (xix 0 (xnat ↑i) 1) 1) (xln rx)) <|
 ck (isV (nthD rx (xix 0 (xnat ↑i) 1))) <|
 bif xcm .lss ↑j ↑(xvl (asV (nthD rx (xix 0 (xnat ↑i) 1)))) then(
 bif xcm .lss (↑j) 6 then(
 ck (xle (xadd (xnat ↑i) 1) k) <|
 ck (xle (xadd (xix 0 (xnat ↑i) 1) 1) (xln rx)) <|
 ck (isV (nthD rx (xix 0 (xnat ↑i) 1))) <|
 ck (xvix (asV (nthD rx (xix 0 (xnat ↑i) 1))) (xnat ↑j)) <|
 ck (xvrok F (asV (nthD rx (xix 0 (xnat ↑i) 1))) (xmul (xnat ↑j) 1) 1) <|
 ck (xle 1 (xln (xvrow F (asV (nthD rx (xix 0 (xnat ↑i) 1))) (xmul (xnat ↑j) 1) 1))) <|
 ck (isI .u8 (nthD (xvrow F (asV (nthD rx (xix 0 (xnat ↑i) 1))) (xmul (xnat ↑j) 1) 1) 0)) <|
 ck (xle (xadd j 1) 1000000) <|
 ck (xle (xadd 0 (xmul j 2)) (xln xc)) <|
 K .normal [.any,.slo 1 0 k 0,.int .u8 tu,.int .u8 v,.any,.slo 2 0 N 0,.val vg,.any,.any,.slo 3 0 i 0,.int .i64 ↑i,.slo 8 0 (xadd j 1) 0,.int .i64 (xar .add .i64 (↑j) 1),.any,.any] [some (.ro bx),some (.ro rx),sC wc 1,sC vc 1,some O,sD,sD,sN [.int .i64 (xar .rem .i64 (xwr .i64 (asI (nthD (xvrow F (asV (nthD rx (xix 0 (xnat ↑i) 1))) (xmul (xnat ↑j) 1) 1) 0))) 60),.int .u64 0],sC (xcat (xcut xc 0 (xmul j 2)) [.int .i64 (xar .rem .i64 (xwr .i64 (asI (nthD (xvrow F (asV (nthD rx (xix 0 (xnat ↑i) 1))) (xmul (xnat ↑j) 1) 1) 0))) 60),.int .u64 0]) 2] (gl2 F))
 else(
 K (.exit 4) [.any,.slo 1 0 k 0,.int .u8 tu,.int .u8 v,.any,.slo 2 0 N 0,.val vg,.any,.any,.slo 3 0 i 0,.int .i64 ↑i,.slo 6 0 j 0,.int .i64 ↑j,.any,.any] [some (.ro bx),some (.ro rx),sC wc 1,sC vc 1,some O,sD,sC xc 2] (gl2 F)))
 else(
 K (.exit 4) [.any,.slo 1 0 k 0,.int .u8 tu,.int .u8 v,.any,.slo 2 0 N 0,.val vg,.any,.any,.slo 3 0 i 0,.int .i64 ↑i,.slo 6 0 j 0,.int .i64 ↑j,.any,.any] [some (.ro bx),some (.ro rx),sC wc 1,sC vc 1,some O,sD,sC xc 2] (gl2 F))):=by kernel_rfl
theorem kq_g (k N:Nat) (tu v:Int) (vg vr:Value) (i j:Nat) (bx rx wc vc:List LV) (O:LB) (F:World→Prop) (K:Pk):(xsp prog cxk 60 166 (kC.drop 3) (mkTm 166 ((17,.val vr)::kT3 k N tu v vg i j)) (mkS (kH4 bx rx wc vc O) (gl2 F)) (vK kL K))=(
 ck (xle (xadd i 1) 1000000) <|
 ck (xle (xadd 0 (xmul i 1)) (xln vc)) <|
 K .normal [.any,.slo 1 0 k 0,.int .u8 tu,.int .u8 v,.any,.slo 2 0 N 0,.val vg,.any,.any,.slo 10 0 (xadd i 1) 0,.int .i64 ↑i,.val vr,.int .i64 ↑j,.any,.any] [some (.ro bx),some (.ro rx),sC wc 1,sD,sD,sD,sD,some O,sD,sN [.val vr],sC (xcat (xcut vc 0 (xmul i 1)) [.val vr]) 1] (gl2 F)):=by kernel_rfl
theorem kq_h (k N:Nat) (tu v:Int) (vg:Value) (i i2:Nat) (bx rx wc vc:List LV) (O:LB) (F:World→Prop) (K:Pk):(xsp prog cxk 60 166 (kB.drop 3) (mkTm 166 [(2,.slo 1 0 k 0),(3,.int .u8 tu),(4,.int .u8 v),(11,.slo 2 0 N 0),(12,.val vg),(15,.slo 3 0 i2 0),(16,.int .i64 i)]) (mkS (kH2 bx rx wc vc O) (gl2 F)) (vK kL K))=(
 K .normal [.any,.slo 1 0 k 0,.int .u8 tu,.int .u8 v,.any,.slo 2 0 N 0,.val vg,.any,.any,.slo 3 0 i2 0,.int .i64 (xar .add .i64 (↑i) 1),.any,.any,.any,.any] [some (.ro bx),some (.ro rx),sC wc 1,sC vc 1,some O,sD] (gl2 F)):=by kernel_rfl
theorem kq_i (k N:Nat) (tu v:Int) (vg:Value) (i:Nat) (bx rx wc vc:List LV) (F:World→Prop) (K:Pk):(xsp prog cxt 60 166 (seg kS 13 5) (mkTm 166 (kT2 k N tu v vg i)) (mkS (kH5 bx rx wc vc) (factG F)) (vK kL K))=(
 ck (xle (xadd 0 (xmul i 1)) (xln vc)) <|
 ck (xle (xadd 1 i) 1000000) <|
 ck (okU wc N) <|
 ck (xle N 100000) <|
 ck (okR F [.val vg] 1) <|
 bif xnot (ptW F wc [.val vg] 1) then(
 K .ret [.any,.slo 1 0 k 0,.int .u8 tu,.int .u8 v,.bool false,.slo 2 0 N 0,.val vg,.any,.any,.slo 3 0 i 0,.int .i64 ↑i,.any,.any,.slo 8 0 (xadd 1 i) 0,.any] [some (.ro bx),some (.ro rx),some (.ro wc),some (.ro vc),sD,sD,sN [.val vg],sD,sC (xcat [.val vg] (xcut vc 0 (xmul i 1))) 1,sN [.val vg]] (factG F))
 else(
 ck (xle (xadd 0 (xmul N 1)) (xln wc)) <|
 ck (xle (xmul N 8) 140737488355328) <|
 ck (xle N 140737488355328) <|
 ck (xcm .neq (↑N) 0) <|
 ck (xnn (xar .rem .i64 (xwr .i64 tu) ↑N)) <|
 ck (xle (xadd (xnat (xar .rem .i64 (xwr .i64 tu) ↑N)) 1) N) <|
 ck (xle (xadd (xix 0 (xnat (xar .rem .i64 (xwr .i64 tu) ↑N)) 1) 1) (xln (xcut wc 0 (xmul N 1)))) <|
 K .normal [.any,.slo 1 0 k 0,.int .u8 tu,.int .u8 v,.any,.slo 2 0 N 0,.val vg,.any,.any,.slo 3 0 i 0,.int .i64 ↑i,.any,.any,.slo 8 0 (xadd 1 i) 0,.slo 10 0 N 0] [some (.ro bx),some (.ro rx),some (.ro wc),some (.ro vc),sD,sD,sN [.val vg],sD,sC (xcat [.val vg] (xcut vc 0 (xmul i 1))) 1,sN [.val vg],sC (xlay (xcut wc 0 (xmul N 1)) (xix 0 (xnat (xar .rem .i64 (xwr .i64 tu) ↑N)) 1) [.int .u64 (xwr .u64 (xar .rem .u8 v 40))]) 1] (factG F))):=by kernel_rfl
theorem kq_z (k N:Nat) (vg:Value) (wc vc bc xc:List LV) (F:World→Prop) (K:Pk):(xsp prog cxt 60 166 (kS.drop 18) (mkTm 166 (kT6 k N vg)) (mkS (kH6 wc vc bc xc) (factG F)) (vK kL K))=(
 ck (okU wc N) <|
 ck (xle N 100000) <|
 ck (okR F vc k) <|
 ck (okU wc N) <|
 ck (xle N 100000) <|
 ck (okR F vc k) <|
 bif xbq (ptW F wc vc k) (ptW F wc vc k) then(
 ck (okU wc N) <|
 ck (xle N 100000) <|
 ck (okR F bc (k+1)) <|
 ck (okU wc N) <|
 ck (xle N 100000) <|
 ck (okR F bc (k+1)) <|
 bif xbq (ptW F wc bc (k+1)) (ptW F wc bc (k+1)) then(
 ck (okU xc N) <|
 ck (xle N 100000) <|
 ck (okR F bc (k+1)) <|
 ck (okU xc N) <|
 ck (xle N 100000) <|
 ck (okR F bc (k+1)) <|
 bif xbq (ptW F xc bc (k+1)) (ptW F xc bc (k+1)) then(
 ck (okU xc N) <|
 ck (xle N 100000) <|
 ck (okR F [.val vg] 1) <|
 ck (okU xc N) <|
 ck (xle N 100000) <|
 ck (okR F [.val vg] 1) <|
 K .ret [.any,.any,.any,.any,.bool (xbq (ptW F xc [.val vg] 1) (ptW F xc [.val vg] 1)),.slo 0 0 N 0,.val vg,.any,.any,.slo 1 0 k 0,.any,.any,.any,.slo 2 0 (k+1) 0,.slo 3 0 N 0] [some (.ro wc),some (.ro vc),sC bc 1,sC xc 1,sN [.val vg],sN [.val vg]] (factG F))
 else(
 K .ret [.any,.any,.any,.any,.bool false,.slo 0 0 N 0,.val vg,.any,.any,.slo 1 0 k 0,.any,.any,.any,.slo 2 0 (k+1) 0,.slo 3 0 N 0] [some (.ro wc),some (.ro vc),sC bc 1,sC xc 1] (factG F)))
 else(
 K .ret [.any,.any,.any,.any,.bool false,.slo 0 0 N 0,.val vg,.any,.any,.slo 1 0 k 0,.any,.any,.any,.slo 2 0 (k+1) 0,.slo 3 0 N 0] [some (.ro wc),some (.ro vc),sC bc 1,sC xc 1] (factG F)))
 else(
 K .ret [.any,.any,.any,.any,.bool false,.slo 0 0 N 0,.val vg,.any,.any,.slo 1 0 k 0,.any,.any,.any,.slo 2 0 (k+1) 0,.slo 3 0 N 0] [some (.ro wc),some (.ro vc),sC bc 1,sC xc 1] (factG F))):=by kernel_rfl
end
end Go.Lev
