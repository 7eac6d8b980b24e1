import Derived.Test.YtnkkkihgljbllaaDoorCW5
import Derived.Test.YtnkkkihgljbllaaDoorLc
import Derived.Test.YtnkkkihgljbllaaDoorChecked
import Derived.KernelRfl
/- text: letters: their tree -/
namespace Go.Lev
set_option linter.unusedSimpArgs false
set_option linter.unusedVariables false
open Go.RowKit
open Go.Proofs.Tryd (prog)
set_option maxRecDepth 100000
noncomputable section
def ltB (r:Int):Bool:=(xcm .geq r 97 && xcm .leq r 122 || xcm .geq r 65 && xcm .leq r 90) || (xcm .geq r 192 && xcm .leq r 591 && xcm .neq r 215 && xcm .neq r 247)
theorem lt_x (r:Int) (K:Fk):(xfun prog (fun _=>none) 40 76 [.int .i32 r] (mkS []) (vF K))=(
 bif xcm .geq r 97 then(
 bif xcm .leq r 122 then(
 K (.bool true) [] [])
 else(
 bif xcm .geq r 65 then(
 bif xcm .leq r 90 then(
 K (.bool true) [] [])
 else(
 bif xcm .geq r 192 then(
 bif xcm .leq r 591 then(
 bif xcm .neq r 215 then(
 K (.bool (xcm .neq r 247)) [] [])
 else(
 K (.bool false) [] []))
 else(
 K (.bool false) [] []))
 else(
 K (.bool false) [] [])))
 else(
 bif xcm .geq r 192 then(
 bif xcm .leq r 591 then(
 bif xcm .neq r 215 then(
 K (.bool (xcm .neq r 247)) [] [])
 else(
 K (.bool false) [] []))
 else(
 K (.bool false) [] []))
 else(
 K (.bool false) [] []))))
 else(
 bif xcm .geq r 65 then(
 bif xcm .leq r 90 then(
 K (.bool true) [] [])
 else(
 bif xcm .geq r 192 then(
 bif xcm .leq r 591 then(
 bif xcm .neq r 215 then(
 K (.bool (xcm .neq r 247)) [] [])
 else(
 K (.bool false) [] []))
 else(
 K (.bool false) [] []))
 else(
 K (.bool false) [] [])))
 else(
 bif xcm .geq r 192 then(
 bif xcm .leq r 591 then(
 bif xcm .neq r 215 then(
 K (.bool (xcm .neq r 247)) [] [])
 else(
 K (.bool false) [] []))
 else(
 K (.bool false) [] []))
 else(
 K (.bool false) [] [])))):=by kernel_rfl
theorem way2 {c:Bool} {A B:Prop} (h1:c=true→A) (h2:c=false→B):cond c A B:=by cases c; exact h2 rfl; exact h1 rfl
theorem leafBl {x y:Bool} {bs:List (Option LB)} (h:y=x):convOk 0 1 [0] [.bool x] bs [] [(0,.bool y)] []:=by subst h; (exact zC)
theorem lt_ok (r:Int):SFun prog 76 [.int .i32 r] (mkS []) fun l s=>l=.bool (ltB r)∧s=mkS []:=by
 refine SFun.mono (SFun.vc (Q:=fun l b=>l=.bool (ltB r)∧b=[]) noCx_ok (n:=40) 0 rfl ?_) fun l s' ⟨b0,⟨h1,h2⟩,h3⟩=>⟨h1,by rw [h3,h2]⟩
 rw [lt_x]
 repeat' (refine way2 (fun _=>?_) (fun _=>?_))
 all_goals (refine⟨rfl,_,[],[],⟨rfl,rfl⟩,leafBl ?_⟩; simp_all [ltB,xnot])
def ltG:Gc:=fun args s=>match args,s.g with
 | [.int .i32 r],[]=>(match s.lay [] [] [] with
   | some s'=>some ([],.bool (ltB r),s')
   | none=>none)
 | _,_=>none
theorem ltG_ok:GOk prog 76 ltG:=by
 intro args s bs l s' hg hb hfr
 unfold ltG at hg
 split at hg
 ·rename_i r hgl
  split at hg
  ·rename_i s1 hs1
   simp only [Option.some.injEq,Prod.mk.injEq] at hg
   obtain⟨rfl,rfl,rfl⟩:=hg
   refine SFun.lay (bs:=[]) (args0:=[.int .i32 r]) (bs':=[]) (v0:=.bool (ltB r)) hfr hs1 (by simp)
    trivial (by(exact zTl)) ?_
    fun κ h1 h2=>⟨trivial,lw_bool⟩
   rw [hgl]; exact(lt_ok r)
  ·cases hg
 ·cases hg
end
end Go.Lev
/- text: names and numbers: their trees -/
namespace Go.Lev
set_option linter.unusedSimpArgs false
set_option linter.unusedVariables false
open Go.RowKit
open Go.Proofs.Tryd (prog)
set_option maxRecDepth 100000
noncomputable section
def cxNm:Cx:=cxl [(76,ltG)]
abbrev nmL:List Nat:=[2,3,7]
abbrev isnT (k:Int):List (Nat×LV):=[(2,.bool false),(3,.int .i64 k),(7,.ptr 0 0)]
abbrev drL2:List Nat:=[0,1,4,5,6,21,23]
abbrev drT (m n:Int):List (Nat×LV):=[(1,.int .u64 m),(4,.int .u64 0),(5,.bool false),(6,.int .u64 n),(23,.ptr 0 0)]
theorem nm_0 (s:List UInt8) (K:Pk):(xsp prog cxNm 40 34 (seg (sp prog 69) 0 3) (tm0 [.str s]) (mkS [] []) (vK nmL K))=(
 K .normal [.bool false,.int .i64 0,.ptr 0 0] [some (.iter s 0)] []):=by kernel_rfl
theorem nm_l (s:List UInt8) (p:Nat) (k:Int) (K:Pk):(xcode prog cxNm 40 34 (loopOf (nthC (sp prog 69) 3)) (mkTm 34 (isnT k)) (mkS [.iter s p] []) (vK nmL K))=(
 bif xle (xadd p 1) (xsln s) then(
 bif xnot (ltB (xrn s p)) then(
 bif xcm .eql k 0 then(
 K .ret [.bool false,.int .i64 k,.ptr 0 0] [some (.iter s (xadd p (xrw s p)))] [])
 else(
 bif xcm .lss (xrn s p) 48 then(
 K .ret [.bool false,.int .i64 k,.ptr 0 0] [some (.iter s (xadd p (xrw s p)))] [])
 else(
 bif xcm .gtr (xrn s p) 57 then(
 K .ret [.bool false,.int .i64 k,.ptr 0 0] [some (.iter s (xadd p (xrw s p)))] [])
 else(
 K .normal [.bool false,.int .i64 (xar .add .i64 k 1),.ptr 0 0] [some (.iter s (xadd p (xrw s p)))] []))))
 else(
 K .normal [.bool false,.int .i64 (xar .add .i64 k 1),.ptr 0 0] [some (.iter s (xadd p (xrw s p)))] []))
 else(
 K (.exit 0) [.bool false,.int .i64 k,.ptr 0 0] [some (.iter s p)] [])):=by kernel_rfl
theorem nm_z (s:List UInt8) (p:Nat) (k:Int) (K:Pk):(xsp prog cxNm 40 34 ((sp prog 69).drop 4) (mkTm 34 (isnT k)) (mkS [.iter s p] []) (vK nmL K))=(
 bif xcm .geq k 1 then(
 K .ret [.bool (xcm .leq k 8),.int .i64 k,.ptr 0 0] [some (.iter s p)] [])
 else(
 K .ret [.bool false,.int .i64 k,.ptr 0 0] [some (.iter s p)] [])):=by kernel_rfl
theorem dr_0 (s:List UInt8) (m:Int) (K:Pk):(xsp prog (fun _=>none) 40 58 (seg (sp prog 83) 0 2) (tm0 [.str s,.int .u64 m]) (mkS [] []) (vK drL2 K))=(
 bif xstr .eql s [] then(
 K .normal [.str s,.int .u64 m,.int .u64 0,.bool false,.tup [],.bool true,.tup []] [] [])
 else(
 bif xcm .gtr (↑(xsln s)) 1 then(
 ck (xle 1 (xsln s)) <|
 K .normal [.str s,.int .u64 m,.int .u64 0,.bool false,.tup [],.bool (xcm .eql (xbyte s 0) 48),.tup []] [] [])
 else(
 K .normal [.str s,.int .u64 m,.int .u64 0,.bool false,.tup [],.bool false,.tup []] [] []))):=by kernel_rfl
theorem dr_1 (s:List UInt8) (m:Int) (q:Bool) (K:Pk):(xsp prog (fun _=>none) 40 58 (seg (sp prog 83) 2 3) (mkTm 58 [(0,.str s),(1,.int .u64 m),(4,.int .u64 0),(5,.bool false),(21,.bool q)]) (mkS [] []) (vK drL2 K))=(
 bif q then(
 K .ret [.str s,.int .u64 m,.int .u64 0,.bool false,.any,.bool q,.any] [] [])
 else(
 K .normal [.str s,.int .u64 m,.int .u64 0,.bool false,.int .u64 0,.bool q,.ptr 0 0] [some (.iter s 0)] [])):=by kernel_rfl
theorem dr_l (s:List UInt8) (p:Nat) (m n:Int) (K:Pk):(xcode prog (fun _=>none) 40 58 (loopOf (nthC (sp prog 83) 5)) (mkTm 58 (drT m n)) (mkS [.iter s p] []) (vK drL2 K))=(
 bif xle (xadd p 1) (xsln s) then(
 bif xcm .lss (xrn s p) 48 then(
 K .ret [.any,.int .u64 m,.int .u64 0,.bool false,.int .u64 n,.any,.ptr 0 0] [some (.iter s (xadd p (xrw s p)))] [])
 else(
 bif xcm .gtr (xrn s p) 57 then(
 K .ret [.any,.int .u64 m,.int .u64 0,.bool false,.int .u64 n,.any,.ptr 0 0] [some (.iter s (xadd p (xrw s p)))] [])
 else(
 bif xcm .gtr n (xar .quo .u64 m 10) then(
 K .ret [.any,.int .u64 m,.int .u64 0,.bool false,.int .u64 n,.any,.ptr 0 0] [some (.iter s (xadd p (xrw s p)))] [])
 else(
 bif xcm .gtr (xar .mul .u64 n 10) (xar .sub .u64 m (xwr .u64 (xar .sub .i32 (xrn s p) 48))) then(
 K .ret [.any,.int .u64 m,.int .u64 0,.bool false,.int .u64 n,.any,.ptr 0 0] [some (.iter s (xadd p (xrw s p)))] [])
 else(
 bif xcm .gtr (xwr .u64 (xar .sub .i32 (xrn s p) 48)) m then(
 K .ret [.any,.int .u64 m,.int .u64 0,.bool false,.int .u64 n,.any,.ptr 0 0] [some (.iter s (xadd p (xrw s p)))] [])
 else(
 K .normal [.any,.int .u64 m,.int .u64 0,.bool false,.int .u64 (xar .add .u64 (xar .mul .u64 n 10) (xwr .u64 (xar .sub .i32 (xrn s p) 48))),.any,.ptr 0 0] [some (.iter s (xadd p (xrw s p)))] []))))))
 else(
 K (.exit 0) [.any,.int .u64 m,.int .u64 0,.bool false,.int .u64 n,.any,.ptr 0 0] [some (.iter s p)] [])):=by kernel_rfl
theorem dr_z (s:List UInt8) (p:Nat) (m n:Int) (K:Pk):(xsp prog (fun _=>none) 40 58 ((sp prog 83).drop 6) (mkTm 58 (drT m n)) (mkS [.iter s p] []) (vK drL2 K))=(
 K .ret [.any,.int .u64 m,.int .u64 n,.bool true,.int .u64 n,.any,.ptr 0 0] [some (.iter s p)] []):=by kernel_rfl
theorem cxNm_ok:CtrOk prog (ctrOf cxNm):=cxl_ok ⟨ltG_ok,trivial⟩
end
end Go.Lev
/- text: names and numbers -/
namespace Go.Lev
set_option linter.unusedSimpArgs false
set_option linter.unusedVariables false
open Go.RowKit
open Go.Proofs.Tryd (prog)
set_option maxRecDepth 100000
noncomputable section
def nmF (s:List UInt8) (p:Nat) (k:Int):Bool :=
 if h:p < s.length then
  if ltB (xrn s p)=true then nmF s (p+xrw s p) (k+1)
  else if k=0 then false
  else if xrn s p < 48 then false
  else if 57 < xrn s p then false
  else nmF s (p+xrw s p) (k+1)
 else decide (1≤k) && decide (k≤8)
termination_by s.length - p
decreasing_by all_goals (have:=rn_w h; omega)
def isnB (s:List UInt8):Bool:=nmF s 0 0
theorem nm_ok (s:List UInt8) (hs:s.length≤1000000000):SFun prog 69 [.str s] (mkS [] []) fun l st=>l=.bool (isnB s)∧st=mkS [] []:=by
 refine SFun.mono (SFun.pieces (Q:=fun l b=>l=.bool (isnB s)∧b=[]) 34 0 nmL [2] (by kernel_rfl) rfl rfl rfl ?_) fun l s' ⟨b0,⟨h1,h2⟩,h3⟩=>⟨h1,by rw [h3,h2]⟩
 refine SSp.to cxNm_ok (n:=40) (g:=[]) 3 3 rfl (σ:=Unit) (fun _=>isnT 0) (fun _=>[.iter s 0]) (mkS_le (Nat.zero_le _)) (by kernel_rfl) ?_ fun _=>?_
 ·rw [nm_0]; exact⟨rfl,(),[.id 0],by(exact zC)⟩
 refine SSp.code_to (g:=[]) 4 rfl (σ:={k:Int // (decide (1≤k) && decide (k≤8))=isnB s}) (fun k=>isnT k.1) (fun _=>[.iter s s.length]) (by kernel_rfl) ?_ fun⟨k,hk⟩=>?_
 ·refine SCode.loop_vc cxNm_ok (n:=40) (n0:=0) 0 (by kernel_rfl) (σ:={x:Nat×Int // x.1≤s.length∧0≤x.2∧x.2≤x.1∧nmF s x.1 x.2=isnB s}) (fun x=>isnT x.1.2) (fun x=>[.iter s x.1.1]) (fun x=>s.length - x.1.1) (fun _=>Nat.zero_le _) (fun⟨⟨p,k⟩,hp,hk0,hk,hN⟩=>?_) ⟨(0,0),Nat.zero_le _,Int.le_refl _,Int.le_refl _,rfl⟩
  dsimp only at hp hk0 hk hN ⊢
  rw [nm_l]
  have e1:xar .add .i64 k 1=k+1:=add_i64 (by omega) (by omega)
  rw [nmF] at hN
  by_cases h:p < s.length
  ·have hw:=rn_w h
   rw [dif_pos h] at hN
   have y0:xle (xadd p 1) (xsln s)=true:=t_le (show p+1≤s.length by omega)
   simp only [y0,cond_true]
   cases hl:ltB (xrn s p) with
   | true =>
     rw [if_pos hl] at hN
     have y1:xnot (ltB (xrn s p))=false:=by rw [hl]; rfl
     rw [hl] at y1
     simp only [y1,e1,cond_false]
     exact⟨rfl,⟨(p+xrw s p,k+1),hw.2,by dsimp only; omega,by dsimp only; omega,hN⟩,by dsimp only; omega,[.id 0],by(exact zC)⟩
   | false =>
     rw [if_neg (by rw [hl]; simp)] at hN
     have y1:xnot false=true:=rfl
     simp only [y1,e1,cond_true]
     by_cases h1:k=0
     ·rw [if_pos h1] at hN
      simp only [show xcm .eql k 0=true from t_eql h1,cond_true]
      exact⟨trivial,rfl,.bool false,[],[],⟨by rw [← hN],rfl⟩,by(exact zC)⟩
     ·rw [if_neg h1] at hN
      simp only [show xcm .eql k 0=false from f_eql h1,cond_false]
      by_cases h2:xrn s p < 48
      ·rw [if_pos h2] at hN
       simp only [show xcm .lss (xrn s p) 48=true from t_lss h2,cond_true]
       exact⟨trivial,rfl,.bool false,[],[],⟨by rw [← hN],rfl⟩,by(exact zC)⟩
      ·rw [if_neg h2] at hN
       simp only [show xcm .lss (xrn s p) 48=false from f_lss (by omega),cond_false]
       by_cases h3:57 < xrn s p
       ·rw [if_pos h3] at hN
        simp only [show xcm .gtr (xrn s p) 57=true from t_gtr h3,cond_true]
        exact⟨trivial,rfl,.bool false,[],[],⟨by rw [← hN],rfl⟩,by(exact zC)⟩
       ·rw [if_neg h3] at hN
        simp only [show xcm .gtr (xrn s p) 57=false from f_gtr (by omega),cond_false]
        exact⟨rfl,⟨(p+xrw s p,k+1),hw.2,by dsimp only; omega,by dsimp only; omega,hN⟩,by dsimp only; omega,[.id 0],by(exact zC)⟩
  ·rw [dif_neg h] at hN
   have y0:xle (xadd p 1) (xsln s)=false:=f_le (show s.length < p+1 by omega)
   simp only [y0,cond_false]
   have hM:=hN
   obtain rfl:p=s.length:=by omega
   exact⟨rfl,⟨k,hM⟩,[.id 0],by(exact zC)⟩
 dsimp only at hk ⊢
 refine SSp.last cxNm_ok (n:=40) (mkS_le (Nat.zero_le _)) ?_
 rw [nm_z]
 by_cases h:1≤k
 ·simp only [show xcm .geq k 1=true from t_geq h,cond_true]
  refine⟨trivial,rfl,.bool (xcm .leq k 8),[],[],⟨?_,rfl⟩,by(exact zC)⟩
  rw [← hk]
  congr 1
  by_cases h2:k≤8
  ·rw [t_leq h2]; simp [h,h2]
  ·rw [f_leq (by omega)]; simp [h2]
 ·simp only [show xcm .geq k 1=false from f_geq (by omega),cond_false]
  refine⟨trivial,rfl,.bool false,[],[],⟨?_,rfl⟩,by(exact zC)⟩
  rw [← hk]; simp [h]
def nmG:Gc:=fun args s=>match args,s.g with
 | [.str x],[]=>(match s.lay [] [] [] with
   | some s'=>some ([xle (xsln x) 1000000000],.bool (isnB x),s')
   | none=>none)
 | _,_=>none
theorem nmG_ok:GOk prog 69 nmG:=by
 intro args s bs l s' hg hb hfr
 unfold nmG at hg
 split at hg
 ·rename_i x hgl
  split at hg
  ·rename_i s1 hs1
   simp only [Option.some.injEq,Prod.mk.injEq] at hg
   obtain⟨rfl,rfl,rfl⟩:=hg
   simp only [allT_cons] at hb
   obtain⟨k1,_⟩:=hb
   refine SFun.lay (bs:=[]) (args0:=[.str x]) (bs':=[]) (v0:=.bool (isnB x)) hfr hs1 (by simp)
    trivial (by(exact zTl)) ?_
    fun κ h1 h2=>⟨trivial,lw_bool⟩
   rw [hgl]; exact(nm_ok x (show x.length≤1000000000 from xle_iff.1 k1))
  ·cases hg
 ·cases hg
def drD (s:List UInt8) (p:Nat):Int:=xwr .u64 (xar .sub .i32 (xrn s p) 48)
def drF (s:List UInt8) (m:Int) (p:Nat) (n:Int):Option Int :=
 if h:p < s.length then
  if xrn s p < 48 then none
  else if 57 < xrn s p then none
  else if xar .quo .u64 m 10 < n then none
  else if xar .sub .u64 m (drD s p) < xar .mul .u64 n 10 then none
  else if m < drD s p then none
  else drF s m (p+xrw s p) (xar .add .u64 (xar .mul .u64 n 10) (drD s p))
 else some n
termination_by s.length - p
decreasing_by all_goals (have:=rn_w h; omega)
def drQ (s:List UInt8):Bool:=xstr .eql s [] || (decide (1 < s.length) && xcm .eql (xbyte s 0) 48)
def drV (s:List UInt8) (m:Int):Option Int:=if drQ s=true then none else drF s m 0 0
def drN (s:List UInt8) (m:Int):Int:=(drV s m).getD 0
def drB (s:List UInt8) (m:Int):Bool:=(drV s m).isSome
theorem dr_ok (s:List UInt8) (m:Int):SFun prog 83 [.str s,.int .u64 m] (mkS [] []) fun l st=>l=.tup [.int .u64 (drN s m),.bool (drB s m)]∧st=mkS [] []:=by
 refine SFun.mono (SFun.pieces (Q:=fun l b=>l=.tup [.int .u64 (drN s m),.bool (drB s m)]∧b=[]) 58 0 drL2 [4,5] (by kernel_rfl) rfl rfl rfl ?_) fun l s' ⟨b0,⟨h1,h2⟩,h3⟩=>⟨h1,by rw [h3,h2]⟩
 refine SSp.to noCx_ok (n:=40) (g:=[]) 2 2 rfl (σ:=Unit) (fun _=>[(0,.str s),(1,.int .u64 m),(4,.int .u64 0),(5,.bool false),(21,.bool (drQ s))]) (fun _=>[]) (mkS_le (Nat.zero_le _)) (by kernel_rfl) ?_ fun _=>?_
 ·rw [dr_0]
  cases h0:xstr .eql s [] with
  | true=>simp only [drQ,h0,Bool.true_or,cond_true]; exact⟨rfl,(),[],by(exact zC)⟩
  | false =>
    simp only [drQ,h0,Bool.false_or,cond_false]
    by_cases h1:1 < s.length
    ·simp only [show xcm .gtr ((xsln s:Nat):Int) 1=true from t_gtr (show(1:Int) < ((s.length:Nat):Int) by omega),show xle 1 (xsln s)=true from t_le (show 1≤s.length by omega),cond_true,h1,decide_true,Bool.true_and]
     exact⟨rfl,(),[],by(exact zC)⟩
    ·simp only [show xcm .gtr ((xsln s:Nat):Int) 1=false from f_gtr (show((s.length:Nat):Int)≤(1:Int) by omega),cond_false,h1,decide_false,Bool.false_and]
     exact⟨rfl,(),[],by(exact zC)⟩
 refine SSp.to noCx_ok (n:=40) (g:=[]) 3 5 rfl (σ:={_u:Unit // drQ s=false}) (fun _=>drT m 0) (fun _=>[.iter s 0]) (mkS_le (Nat.zero_le _)) (by kernel_rfl) ?_ fun⟨_,hq⟩=>?_
 ·rw [dr_1]
  cases hq:drQ s with
  | true =>
    simp only [cond_true]
    refine⟨trivial,rfl,.tup [.int .u64 0,.bool false],[],[],⟨?_,rfl⟩,by(exact zC)⟩
    simp [drN,drB,drV,hq]
  | false =>
    simp only [cond_false]
    exact⟨rfl,⟨(),rfl⟩,[.id 0],by(exact zC)⟩
 refine SSp.code_to (g:=[]) 6 rfl (σ:={n:Int // some n=drV s m}) (fun n=>drT m n.1) (fun _=>[.iter s s.length]) (by kernel_rfl) ?_ fun⟨n,hn⟩=>?_
 ·refine SCode.loop_vc noCx_ok (n:=40) (n0:=0) 0 (by kernel_rfl) (σ:={x:Nat×Int // x.1≤s.length∧drF s m x.1 x.2=drV s m}) (fun x=>drT m x.1.2) (fun x=>[.iter s x.1.1]) (fun x=>s.length - x.1.1) (fun _=>Nat.zero_le _) (fun⟨⟨p,n⟩,hp,hN⟩=>?_) ⟨(0,0),Nat.zero_le _,by simp [drV,hq]⟩
  dsimp only at hp hN ⊢
  rw [dr_l]
  rw [drF] at hN
  by_cases h:p < s.length
  ·have hw:=rn_w h
   rw [dif_pos h] at hN
   have y0:xle (xadd p 1) (xsln s)=true:=t_le (show p+1≤s.length by omega)
   simp only [y0,cond_true]
   have bad:none=drV s m→(LV.tup [.int .u64 0,.bool false])=.tup [.int .u64 (drN s m),.bool (drB s m)]:=fun e=>by simp [drN,drB,← e]
   by_cases h1:xrn s p < 48
   ·rw [if_pos h1] at hN
    simp only [show xcm .lss (xrn s p) 48=true from t_lss h1,cond_true]
    exact⟨trivial,rfl,.tup [.int .u64 0,.bool false],[],[],⟨bad hN,rfl⟩,by(exact zC)⟩
   rw [if_neg h1] at hN
   simp only [show xcm .lss (xrn s p) 48=false from f_lss (by omega),cond_false]
   by_cases h2:57 < xrn s p
   ·rw [if_pos h2] at hN
    simp only [show xcm .gtr (xrn s p) 57=true from t_gtr h2,cond_true]
    exact⟨trivial,rfl,.tup [.int .u64 0,.bool false],[],[],⟨bad hN,rfl⟩,by(exact zC)⟩
   rw [if_neg h2] at hN
   simp only [show xcm .gtr (xrn s p) 57=false from f_gtr (by omega),cond_false]
   by_cases h3:xar .quo .u64 m 10 < n
   ·rw [if_pos h3] at hN
    simp only [show xcm .gtr n (xar .quo .u64 m 10)=true from t_gtr h3,cond_true]
    exact⟨trivial,rfl,.tup [.int .u64 0,.bool false],[],[],⟨bad hN,rfl⟩,by(exact zC)⟩
   rw [if_neg h3] at hN
   simp only [show xcm .gtr n (xar .quo .u64 m 10)=false from f_gtr (by omega),cond_false]
   by_cases h4:xar .sub .u64 m (drD s p) < xar .mul .u64 n 10
   ·rw [if_pos h4] at hN
    simp only [show xcm .gtr (xar .mul .u64 n 10) (xar .sub .u64 m (xwr .u64 (xar .sub .i32 (xrn s p) 48)))=true from t_gtr h4,cond_true]
    exact⟨trivial,rfl,.tup [.int .u64 0,.bool false],[],[],⟨bad hN,rfl⟩,by(exact zC)⟩
   rw [if_neg h4] at hN
   simp only [show xcm .gtr (xar .mul .u64 n 10) (xar .sub .u64 m (xwr .u64 (xar .sub .i32 (xrn s p) 48)))=false from f_gtr (Int.not_lt.1 h4),cond_false]
   by_cases h5:m < drD s p
   ·rw [if_pos h5] at hN
    simp only [show xcm .gtr (xwr .u64 (xar .sub .i32 (xrn s p) 48)) m=true from t_gtr h5,cond_true]
    exact⟨trivial,rfl,.tup [.int .u64 0,.bool false],[],[],⟨bad hN,rfl⟩,by(exact zC)⟩
   rw [if_neg h5] at hN
   simp only [show xcm .gtr (xwr .u64 (xar .sub .i32 (xrn s p) 48)) m=false from f_gtr (Int.not_lt.1 h5),cond_false]
   exact⟨rfl,⟨(p+xrw s p,_),hw.2,hN⟩,by dsimp only; omega,[.id 0],by(exact zC)⟩
  ·rw [dif_neg h] at hN
   have y0:xle (xadd p 1) (xsln s)=false:=f_le (show s.length < p+1 by omega)
   simp only [y0,cond_false]
   have hM:=hN
   obtain rfl:p=s.length:=by omega
   exact⟨rfl,⟨n,hM⟩,[.id 0],by(exact zC)⟩
 dsimp only at hn ⊢
 refine SSp.last noCx_ok (n:=40) (mkS_le (Nat.zero_le _)) ?_
 rw [dr_z]
 refine⟨trivial,rfl,.tup [.int .u64 n,.bool true],[],[],⟨?_,rfl⟩,by(exact zC)⟩
 simp [drN,drB,← hn]
def drG:Gc:=fun args s=>match args,s.g with
 | [.str x,.int .u64 m],[]=>(match s.lay [] [] [] with
   | some s'=>some ([],.tup [.int .u64 (drN x m),.bool (drB x m)],s')
   | none=>none)
 | _,_=>none
theorem drG_ok:GOk prog 83 drG:=by
 intro args s bs l s' hg hb hfr
 unfold drG at hg
 split at hg
 ·rename_i x m hgl
  split at hg
  ·rename_i s1 hs1
   simp only [Option.some.injEq,Prod.mk.injEq] at hg
   obtain⟨rfl,rfl,rfl⟩:=hg
   refine SFun.lay (bs:=[]) (args0:=[.str x,.int .u64 m]) (bs':=[]) (v0:=.tup [.int .u64 (drN x m),.bool (drB x m)]) hfr hs1 (by simp)
    trivial (by(exact zTl)) ?_
    fun κ h1 h2=>⟨trivial,lw_noid rfl⟩
   rw [hgl]; exact(dr_ok x m)
  ·cases hg
 ·cases hg
end
end Go.Lev
/- text: fields: readValue -/
namespace Go.Lev
set_option linter.unusedSimpArgs false
set_option linter.unusedVariables false
open Go.RowKit
open Go.Proofs.Tryd (prog)
set_option maxRecDepth 100000
noncomputable section
def mostW (k:Int):Int:=if k=1 then 7 else if k=2 then 6 else if k=3 then 15 else if k=4 then 40 else if k=5 then 7 else if k=6 then 12 else 0
theorem mo_x (k:Int) (K:Fk):(xfun prog (fun _=>none) 40 64 [.int .i64 k] (mkS []) (vF K))=(
 bif xcm .eql k 1 then(
 K (.int .i64 7) [] [])
 else(
 bif xcm .eql k 2 then(
 K (.int .i64 6) [] [])
 else(
 bif xcm .eql k 3 then(
 K (.int .i64 15) [] [])
 else(
 bif xcm .eql k 4 then(
 K (.int .i64 40) [] [])
 else(
 bif xcm .eql k 5 then(
 K (.int .i64 7) [] [])
 else(
 bif xcm .eql k 6 then(
 K (.int .i64 12) [] [])
 else(
 K (.int .i64 0) [] []))))))):=by kernel_rfl
theorem leafI3 {x y:Int} {bs:List (Option LB)} (h:y=x):convOk 0 1 [0] [.int .i64 x] bs [] [(0,.int .i64 y)] []:=by subst h; (exact zC)
theorem mo_ok (k:Int):SFun prog 64 [.int .i64 k] (mkS []) fun l s=>l=.int .i64 (mostW k)∧s=mkS []:=by
 refine SFun.mono (SFun.vc (Q:=fun l b=>l=.int .i64 (mostW k)∧b=[]) noCx_ok (n:=40) 0 rfl ?_) fun l s' ⟨b0,⟨h1,h2⟩,h3⟩=>⟨h1,by rw [h3,h2]⟩
 rw [mo_x]
 repeat' (refine way2 (fun _=>?_) (fun _=>?_))
 all_goals (refine⟨rfl,_,[],[],⟨rfl,rfl⟩,leafI3 ?_⟩; simp_all [mostW,xcm_eql])
def moG:Gc:=fun args s=>match args,s.g with
 | [.int .i64 k],[]=>(match s.lay [] [] [] with
   | some s'=>some ([],.int .i64 (mostW k),s')
   | none=>none)
 | _,_=>none
theorem moG_ok:GOk prog 64 moG:=by
 intro args s bs l s' hg hb hfr
 unfold moG at hg
 split at hg
 ·rename_i k hgl
  split at hg
  ·rename_i s1 hs1
   simp only [Option.some.injEq,Prod.mk.injEq] at hg
   obtain⟨rfl,rfl,rfl⟩:=hg
   refine SFun.lay (bs:=[]) (args0:=[.int .i64 k]) (bs':=[]) (v0:=.int .i64 (mostW k)) hfr hs1 (by simp)
    trivial (by(exact zTl)) ?_
    fun κ h1 h2=>⟨trivial,lw_int⟩
   rw [hgl]; exact(mo_ok k)
  ·cases hg
 ·cases hg
def cxRv:Cx:=cxl [(64,wrapG moG),(84,whichG),(83,wrapG drG)]
theorem cxRv_ok:CtrOk prog (ctrOf cxRv):=cxl_ok ⟨wrapG_ok moG_ok,whichG_ok,wrapG_ok drG_ok,trivial⟩
theorem rv_x (k:Int) (s:List UInt8) (rest:Glb) (K:Fk):(xfun prog cxRv 40 77 [.int .i64 k,.str s] (mkS [] (tab2 rest)) (vF K))=(
 bif xcm .eql k 1 then(
 bif xcm .eql k 1 then(
 bif xcm .lss (↑(xsln s)) 1 then(
 K (.tup [.int .u64 0,.bool false]) [] (tab2 rest))
 else(
 ck (xle 1 (xsln s)) <|
 bif xcm .neq (xbyte s 0) 114 then(
 K (.tup [.int .u64 0,.bool false]) [] (tab2 rest))
 else(
 ck (xle 1 (xsln s)) <|
 ck (xle (xsln s) (xsln s)) <|
 K (.tup [.int .u64 (drN (xscut s 1 (xsln s)) (xwr .u64 (mostW k))),.bool (drB (xscut s 1 (xsln s)) (xwr .u64 (mostW k)))]) [] (tab2 rest))))
 else(
 bif xcm .eql k 6 then(
 K (.tup [.int .u64 (xwr .u64 (whW s)),.bool (whB s)]) [] (tab2 rest))
 else(
 bif xcm .eql k 7 then(
 K (.tup [.int .u64 (drN s 18446744073709551615),.bool (drB s 18446744073709551615)]) [] (tab2 rest))
 else(
 K (.tup [.int .u64 (drN s (xwr .u64 (mostW k))),.bool (drB s (xwr .u64 (mostW k)))]) [] (tab2 rest)))))
 else(
 bif xcm .eql k 2 then(
 bif xcm .lss (↑(xsln s)) 1 then(
 K (.tup [.int .u64 0,.bool false]) [] (tab2 rest))
 else(
 ck (xle 1 (xsln s)) <|
 bif xcm .neq (xbyte s 0) 114 then(
 K (.tup [.int .u64 0,.bool false]) [] (tab2 rest))
 else(
 ck (xle 1 (xsln s)) <|
 ck (xle (xsln s) (xsln s)) <|
 K (.tup [.int .u64 (drN (xscut s 1 (xsln s)) (xwr .u64 (mostW k))),.bool (drB (xscut s 1 (xsln s)) (xwr .u64 (mostW k)))]) [] (tab2 rest))))
 else(
 bif xcm .eql k 6 then(
 K (.tup [.int .u64 (xwr .u64 (whW s)),.bool (whB s)]) [] (tab2 rest))
 else(
 bif xcm .eql k 7 then(
 K (.tup [.int .u64 (drN s 18446744073709551615),.bool (drB s 18446744073709551615)]) [] (tab2 rest))
 else(
 K (.tup [.int .u64 (drN s (xwr .u64 (mostW k))),.bool (drB s (xwr .u64 (mostW k)))]) [] (tab2 rest)))))):=by kernel_rfl
def rvV (k:Int) (s:List UInt8):Int×Bool :=
 if k=1∨k=2 then
  if s.length < 1 then(0,false)
  else if xbyte s 0≠114 then(0,false)
  else(drN (xscut s 1 s.length) (xwr .u64 (mostW k)),drB (xscut s 1 s.length) (xwr .u64 (mostW k)))
 else if k=6 then(xwr .u64 (whW s),whB s)
 else if k=7 then(drN s 18446744073709551615,drB s 18446744073709551615)
 else(drN s (xwr .u64 (mostW k)),drB s (xwr .u64 (mostW k)))
def rvN (k:Int) (s:List UInt8):Int:=(rvV k s).1
def rvB (k:Int) (s:List UInt8):Bool:=(rvV k s).2
end
end Go.Lev
/- text: marks, labels, fields -/
namespace Go.Lev
set_option linter.unusedSimpArgs false
set_option linter.unusedVariables false
open Go.RowKit
open Go.Proofs.Tryd (prog)
set_option maxRecDepth 100000
noncomputable section
theorem leafT3 {x y:Int} {p q:Bool} {bs:List (Option LB)} (h:y=x) (h2:q=p):convOk 0 1 [0] [.tup [.int .u64 x,.bool p]] bs [] [(0,.tup [.int .u64 y,.bool q])] []:=by subst h h2; (exact zC)
theorem rv_ok (k:Int) (s:List UInt8) (rest:Glb):SFun prog 77 [.int .i64 k,.str s] (mkS [] (tab2 rest)) fun l st=>l=.tup [.int .u64 (rvN k s),.bool (rvB k s)]∧st=mkS [] (tab2 rest):=by
 refine SFun.mono (SFun.vc (Q:=fun l b=>l=.tup [.int .u64 (rvN k s),.bool (rvB k s)]∧b=[]) cxRv_ok (n:=40) 0 rfl ?_) fun l s' ⟨b0,⟨h1,h2⟩,h3⟩=>⟨h1,by rw [h3,h2]⟩
 rw [rv_x]
 have z2:xle (xsln s) (xsln s)=true:=t_le (Nat.le_refl _)
 by_cases k1:k=1
 ·simp only [show xcm .eql k 1=true from t_eql k1,cond_true]
  by_cases h1:s.length < 1
  ·simp only [show xcm .lss ((xsln s:Nat):Int) 1=true from t_lss (show((s.length:Nat):Int) < 1 by omega),cond_true]
   refine⟨rfl,_,[],[],⟨rfl,rfl⟩,leafT3 ?_ ?_⟩ <;> simp [rvN,rvB,rvV,k1,h1]
  simp only [show xcm .lss ((xsln s:Nat):Int) 1=false from f_lss (show(1:Int)≤((s.length:Nat):Int) by omega),show xle 1 (xsln s)=true from t_le (show 1≤s.length by omega),z2,cond_true,cond_false]
  by_cases h2:xbyte s 0=114
  ·simp only [show xcm .neq (xbyte s 0) 114=false from f_neq h2,cond_false]
   refine⟨rfl,_,[],[],⟨rfl,rfl⟩,leafT3 ?_ ?_⟩ <;> simp [rvN,rvB,rvV,k1,h1,h2,xsln]
  ·simp only [show xcm .neq (xbyte s 0) 114=true from t_neq h2,cond_true]
   refine⟨rfl,_,[],[],⟨rfl,rfl⟩,leafT3 ?_ ?_⟩ <;> simp [rvN,rvB,rvV,k1,h1,h2]
 simp only [show xcm .eql k 1=false from f_eql k1,cond_false]
 by_cases k2:k=2
 ·simp only [show xcm .eql k 2=true from t_eql k2,cond_true]
  by_cases h1:s.length < 1
  ·simp only [show xcm .lss ((xsln s:Nat):Int) 1=true from t_lss (show((s.length:Nat):Int) < 1 by omega),cond_true]
   refine⟨rfl,_,[],[],⟨rfl,rfl⟩,leafT3 ?_ ?_⟩ <;> simp [rvN,rvB,rvV,k2,h1]
  simp only [show xcm .lss ((xsln s:Nat):Int) 1=false from f_lss (show(1:Int)≤((s.length:Nat):Int) by omega),show xle 1 (xsln s)=true from t_le (show 1≤s.length by omega),z2,cond_true,cond_false]
  by_cases h2:xbyte s 0=114
  ·simp only [show xcm .neq (xbyte s 0) 114=false from f_neq h2,cond_false]
   refine⟨rfl,_,[],[],⟨rfl,rfl⟩,leafT3 ?_ ?_⟩ <;> simp [rvN,rvB,rvV,k2,h1,h2,xsln]
  ·simp only [show xcm .neq (xbyte s 0) 114=true from t_neq h2,cond_true]
   refine⟨rfl,_,[],[],⟨rfl,rfl⟩,leafT3 ?_ ?_⟩ <;> simp [rvN,rvB,rvV,k2,h1,h2]
 simp only [show xcm .eql k 2=false from f_eql k2,cond_false]
 by_cases k6:k=6
 ·simp only [show xcm .eql k 6=true from t_eql k6,cond_true]
  refine⟨rfl,_,[],[],⟨rfl,rfl⟩,leafT3 ?_ ?_⟩ <;> simp [rvN,rvB,rvV,k6]
 simp only [show xcm .eql k 6=false from f_eql k6,cond_false]
 by_cases k7:k=7
 ·simp only [show xcm .eql k 7=true from t_eql k7,cond_true]
  refine⟨rfl,_,[],[],⟨rfl,rfl⟩,leafT3 ?_ ?_⟩ <;> simp [rvN,rvB,rvV,k7]
 simp only [show xcm .eql k 7=false from f_eql k7,cond_false]
 refine⟨rfl,_,[],[],⟨rfl,rfl⟩,leafT3 ?_ ?_⟩ <;> simp [rvN,rvB,rvV,k1,k2,k6,k7]
def rvG:Gc:=fun args s=>match args,s.g with
 | [.int .i64 k,.str x],(g0,F0)::(g1,F1)::rest=>cond (Nat.beq g0 0 && eqbs F0 formsL && (Nat.beq g1 2 && eqbs F1 callsL)) (match s.lay [] [] [] with
   | some s'=>some ([],.tup [.int .u64 (rvN k x),.bool (rvB k x)],s')
   | none=>none) none
 | _,_=>none
theorem rvG_ok:GOk prog 77 rvG:=by
 intro args s bs l s' hg hb hfr
 unfold rvG at hg
 split at hg
 ·rename_i k x g0 F0 g1 F1 rest hgl
  cases hc:(Nat.beq g0 0 && eqbs F0 formsL && (Nat.beq g1 2 && eqbs F1 callsL)) with
  | false=>rw [hc] at hg; cases hg
  | true =>
    rw [hc] at hg
    simp only [cond_true] at hg
    rw [Bool.and_eq_true] at hc
    replace hgl:s.g=tab2 rest:=by(have c1:=Bool.and_eq_true_iff.1 hc.1; have c2:=Bool.and_eq_true_iff.1 hc.2; rw [hgl,Nat.eq_of_beq_eq_true c1.1,eqbs_eq c1.2,Nat.eq_of_beq_eq_true c2.1,eqbs_eq c2.2] <;> rfl)
    split at hg
    ·rename_i s1 hs1
     simp only [Option.some.injEq,Prod.mk.injEq] at hg
     obtain⟨rfl,rfl,rfl⟩:=hg
     refine SFun.lay (bs:=[]) (args0:=[.int .i64 k,.str x]) (bs':=[]) (v0:=.tup [.int .u64 (rvN k x),.bool (rvB k x)]) hfr hs1 (by simp)
      trivial (by(exact zTl)) ?_
      fun κ h1 h2=>⟨trivial,lw_noid rfl⟩
     rw [hgl]; exact(rv_ok k x rest)
    ·cases hg
 ·cases hg
structure MkX where
 nm:List UInt8
 pl:Int
 ln:Int
 cl:Int
abbrev mkC (x:MkX):List LV:=[.str x.nm,.int .i64 x.pl,.int .i64 x.ln,.int .i64 x.cl]
structure InX where
 op:Int
 a:Int
 b:Int
 c:Int
 n:Int
abbrev inC (x:InX):List LV:=[.int .i64 x.op,.int .i64 x.a,.int .i64 x.b,.int .i64 x.c,.int .u64 x.n]
theorem mkC_len (x:MkX):(mkC x).length=4:=rfl
theorem inC_len (x:InX):(inC x).length=5:=rfl
theorem mk_n (xs:List MkX):(encL mkC xs).length=xs.length * 4:=encL_length mkC_len xs
theorem in_n (xs:List InX):(encL inC xs).length=xs.length * 5:=encL_length inC_len xs
theorem noids_mk (xs:List MkX):noIds (encL mkC xs)=true:=noIds_encL (fun _=>rfl) xs
theorem noids_in (xs:List InX):noIds (encL inC xs)=true:=noIds_encL (fun _=>rfl) xs
theorem mk_0 {xs:List MkX} {i:Nat} (h:i < xs.length):nthD (encL mkC xs) (i * 4)=.str xs[i].nm:=encL_nth mkC_len (j:=0) h (by omega)
theorem mk_1 {xs:List MkX} {i:Nat} (h:i < xs.length):nthD (encL mkC xs) (i * 4+1)=.int .i64 xs[i].pl:=encL_nth mkC_len (j:=1) h (by omega)
theorem mk_2 {xs:List MkX} {i:Nat} (h:i < xs.length):nthD (encL mkC xs) (i * 4+2)=.int .i64 xs[i].ln:=encL_nth mkC_len (j:=2) h (by omega)
theorem mk_3 {xs:List MkX} {i:Nat} (h:i < xs.length):nthD (encL mkC xs) (i * 4+3)=.int .i64 xs[i].cl:=encL_nth mkC_len (j:=3) h (by omega)
theorem in_push (xs:List InX) (op a b c n:Int):xcat (xcut (encL inC xs) 0 (xs.length * 5)) [.int .i64 op,.int .i64 a,.int .i64 b,.int .i64 c,.int .u64 n]=encL inC (xs++[⟨op,a,b,c,n⟩]):=by
 rw [xcut_all (by rw [in_n]; omega),encL_append]; rfl
def mkD:List LV→List MkX
 | .str a::.int _ b::.int _ c::.int _ d::r=>⟨a,b,c,d⟩::mkD r
 | _=>[]
theorem mkD_enc:∀ xs,mkD (encL mkC xs)=xs
 | []=>rfl
 | x::r=>by simp [encL,mkC,mkD,mkD_enc r]
def inD:List LV→List InX
 | .int _ a::.int _ b::.int _ c::.int _ d::.int _ e::r=>⟨a,b,c,d,e⟩::inD r
 | _=>[]
theorem inD_enc:∀ xs,inD (encL inC xs)=xs
 | []=>rfl
 | x::r=>by simp [encL,inC,inD,inD_enc r]
def okMk (n:Nat) (c:List LV):Bool:=@decide (∃ L,c=encL mkC L∧L.length=n∧n≤100000) (Classical.propDecidable _)
def okIn (n:Nat) (c:List LV):Bool:=@decide (∃ L,c=encL inC L∧L.length=n∧n≤100000) (Classical.propDecidable _)
theorem okMk_iff {n:Nat} {c:List LV}:okMk n c=true↔∃ L,c=encL mkC L∧L.length=n∧n≤100000:=by simp only [okMk,decide_eq_true_eq]
theorem okIn_iff {n:Nat} {c:List LV}:okIn n c=true↔∃ L,c=encL inC L∧L.length=n∧n≤100000:=by simp only [okIn,decide_eq_true_eq]
theorem okMk_nd {n:Nat} {c:List LV} (h:okMk n c=true):noIds c=true:=by obtain⟨L,rfl,_⟩:=okMk_iff.1 h; exact noids_mk L
theorem okIn_nd {n:Nat} {c:List LV} (h:okIn n c=true):noIds c=true:=by obtain⟨L,rfl,_⟩:=okIn_iff.1 h; exact noids_in L
def fndF (L:List MkX) (s:List UInt8):Option Int:=match L with
 | []=>none
 | x::r=>if x.nm == s then some x.pl else fndF r s
def fndN (bx:List LV) (s:List UInt8):Int:=(fndF (mkD bx) s).getD 0
def fndB (bx:List LV) (s:List UInt8):Bool:=(fndF (mkD bx) s).isSome
abbrev psH (ni nl nj:Nat) (ln:Int) (ax bx cx:List LV):List LB:=[.cells [.slo 1 0 ni 0,.slo 2 0 nl 0,.slo 3 0 nj 0,.int .i64 ln] none,.cells ax (some 5),.cells bx (some 4),.cells cx (some 4)]
abbrev fndL:List Nat:=[1,4,5,11,12,13]
abbrev fndT (s:List UInt8) (nl i:Nat):List (Nat×LV):=[(1,.str s),(4,.int .i64 0),(5,.bool false),(11,.slo 2 0 nl 0),(12,.int .i64 nl),(13,.int .i64 i)]
theorem fnd_0 (s:List UInt8) (ni nl nj:Nat) (ln:Int) (ax bx cx:List LV) (g:Glb) (K:Pk):(xsp prog (fun _=>none) 40 24 (seg (sp prog 62) 0 2) (tm0 [.ptr 0 0,.str s]) (mkS (psH ni nl nj ln ax bx cx) g) (vK fndL K))=(
 K .normal [.str s,.int .i64 0,.bool false,.slo 2 0 nl 0,.int .i64 ↑nl,.int .i64 0] [sN [.slo 1 0 ni 0,.slo 2 0 nl 0,.slo 3 0 nj 0,.int .i64 ln],sC ax 5,sC bx 4,sC cx 4] g):=by kernel_rfl
abbrev fnd_l_b1 (ni:Nat) (nl:Nat) (nj:Nat) (i:Nat) (ln:Int) (ax:List LV) (bx:List LV) (cx:List LV):List (Option LB):=[sN [.slo 1 0 ni 0,.slo 2 0 nl 0,.slo 3 0 nj 0,.int .i64 ln],sC ax 5,sC bx 4,sC cx 4,sN [.str (asS (nthD bx (xix 0 (xnat ↑i) 4))),.int .i64 (asI (nthD bx (xadd (xix 0 (xnat ↑i) 4) 1))),.int .i64 (asI (nthD bx (xadd (xadd (xix 0 (xnat ↑i) 4) 1) 1))),.int .i64 (asI (nthD bx (xadd (xadd (xadd (xix 0 (xnat ↑i) 4) 1) 1) 1)))]]
theorem fnd_l (s:List UInt8) (ni nl nj i:Nat) (ln:Int) (ax bx cx:List LV) (g:Glb) (K:Pk):(xcode prog (fun _=>none) 40 24 (loopOf (nthC (sp prog 62) 2)) (mkTm 24 (fndT s nl i)) (mkS (psH ni nl nj ln ax bx cx) g) (vK fndL K))=(
 bif xcm .lss ↑i ↑nl then(
 ck (xle (xadd (xnat ↑i) 1) nl) <|
 ck (xle (xadd (xix 0 (xnat ↑i) 4) 4) (xln bx)) <|
 ck (isS (nthD bx (xix 0 (xnat ↑i) 4))) <|
 ck (isI .i64 (nthD bx (xadd (xix 0 (xnat ↑i) 4) 1))) <|
 ck (isI .i64 (nthD bx (xadd (xadd (xix 0 (xnat ↑i) 4) 1) 1))) <|
 ck (isI .i64 (nthD bx (xadd (xadd (xadd (xix 0 (xnat ↑i) 4) 1) 1) 1))) <|
 bif xstr .eql (asS (nthD bx (xix 0 (xnat ↑i) 4))) s then(
 K .ret [.str s,.int .i64 (asI (nthD bx (xadd (xix 0 (xnat ↑i) 4) 1))),.bool true,.slo 2 0 nl 0,.int .i64 ↑nl,.int .i64 ↑i] (fnd_l_b1 ni nl nj i ln ax bx cx) g)
 else(
 K .normal [.str s,.int .i64 0,.bool false,.slo 2 0 nl 0,.int .i64 ↑nl,.int .i64 (xar .add .i64 (↑i) 1)] (fnd_l_b1 ni nl nj i ln ax bx cx) g))
 else(
 K (.exit 0) [.str s,.int .i64 0,.bool false,.slo 2 0 nl 0,.int .i64 ↑nl,.int .i64 ↑i] [sN [.slo 1 0 ni 0,.slo 2 0 nl 0,.slo 3 0 nj 0,.int .i64 ln],sC ax 5,sC bx 4,sC cx 4] g)):=by kernel_rfl
theorem fnd_z (s:List UInt8) (ni nl nj i:Nat) (ln:Int) (ax bx cx:List LV) (g:Glb) (K:Pk):(xsp prog (fun _=>none) 40 24 ((sp prog 62).drop 3) (mkTm 24 (fndT s nl i)) (mkS (psH ni nl nj ln ax bx cx) g) (vK fndL K))=(
 K .ret [.str s,.int .i64 0,.bool false,.slo 2 0 nl 0,.int .i64 ↑nl,.int .i64 ↑i] [sN [.slo 1 0 ni 0,.slo 2 0 nl 0,.slo 3 0 nj 0,.int .i64 ln],sC ax 5,sC bx 4,sC cx 4] g):=by kernel_rfl
end
end Go.Lev
/- text: find; trees of readLabel, readField -/
namespace Go.Lev
set_option linter.unusedSimpArgs false
set_option linter.unusedVariables false
open Go.RowKit
open Go.Proofs.Tryd (prog)
set_option maxRecDepth 100000
noncomputable section
theorem fndF_drop {L:List MkX} {s:List UInt8} {i:Nat} (h:i < L.length):fndF (L.drop i) s=if L[i].nm == s then some L[i].pl else fndF (L.drop (i+1)) s:=by
 rw [List.drop_eq_getElem_cons h]; rfl
theorem fnd_ok (s:List UInt8) (L:List MkX) (ni nj:Nat) (ln:Int) (ax cx:List LV) (g:Glb) (hL:L.length≤100000) (na:noIds ax=true) (nc:noIds cx=true) :
  SFun prog 62 [.ptr 0 0,.str s] (mkS (psH ni L.length nj ln ax (encL mkC L) cx) g) fun l st=>l=.tup [.int .i64 ((fndF L s).getD 0),.bool (fndF L s).isSome]∧st=mkS (psH ni L.length nj ln ax (encL mkC L) cx) g:=by
 refine SFun.mono (SFun.pieces (Q:=fun l b=>l=.tup [.int .i64 ((fndF L s).getD 0),.bool (fndF L s).isSome]∧b=psH ni L.length nj ln ax (encL mkC L) cx) 24 4 fndL [4,5] (by kernel_rfl) rfl rfl rfl ?_) fun l s' ⟨b0,⟨h1,h2⟩,h3⟩=>⟨h1,by rw [h3,h2]⟩
 have nm:=noids_mk L; have lm:=mk_n L
 have g0:=fun {i:Nat} (h:i < L.length)=>mk_0 h
 have g1:=fun {i:Nat} (h:i < L.length)=>mk_1 h
 have g2:=fun {i:Nat} (h:i < L.length)=>mk_2 h
 have g3:=fun {i:Nat} (h:i < L.length)=>mk_3 h
 generalize encL mkC L=bx at *
 refine SSp.to noCx_ok (n:=40) (g:=g) 2 2 rfl (σ:=Unit) (fun _=>fndT s L.length 0) (fun _=>psH ni L.length nj ln ax bx cx) (mkS_le (Nat.le_of_ble_eq_true rfl)) (by kernel_rfl) ?_ fun _=>?_
 ·rw [fnd_0]; exact⟨rfl,(),[.id 0,.id 1,.id 2,.id 3],by(exact zC)⟩
 refine SSp.code_to (g:=g) 3 rfl (σ:={_u:Unit // fndF L s=none}) (fun _=>fndT s L.length L.length) (fun _=>psH ni L.length nj ln ax bx cx) (by kernel_rfl) ?_ fun⟨_,hN⟩=>?_
 ·refine SCode.loop_vc noCx_ok (n:=40) (n0:=4) 0 (by kernel_rfl) (σ:={i:Nat // i≤L.length∧fndF (L.drop i) s=fndF L s}) (fun i=>fndT s L.length i.1) (fun _=>psH ni L.length nj ln ax bx cx) (fun i=>L.length - i.1) (fun _=>Nat.le_of_ble_eq_true rfl) (fun⟨i,hi,hN⟩=>?_) ⟨0,Nat.zero_le _,rfl⟩
  dsimp only at hi hN ⊢
  rw [fnd_l]; simp only [fnd_l_b1]
  by_cases h:i < L.length
  ·have wS:∀ x,asS (.str x)=x:=fun _=>rfl
   have wB:∀ x,isS (.str x)=true:=fun _=>rfl
   have v0:=g0 h; have v1:=g1 h; have v2:=g2 h; have v3:=g3 h
   have hM:=hN
   rw [fndF_drop h] at hM
   have x0:xle (i+1) L.length=true:=t_le (by omega)
   have x1:xle (i * 4+4) (L.length * 4)=true:=t_le (by omega)
   have e3:xar .add .i64 (i:Int) 1=((i+1:Nat):Int):=inc_i64 h (by omega)
   have q1:i * 4+1+1=i * 4+2:=by omega
   have q2:i * 4+2+1=i * 4+3:=by omega
   simp only [show xcm .lss ((i:Nat):Int) ((L.length:Nat):Int)=true from t_lss (by omega),wd_nat,wd_ix,wd_add,wd_mul,wd_ln,Nat.zero_add,lm,q1,q2,x0,x1,v0,v1,v2,v3,e3,wd_asI,wd_isI,wS,wB,decide_true,cond_true]
   cases hb:L[i].nm == s with
   | true =>
     rw [hb,if_pos rfl] at hM
     simp only [show xstr .eql L[i].nm s=true from hb,cond_true]
     exact⟨trivial,rfl,.tup [.int .i64 L[i].pl,.bool true],_,[.id 0,.id 1,.id 2,.id 3],⟨by rw [← hM]; rfl,rfl⟩,by(exact zC)⟩
   | false =>
     rw [hb,if_neg (by simp)] at hM
     simp only [show xstr .eql L[i].nm s=false from hb,cond_false]
     exact⟨rfl,⟨i+1,by omega,hM⟩,by dsimp only; omega,[.id 0,.id 1,.id 2,.id 3],by(exact zC)⟩
  ·simp only [show xcm .lss ((i:Nat):Int) ((L.length:Nat):Int)=false from f_lss (by omega),cond_false]
   have ei:i=L.length:=by omega
   have hM:=hN
   rw [ei,List.drop_length] at hM
   subst ei
   exact⟨rfl,⟨(),hM.symm⟩,[.id 0,.id 1,.id 2,.id 3],by(exact zC)⟩
 refine SSp.last noCx_ok (n:=40) (mkS_le (Nat.le_of_ble_eq_true rfl)) ?_
 rw [fnd_z]
 exact⟨trivial,rfl,.tup [.int .i64 0,.bool false],_,[.id 0,.id 1,.id 2,.id 3],⟨by rw [hN]; rfl,rfl⟩,by(exact zC)⟩
theorem fnd_c (x:List UInt8) (ni nl nj:Nat) (ln:Int) (ax bx cx:List LV) (g:Glb) (k1:okIn ni ax=true) (k2:okMk nl bx=true) (k3:okMk nj cx=true) :
  SFun prog 62 [.ptr 0 0,.str x] (mkS (psH ni nl nj ln ax bx cx) g) fun l st=>l=.tup [.int .i64 (fndN bx x),.bool (fndB bx x)]∧st=mkS (psH ni nl nj ln ax bx cx) g:=by
 obtain⟨L,rfl,rfl,hL⟩:=okMk_iff.1 k2
 rw [fndN,fndB,mkD_enc]
 exact fnd_ok x L ni nj ln ax cx g hL (okIn_nd k1) (okMk_nd k3)
def fndG2:Gc:=fun args s=>match args,s.g with
 | [.ptr p 0,.str x],(g0,F0)::(g1,F1)::rest=>cond (Nat.beq g0 0 && eqbs F0 formsL && (Nat.beq g1 2 && eqbs F1 callsL)) (match s.h.get p with
   | some (.cells [.slo a 0 ni 0,.slo b 0 nl 0,.slo c 0 nj 0,.int .i64 ln] none)=>(match s.h.get a with
     | some (.cells ax (some 5))=>(match s.h.get b with
       | some (.cells bx (some 4))=>(match s.h.get c with
         | some (.cells cx (some 4))=>cond (nodupB [p,a,b,c]) (match s.lay [p,a,b,c] [.cells [.slo a 0 ni 0,.slo b 0 nl 0,.slo c 0 nj 0,.int .i64 ln] none,.cells ax (some 5),.cells bx (some 4),.cells cx (some 4)] [] with
           | some s'=>some ([okIn ni ax,okMk nl bx,okMk nj cx],.tup [.int .i64 (fndN bx x),.bool (fndB bx x)],s')
           | none=>none) none
         | _=>none)
       | _=>none)
     | _=>none)
   | _=>none) none
 | _,_=>none
theorem fndG2_ok:GOk prog 62 fndG2:=by
 intro args s bs l s' hg hb hfr
 unfold fndG2 at hg
 split at hg
 ·rename_i p x g0 F0 g1 F1 rest hgl
  cases hc:(Nat.beq g0 0 && eqbs F0 formsL && (Nat.beq g1 2 && eqbs F1 callsL)) with
  | false=>rw [hc] at hg; cases hg
  | true =>
    rw [hc] at hg
    simp only [cond_true] at hg
    rw [Bool.and_eq_true] at hc
    replace hgl:s.g=tab2 rest:=by(have c1:=Bool.and_eq_true_iff.1 hc.1; have c2:=Bool.and_eq_true_iff.1 hc.2; rw [hgl,Nat.eq_of_beq_eq_true c1.1,eqbs_eq c1.2,Nat.eq_of_beq_eq_true c2.1,eqbs_eq c2.2] <;> rfl)
    split at hg
    ·rename_i a ni b nl c nj ln hb0
     split at hg
     ·rename_i ax hb1
      split at hg
      ·rename_i bx hb2
       split at hg
       ·rename_i cx hb3
        cases hbc:nodupB [p,a,b,c] with
        | false=>rw [hbc] at hg; cases hg
        | true =>
          rw [hbc] at hg
          simp only [cond_true] at hg
          split at hg
          ·rename_i s1 hs1
           simp only [Option.some.injEq,Prod.mk.injEq] at hg
           obtain⟨rfl,rfl,rfl⟩:=hg
           simp only [allT_cons] at hb
           obtain⟨k1,k2,k3,_⟩:=hb
           have n1:=okIn_nd k1; have n2:=okMk_nd k2; have n3:=okMk_nd k3
           refine SFun.lay (bs:=[.cells [.slo 1 0 ni 0,.slo 2 0 nl 0,.slo 3 0 nj 0,.int .i64 ln] none,.cells ax (some 5),.cells bx (some 4),.cells cx (some 4)]) (args0:=[.ptr 0 0,.str x]) (bs':=[.cells [.slo 1 0 ni 0,.slo 2 0 nl 0,.slo 3 0 nj 0,.int .i64 ln] none,.cells ax (some 5),.cells bx (some 4),.cells cx (some 4)]) (v0:=.tup [.int .i64 (fndN bx x),.bool (fndB bx x)]) hfr hs1 (nodupB_nd hbc)
            ⟨⟨there hfr hb0,_,hb0,by first | exact lb_same rfl | exact lb_cells (lws_cons (lw_slo rfl) (lws_cons (lw_slo rfl) (lws_cons (lw_slo rfl) (lws_cons (lw_int) lws_nil)))) (by simp),fun κ hκ=>lb_cells (lws_cons (lw_slo (hκ 1 a rfl)) (lws_cons (lw_slo (hκ 2 b rfl)) (lws_cons (lw_slo (hκ 3 c rfl)) (lws_cons (lw_int) lws_nil)))) (by simp)⟩,⟨there hfr hb1,_,hb1,lb_same (by(exact zId)),fun κ hκ=>lb_same (by(exact zId))⟩,⟨there hfr hb2,_,hb2,lb_same (by(exact zId)),fun κ hκ=>lb_same (by(exact zId))⟩,⟨there hfr hb3,_,hb3,lb_same (by(exact zId)),fun κ hκ=>lb_same (by(exact zId))⟩,trivial⟩ (by(exact zTl)) ?_
            fun κ h1 h2=>⟨⟨lb_cells (lws_cons (lw_slo (h1 1 a rfl)) (lws_cons (lw_slo (h1 2 b rfl)) (lws_cons (lw_slo (h1 3 c rfl)) (lws_cons (lw_int) lws_nil)))) (by simp),lb_same (by(exact zId)),lb_same (by(exact zId)),lb_same (by(exact zId)),trivial⟩,lw_noid rfl⟩
           rw [hgl]; exact(fnd_c x ni nl nj ln ax bx cx (tab2 rest) k1 k2 k3)
          ·cases hg
       ·cases hg
      ·cases hg
     ·cases hg
    ·cases hg
 ·cases hg
def cxRl:Cx:=cxl [(69,wrapG nmG),(62,fndG2)]
def cxRf:Cx:=cxl [(69,wrapG nmG),(77,rvG)]
theorem cxRl_ok:CtrOk prog (ctrOf cxRl):=cxl_ok ⟨wrapG_ok nmG_ok,fndG2_ok,trivial⟩
theorem cxRf_ok:CtrOk prog (ctrOf cxRf):=cxl_ok ⟨wrapG_ok nmG_ok,rvG_ok,trivial⟩
abbrev rl_x_b1 (s:List UInt8) (w:Int) (ni:Nat) (nl:Nat) (nj:Nat) (ln:Int) (ax:List LV) (bx:List LV) (cx:List LV):List (Option LB):=[sN [.slo 1 0 ni 0,.slo 2 0 nl 0,.slo 3 0 nj 0,.int .i64 ln],sC ax 5,sC bx 4,sC cx 4,sN [.str s,.int .i64 w]]
theorem rl_x (s:List UInt8) (w:Int) (ni nl nj:Nat) (ln:Int) (ax bx cx:List LV) (rest:Glb) (K:Fk):(xfun prog cxRl 40 59 [.ptr 0 0,.agg [.str s,.int .i64 w]] (mkS (psH ni nl nj ln ax bx cx) (tab2 rest)) (vF K))=(
 ck (xnn (xar .sub .i64 (↑(xsln s)) 1)) <|
 ck (xle (xnat (xar .sub .i64 (↑(xsln s)) 1)) (xsln s)) <|
 ck (xle (xsln (xscut s 0 (xnat (xar .sub .i64 (↑(xsln s)) 1)))) 1000000000) <|
 bif xnot (isnB (xscut s 0 (xnat (xar .sub .i64 (↑(xsln s)) 1)))) then(
 K (.bool false) (rl_x_b1 s w ni nl nj ln ax bx cx) (tab2 rest))
 else(
 ck (okIn ni ax) <|
 ck (okMk nl bx) <|
 ck (okMk nj cx) <|
 bif fndB bx (xscut s 0 (xnat (xar .sub .i64 (↑(xsln s)) 1))) then(
 K (.bool false) (rl_x_b1 s w ni nl nj ln ax bx cx) (tab2 rest))
 else(
 ck (xle (xadd nl 1) 1000000) <|
 ck (xle (xadd 0 (xmul nl 4)) (xln bx)) <|
 ck (xeq nl nl) <|
 ck (xeq nl nl) <|
 K (.bool true) [sN [.slo 1 0 ni 0,.slo 6 0 (xadd nl 1) 0,.slo 3 0 nj 0,.int .i64 ln],sC ax 5,sD,sC cx 4,sN [.str s,.int .i64 w],sN [.str (xscut s 0 (xnat (xar .sub .i64 (↑(xsln s)) 1))),.int .i64 ↑ni,.int .i64 0,.int .i64 0],sC (xcat (xcut bx 0 (xmul nl 4)) [.str (xscut s 0 (xnat (xar .sub .i64 (↑(xsln s)) 1))),.int .i64 ↑ni,.int .i64 0,.int .i64 0]) 4] (tab2 rest)))):=by kernel_rfl
theorem rf_x (s:List UInt8) (w i k:Int) (op a b c n:Int) (ni nl nj:Nat) (ln:Int) (ax bx cx:List LV) (rest:Glb) (K:Fk):(xfun prog cxRf 40 71 [.ptr 0 0,.ptr 4 0,.int .i64 i,.int .i64 k,.agg [.str s,.int .i64 w]] (mkS (psH ni nl nj ln ax bx cx++[.cells [.int .i64 op,.int .i64 a,.int .i64 b,.int .i64 c,.int .u64 n] none]) (tab2 rest)) (vF K))=(
 bif xcm .eql k 4 then(
 ck (xle (xadd nj 1) 1000000) <|
 ck (xle (xadd 0 (xmul nj 4)) (xln cx)) <|
 ck (xeq nj nj) <|
 ck (xeq nj nj) <|
 ck (xle (xsln s) 1000000000) <|
 K (.bool (isnB s)) [sN [.slo 1 0 ni 0,.slo 2 0 nl 0,.slo 7 0 (xadd nj 1) 0,.int .i64 ln],sC ax 5,sC bx 4,sD,sN [.int .i64 op,.int .i64 a,.int .i64 b,.int .i64 c,.int .u64 n],sN [.str s,.int .i64 w],sN [.str s,.int .i64 ↑ni,.int .i64 ln,.int .i64 w],sC (xcat (xcut cx 0 (xmul nj 4)) [.str s,.int .i64 ↑ni,.int .i64 ln,.int .i64 w]) 4] (tab2 rest))
 else(
 bif xcm .eql i 0 then(
 K (.bool (rvB k s)) [sN [.slo 1 0 ni 0,.slo 2 0 nl 0,.slo 3 0 nj 0,.int .i64 ln],sC ax 5,sC bx 4,sC cx 4,sN [.int .i64 op,.int .i64 (xwr .i64 (rvN k s)),.int .i64 b,.int .i64 c,.int .u64 n],sN [.str s,.int .i64 w]] (tab2 rest))
 else(
 bif xcm .eql i 1 then(
 K (.bool (rvB k s)) [sN [.slo 1 0 ni 0,.slo 2 0 nl 0,.slo 3 0 nj 0,.int .i64 ln],sC ax 5,sC bx 4,sC cx 4,sN [.int .i64 op,.int .i64 a,.int .i64 (xwr .i64 (rvN k s)),.int .i64 c,.int .u64 n],sN [.str s,.int .i64 w]] (tab2 rest))
 else(
 bif xcm .eql i 2 then(
 K (.bool (rvB k s)) [sN [.slo 1 0 ni 0,.slo 2 0 nl 0,.slo 3 0 nj 0,.int .i64 ln],sC ax 5,sC bx 4,sC cx 4,sN [.int .i64 op,.int .i64 a,.int .i64 b,.int .i64 (xwr .i64 (rvN k s)),.int .u64 n],sN [.str s,.int .i64 w]] (tab2 rest))
 else(
 K (.bool (rvB k s)) [sN [.slo 1 0 ni 0,.slo 2 0 nl 0,.slo 3 0 nj 0,.int .i64 ln],sC ax 5,sC bx 4,sC cx 4,sN [.int .i64 op,.int .i64 a,.int .i64 b,.int .i64 c,.int .u64 (rvN k s)],sN [.str s,.int .i64 w]] (tab2 rest)))))):=by kernel_rfl
end
end Go.Lev
