import Derived.Test.YtnkkkihgljbllaaDoorCW5
import Derived.Test.YtnkkkihgljbllaaDoorLc
import Derived.Test.YtnkkkihgljbllaaDoorChecked
import Derived.KernelRfl
/- text: letters: their tree -/
namespace Go.Lev
set_option linter.unusedSimpArgs false
set_option linter.unusedVariables false
open Go.RowKit
open Go.Proofs.Tryd (prog)
set_option maxRecDepth 100000
noncomputable section
def ltB (r:Int):Bool:=(xcm .geq r 97 && xcm .leq r 122 || xcm .geq r 65 && xcm .leq r 90) || (xcm .geq r 192 && xcm .leq r 591 && xcm .neq r 215 && xcm .neq r 247)
theorem g6p (r:Int) (K:Fk):(a4w prog (fun _=>none) 40 76 [.int .i32 r] (mkS []) (vF K))=(
 bif xcm .geq r 97 then(
 bif xcm .leq r 122 then(
 K (.bool true) [] [])
 else(
 bif xcm .geq r 65 then(
 bif xcm .leq r 90 then(
 K (.bool true) [] [])
 else(
 bif xcm .geq r 192 then(
 bif xcm .leq r 591 then(
 bif xcm .neq r 215 then(
 K (.bool (xcm .neq r 247)) [] [])
 else(
 K (.bool false) [] []))
 else(
 K (.bool false) [] []))
 else(
 K (.bool false) [] [])))
 else(
 bif xcm .geq r 192 then(
 bif xcm .leq r 591 then(
 bif xcm .neq r 215 then(
 K (.bool (xcm .neq r 247)) [] [])
 else(
 K (.bool false) [] []))
 else(
 K (.bool false) [] []))
 else(
 K (.bool false) [] []))))
 else(
 bif xcm .geq r 65 then(
 bif xcm .leq r 90 then(
 K (.bool true) [] [])
 else(
 bif xcm .geq r 192 then(
 bif xcm .leq r 591 then(
 bif xcm .neq r 215 then(
 K (.bool (xcm .neq r 247)) [] [])
 else(
 K (.bool false) [] []))
 else(
 K (.bool false) [] []))
 else(
 K (.bool false) [] [])))
 else(
 bif xcm .geq r 192 then(
 bif xcm .leq r 591 then(
 bif xcm .neq r 215 then(
 K (.bool (xcm .neq r 247)) [] [])
 else(
 K (.bool false) [] []))
 else(
 K (.bool false) [] []))
 else(
 K (.bool false) [] [])))):=by kernel_rfl
theorem g1x {c:Bool} {A B:Prop} (h1:c=true→A) (h2:c=false→B):cond c A B:=by cases c; exact h2 rfl; exact h1 rfl
theorem f3w {x y:Bool} {bs:List (Option LB)} (h:y=x):a4f 0 1 [0] [.bool x] bs [] [(0,.bool y)] []:=by subst h; (exact zC)
theorem f8y (r:Int):a0k prog 76 [.int .i32 r] (mkS []) fun l s=>l=.bool (ltB r)∧s=mkS []:=by
 refine a0k.mono (a0k.vc (Q:=fun l b=>l=.bool (ltB r)∧b=[]) a0j (n:=40) 0 rfl ?_) fun l s' ⟨b0,⟨h1,h2⟩,h3⟩=>⟨h1,by rw [h3,h2]⟩
 rw [g6p]
 repeat' (refine g1x (fun _=>?_) (fun _=>?_))
 all_goals (refine⟨rfl,_,[],[],⟨rfl,rfl⟩,f3w ?_⟩; simp_all [ltB,a3i])
def ltG:Gc:=fun args s=>match args,s.g with
 | [.int .i32 r],[]=>(match s.lay [] [] [] with
   | some s'=>some ([],.bool (ltB r),s')
   | none=>none)
 | _,_=>none
theorem f3o:GOk prog 76 ltG:=by
 intro args s bs l s' hg hb hfr
 unfold ltG at hg
 split at hg
 ·rename_i r hgl
  split at hg
  ·rename_i s1 hs1
   simp only [Option.some.injEq,Prod.mk.injEq] at hg
   obtain⟨rfl,rfl,rfl⟩:=hg
   refine a0k.lay (bs:=[]) (args0:=[.int .i32 r]) (bs':=[]) (v0:=.bool (ltB r)) hfr hs1 (by simp)
    trivial (by(exact zTl)) ?_
    fun κ h1 h2=>⟨trivial,a5r⟩
   rw [hgl]; exact(f8y r)
  ·cases hg
 ·cases hg
end
end Go.Lev
/- text: names and numbers: their trees -/
namespace Go.Lev
set_option linter.unusedSimpArgs false
set_option linter.unusedVariables false
open Go.RowKit
open Go.Proofs.Tryd (prog)
set_option maxRecDepth 100000
noncomputable section
def f6t:Cx:=cxl [(76,ltG)]
abbrev nmL:List Nat:=[2,3,7]
abbrev f3y (k:Int):List (Nat×LV):=[(2,.bool false),(3,.int .i64 k),(7,.ptr 0 0)]
abbrev f5c:List Nat:=[0,1,4,5,6,21,23]
abbrev drT (m n:Int):List (Nat×LV):=[(1,.int .u64 m),(4,.int .u64 0),(5,.bool false),(6,.int .u64 n),(23,.ptr 0 0)]
theorem g6n (s:List UInt8) (K:Pk):(xsp prog f6t 40 34 (seg (sp prog 69) 0 3) (tm0 [.str s]) (mkS [] []) (vK nmL K))=(
 K .normal [.bool false,.int .i64 0,.ptr 0 0] [some (.iter s 0)] []):=by kernel_rfl
theorem g6m (s:List UInt8) (p:Nat) (k:Int) (K:Pk):(a1h prog f6t 40 34 (a1w (a4i (sp prog 69) 3)) (a1p 34 (f3y k)) (mkS [.iter s p] []) (vK nmL K))=(
 bif xle (a0a p 1) (a0z s) then(
 bif a3i (ltB (xrn s p)) then(
 bif xcm .eql k 0 then(
 K .ret [.bool false,.int .i64 k,.ptr 0 0] [some (.iter s (a0a p (xrw s p)))] [])
 else(
 bif xcm .lss (xrn s p) 48 then(
 K .ret [.bool false,.int .i64 k,.ptr 0 0] [some (.iter s (a0a p (xrw s p)))] [])
 else(
 bif xcm .gtr (xrn s p) 57 then(
 K .ret [.bool false,.int .i64 k,.ptr 0 0] [some (.iter s (a0a p (xrw s p)))] [])
 else(
 K .normal [.bool false,.int .i64 (xar .add .i64 k 1),.ptr 0 0] [some (.iter s (a0a p (xrw s p)))] []))))
 else(
 K .normal [.bool false,.int .i64 (xar .add .i64 k 1),.ptr 0 0] [some (.iter s (a0a p (xrw s p)))] []))
 else(
 K (.exit 0) [.bool false,.int .i64 k,.ptr 0 0] [some (.iter s p)] [])):=by kernel_rfl
theorem g6l (s:List UInt8) (p:Nat) (k:Int) (K:Pk):(xsp prog f6t 40 34 ((sp prog 69).drop 4) (a1p 34 (f3y k)) (mkS [.iter s p] []) (vK nmL K))=(
 bif xcm .geq k 1 then(
 K .ret [.bool (xcm .leq k 8),.int .i64 k,.ptr 0 0] [some (.iter s p)] [])
 else(
 K .ret [.bool false,.int .i64 k,.ptr 0 0] [some (.iter s p)] [])):=by kernel_rfl
theorem g8k (s:List UInt8) (m:Int) (K:Pk):(xsp prog (fun _=>none) 40 58 (seg (sp prog 83) 0 2) (tm0 [.str s,.int .u64 m]) (mkS [] []) (vK f5c K))=(
 bif a3h .eql s [] then(
 K .normal [.str s,.int .u64 m,.int .u64 0,.bool false,.tup [],.bool true,.tup []] [] [])
 else(
 bif xcm .gtr (↑(a0z s)) 1 then(
 ck (xle 1 (a0z s)) <|
 K .normal [.str s,.int .u64 m,.int .u64 0,.bool false,.tup [],.bool (xcm .eql (a1i s 0) 48),.tup []] [] [])
 else(
 K .normal [.str s,.int .u64 m,.int .u64 0,.bool false,.tup [],.bool false,.tup []] [] []))):=by kernel_rfl
theorem g8j (s:List UInt8) (m:Int) (q:Bool) (K:Pk):(xsp prog (fun _=>none) 40 58 (seg (sp prog 83) 2 3) (a1p 58 [(0,.str s),(1,.int .u64 m),(4,.int .u64 0),(5,.bool false),(21,.bool q)]) (mkS [] []) (vK f5c K))=(
 bif q then(
 K .ret [.str s,.int .u64 m,.int .u64 0,.bool false,.any,.bool q,.any] [] [])
 else(
 K .normal [.str s,.int .u64 m,.int .u64 0,.bool false,.int .u64 0,.bool q,.ptr 0 0] [some (.iter s 0)] [])):=by kernel_rfl
theorem g8i (s:List UInt8) (p:Nat) (m n:Int) (K:Pk):(a1h prog (fun _=>none) 40 58 (a1w (a4i (sp prog 83) 5)) (a1p 58 (drT m n)) (mkS [.iter s p] []) (vK f5c K))=(
 bif xle (a0a p 1) (a0z s) then(
 bif xcm .lss (xrn s p) 48 then(
 K .ret [.any,.int .u64 m,.int .u64 0,.bool false,.int .u64 n,.any,.ptr 0 0] [some (.iter s (a0a p (xrw s p)))] [])
 else(
 bif xcm .gtr (xrn s p) 57 then(
 K .ret [.any,.int .u64 m,.int .u64 0,.bool false,.int .u64 n,.any,.ptr 0 0] [some (.iter s (a0a p (xrw s p)))] [])
 else(
 bif xcm .gtr n (xar .quo .u64 m 10) then(
 K .ret [.any,.int .u64 m,.int .u64 0,.bool false,.int .u64 n,.any,.ptr 0 0] [some (.iter s (a0a p (xrw s p)))] [])
 else(
 bif xcm .gtr (xar .mul .u64 n 10) (xar .sub .u64 m (xwr .u64 (xar .sub .i32 (xrn s p) 48))) then(
 K .ret [.any,.int .u64 m,.int .u64 0,.bool false,.int .u64 n,.any,.ptr 0 0] [some (.iter s (a0a p (xrw s p)))] [])
 else(
 bif xcm .gtr (xwr .u64 (xar .sub .i32 (xrn s p) 48)) m then(
 K .ret [.any,.int .u64 m,.int .u64 0,.bool false,.int .u64 n,.any,.ptr 0 0] [some (.iter s (a0a p (xrw s p)))] [])
 else(
 K .normal [.any,.int .u64 m,.int .u64 0,.bool false,.int .u64 (xar .add .u64 (xar .mul .u64 n 10) (xwr .u64 (xar .sub .i32 (xrn s p) 48))),.any,.ptr 0 0] [some (.iter s (a0a p (xrw s p)))] []))))))
 else(
 K (.exit 0) [.any,.int .u64 m,.int .u64 0,.bool false,.int .u64 n,.any,.ptr 0 0] [some (.iter s p)] [])):=by kernel_rfl
theorem g8h (s:List UInt8) (p:Nat) (m n:Int) (K:Pk):(xsp prog (fun _=>none) 40 58 ((sp prog 83).drop 6) (a1p 58 (drT m n)) (mkS [.iter s p] []) (vK f5c K))=(
 K .ret [.any,.int .u64 m,.int .u64 n,.bool true,.int .u64 n,.any,.ptr 0 0] [some (.iter s p)] []):=by kernel_rfl
theorem c5e:a3w prog (a2z f6t):=a6i ⟨f3o,trivial⟩
end
end Go.Lev
/- text: names and numbers -/
namespace Go.Lev
set_option linter.unusedSimpArgs false
set_option linter.unusedVariables false
open Go.RowKit
open Go.Proofs.Tryd (prog)
set_option maxRecDepth 100000
noncomputable section
def nmF (s:List UInt8) (p:Nat) (k:Int):Bool :=
 if h:p < s.length then
  if ltB (xrn s p)=true then nmF s (p+xrw s p) (k+1)
  else if k=0 then false
  else if xrn s p < 48 then false
  else if 57 < xrn s p then false
  else nmF s (p+xrw s p) (k+1)
 else decide (1≤k) && decide (k≤8)
termination_by s.length - p
decreasing_by all_goals (have:=b1o h; omega)
def a9l (s:List UInt8):Bool:=nmF s 0 0
theorem f8w (s:List UInt8) (hs:s.length≤1000000000):a0k prog 69 [.str s] (mkS [] []) fun l st=>l=.bool (a9l s)∧st=mkS [] []:=by
 refine a0k.mono (a0k.g9n (Q:=fun l b=>l=.bool (a9l s)∧b=[]) 34 0 nmL [2] (by kernel_rfl) rfl rfl rfl ?_) fun l s' ⟨b0,⟨h1,h2⟩,h3⟩=>⟨h1,by rw [h3,h2]⟩
 refine SSp.to c5e (n:=40) (g:=[]) 3 3 rfl (σ:=Unit) (fun _=>f3y 0) (fun _=>[.iter s 0]) (a0y (Nat.zero_le _)) (by kernel_rfl) ?_ fun _=>?_
 ·rw [g6n]; exact⟨rfl,(),[.id 0],by(exact zC)⟩
 refine SSp.code_to (g:=[]) 4 rfl (σ:={k:Int // (decide (1≤k) && decide (k≤8))=a9l s}) (fun k=>f3y k.1) (fun _=>[.iter s s.length]) (by kernel_rfl) ?_ fun⟨k,hk⟩=>?_
 ·refine a0p.g9s c5e (n:=40) (n0:=0) 0 (by kernel_rfl) (σ:={x:Nat×Int // x.1≤s.length∧0≤x.2∧x.2≤x.1∧nmF s x.1 x.2=a9l s}) (fun x=>f3y x.1.2) (fun x=>[.iter s x.1.1]) (fun x=>s.length - x.1.1) (fun _=>Nat.zero_le _) (fun⟨⟨p,k⟩,hp,hk0,hk,hN⟩=>?_) ⟨(0,0),Nat.zero_le _,Int.le_refl _,Int.le_refl _,rfl⟩
  dsimp only at hp hk0 hk hN ⊢
  rw [g6m]
  have e1:xar .add .i64 k 1=k+1:=a5c (by omega) (by omega)
  rw [nmF] at hN
  by_cases h:p < s.length
  ·have hw:=b1o h
   rw [dif_pos h] at hN
   have y0:xle (a0a p 1) (a0z s)=true:=a1n (show p+1≤s.length by omega)
   simp only [y0,cond_true]
   cases hl:ltB (xrn s p) with
   | true =>
     rw [if_pos hl] at hN
     have y1:a3i (ltB (xrn s p))=false:=by rw [hl]; rfl
     rw [hl] at y1
     simp only [y1,e1,cond_false]
     exact⟨rfl,⟨(p+xrw s p,k+1),hw.2,by dsimp only; omega,by dsimp only; omega,hN⟩,by dsimp only; omega,[.id 0],by(exact zC)⟩
   | false =>
     rw [if_neg (by rw [hl]; simp)] at hN
     have y1:a3i false=true:=rfl
     simp only [y1,e1,cond_true]
     by_cases h1:k=0
     ·rw [if_pos h1] at hN
      simp only [show xcm .eql k 0=true from a2i h1,cond_true]
      exact⟨trivial,rfl,.bool false,[],[],⟨by rw [← hN],rfl⟩,by(exact zC)⟩
     ·rw [if_neg h1] at hN
      simp only [show xcm .eql k 0=false from a2c h1,cond_false]
      by_cases h2:xrn s p < 48
      ·rw [if_pos h2] at hN
       simp only [show xcm .lss (xrn s p) 48=true from a6j h2,cond_true]
       exact⟨trivial,rfl,.bool false,[],[],⟨by rw [← hN],rfl⟩,by(exact zC)⟩
      ·rw [if_neg h2] at hN
       simp only [show xcm .lss (xrn s p) 48=false from a6h (by omega),cond_false]
       by_cases h3:57 < xrn s p
       ·rw [if_pos h3] at hN
        simp only [show xcm .gtr (xrn s p) 57=true from a7w h3,cond_true]
        exact⟨trivial,rfl,.bool false,[],[],⟨by rw [← hN],rfl⟩,by(exact zC)⟩
       ·rw [if_neg h3] at hN
        simp only [show xcm .gtr (xrn s p) 57=false from a7e (by omega),cond_false]
        exact⟨rfl,⟨(p+xrw s p,k+1),hw.2,by dsimp only; omega,by dsimp only; omega,hN⟩,by dsimp only; omega,[.id 0],by(exact zC)⟩
  ·rw [dif_neg h] at hN
   have y0:xle (a0a p 1) (a0z s)=false:=d9k (show s.length < p+1 by omega)
   simp only [y0,cond_false]
   have hM:=hN
   obtain rfl:p=s.length:=by omega
   exact⟨rfl,⟨k,hM⟩,[.id 0],by(exact zC)⟩
 dsimp only at hk ⊢
 refine SSp.last c5e (n:=40) (a0y (Nat.zero_le _)) ?_
 rw [g6l]
 by_cases h:1≤k
 ·simp only [show xcm .geq k 1=true from b3a h,cond_true]
  refine⟨trivial,rfl,.bool (xcm .leq k 8),[],[],⟨?_,rfl⟩,by(exact zC)⟩
  rw [← hk]
  congr 1
  by_cases h2:k≤8
  ·rw [a9k h2]; simp [h,h2]
  ·rw [c5a (by omega)]; simp [h2]
 ·simp only [show xcm .geq k 1=false from b6o (by omega),cond_false]
  refine⟨trivial,rfl,.bool false,[],[],⟨?_,rfl⟩,by(exact zC)⟩
  rw [← hk]; simp [h]
def nmG:Gc:=fun args s=>match args,s.g with
 | [.str x],[]=>(match s.lay [] [] [] with
   | some s'=>some ([xle (a0z x) 1000000000],.bool (a9l x),s')
   | none=>none)
 | _,_=>none
theorem d6g:GOk prog 69 nmG:=by
 intro args s bs l s' hg hb hfr
 unfold nmG at hg
 split at hg
 ·rename_i x hgl
  split at hg
  ·rename_i s1 hs1
   simp only [Option.some.injEq,Prod.mk.injEq] at hg
   obtain⟨rfl,rfl,rfl⟩:=hg
   simp only [a0g] at hb
   obtain⟨k1,_⟩:=hb
   refine a0k.lay (bs:=[]) (args0:=[.str x]) (bs':=[]) (v0:=.bool (a9l x)) hfr hs1 (by simp)
    trivial (by(exact zTl)) ?_
    fun κ h1 h2=>⟨trivial,a5r⟩
   rw [hgl]; exact(f8w x (show x.length≤1000000000 from a2a.1 k1))
  ·cases hg
 ·cases hg
def drD (s:List UInt8) (p:Nat):Int:=xwr .u64 (xar .sub .i32 (xrn s p) 48)
def drF (s:List UInt8) (m:Int) (p:Nat) (n:Int):Option Int :=
 if h:p < s.length then
  if xrn s p < 48 then none
  else if 57 < xrn s p then none
  else if xar .quo .u64 m 10 < n then none
  else if xar .sub .u64 m (drD s p) < xar .mul .u64 n 10 then none
  else if m < drD s p then none
  else drF s m (p+xrw s p) (xar .add .u64 (xar .mul .u64 n 10) (drD s p))
 else some n
termination_by s.length - p
decreasing_by all_goals (have:=b1o h; omega)
def drQ (s:List UInt8):Bool:=a3h .eql s [] || (decide (1 < s.length) && xcm .eql (a1i s 0) 48)
def drV (s:List UInt8) (m:Int):Option Int:=if drQ s=true then none else drF s m 0 0
def drN (s:List UInt8) (m:Int):Int:=(drV s m).getD 0
def drB (s:List UInt8) (m:Int):Bool:=(drV s m).isSome
theorem g1l (s:List UInt8) (m:Int):a0k prog 83 [.str s,.int .u64 m] (mkS [] []) fun l st=>l=.tup [.int .u64 (drN s m),.bool (drB s m)]∧st=mkS [] []:=by
 refine a0k.mono (a0k.g9n (Q:=fun l b=>l=.tup [.int .u64 (drN s m),.bool (drB s m)]∧b=[]) 58 0 f5c [4,5] (by kernel_rfl) rfl rfl rfl ?_) fun l s' ⟨b0,⟨h1,h2⟩,h3⟩=>⟨h1,by rw [h3,h2]⟩
 refine SSp.to a0j (n:=40) (g:=[]) 2 2 rfl (σ:=Unit) (fun _=>[(0,.str s),(1,.int .u64 m),(4,.int .u64 0),(5,.bool false),(21,.bool (drQ s))]) (fun _=>[]) (a0y (Nat.zero_le _)) (by kernel_rfl) ?_ fun _=>?_
 ·rw [g8k]
  cases h0:a3h .eql s [] with
  | true=>simp only [drQ,h0,Bool.true_or,cond_true]; exact⟨rfl,(),[],by(exact zC)⟩
  | false =>
    simp only [drQ,h0,Bool.false_or,cond_false]
    by_cases h1:1 < s.length
    ·simp only [show xcm .gtr ((a0z s:Nat):Int) 1=true from a7w (show(1:Int) < ((s.length:Nat):Int) by omega),show xle 1 (a0z s)=true from a1n (show 1≤s.length by omega),cond_true,h1,decide_true,Bool.true_and]
     exact⟨rfl,(),[],by(exact zC)⟩
    ·simp only [show xcm .gtr ((a0z s:Nat):Int) 1=false from a7e (show((s.length:Nat):Int)≤(1:Int) by omega),cond_false,h1,decide_false,Bool.false_and]
     exact⟨rfl,(),[],by(exact zC)⟩
 refine SSp.to a0j (n:=40) (g:=[]) 3 5 rfl (σ:={_u:Unit // drQ s=false}) (fun _=>drT m 0) (fun _=>[.iter s 0]) (a0y (Nat.zero_le _)) (by kernel_rfl) ?_ fun⟨_,hq⟩=>?_
 ·rw [g8j]
  cases hq:drQ s with
  | true =>
    simp only [cond_true]
    refine⟨trivial,rfl,.tup [.int .u64 0,.bool false],[],[],⟨?_,rfl⟩,by(exact zC)⟩
    simp [drN,drB,drV,hq]
  | false =>
    simp only [cond_false]
    exact⟨rfl,⟨(),rfl⟩,[.id 0],by(exact zC)⟩
 refine SSp.code_to (g:=[]) 6 rfl (σ:={n:Int // some n=drV s m}) (fun n=>drT m n.1) (fun _=>[.iter s s.length]) (by kernel_rfl) ?_ fun⟨n,hn⟩=>?_
 ·refine a0p.g9s a0j (n:=40) (n0:=0) 0 (by kernel_rfl) (σ:={x:Nat×Int // x.1≤s.length∧drF s m x.1 x.2=drV s m}) (fun x=>drT m x.1.2) (fun x=>[.iter s x.1.1]) (fun x=>s.length - x.1.1) (fun _=>Nat.zero_le _) (fun⟨⟨p,n⟩,hp,hN⟩=>?_) ⟨(0,0),Nat.zero_le _,by simp [drV,hq]⟩
  dsimp only at hp hN ⊢
  rw [g8i]
  rw [drF] at hN
  by_cases h:p < s.length
  ·have hw:=b1o h
   rw [dif_pos h] at hN
   have y0:xle (a0a p 1) (a0z s)=true:=a1n (show p+1≤s.length by omega)
   simp only [y0,cond_true]
   have bad:none=drV s m→(LV.tup [.int .u64 0,.bool false])=.tup [.int .u64 (drN s m),.bool (drB s m)]:=fun e=>by simp [drN,drB,← e]
   by_cases h1:xrn s p < 48
   ·rw [if_pos h1] at hN
    simp only [show xcm .lss (xrn s p) 48=true from a6j h1,cond_true]
    exact⟨trivial,rfl,.tup [.int .u64 0,.bool false],[],[],⟨bad hN,rfl⟩,by(exact zC)⟩
   rw [if_neg h1] at hN
   simp only [show xcm .lss (xrn s p) 48=false from a6h (by omega),cond_false]
   by_cases h2:57 < xrn s p
   ·rw [if_pos h2] at hN
    simp only [show xcm .gtr (xrn s p) 57=true from a7w h2,cond_true]
    exact⟨trivial,rfl,.tup [.int .u64 0,.bool false],[],[],⟨bad hN,rfl⟩,by(exact zC)⟩
   rw [if_neg h2] at hN
   simp only [show xcm .gtr (xrn s p) 57=false from a7e (by omega),cond_false]
   by_cases h3:xar .quo .u64 m 10 < n
   ·rw [if_pos h3] at hN
    simp only [show xcm .gtr n (xar .quo .u64 m 10)=true from a7w h3,cond_true]
    exact⟨trivial,rfl,.tup [.int .u64 0,.bool false],[],[],⟨bad hN,rfl⟩,by(exact zC)⟩
   rw [if_neg h3] at hN
   simp only [show xcm .gtr n (xar .quo .u64 m 10)=false from a7e (by omega),cond_false]
   by_cases h4:xar .sub .u64 m (drD s p) < xar .mul .u64 n 10
   ·rw [if_pos h4] at hN
    simp only [show xcm .gtr (xar .mul .u64 n 10) (xar .sub .u64 m (xwr .u64 (xar .sub .i32 (xrn s p) 48)))=true from a7w h4,cond_true]
    exact⟨trivial,rfl,.tup [.int .u64 0,.bool false],[],[],⟨bad hN,rfl⟩,by(exact zC)⟩
   rw [if_neg h4] at hN
   simp only [show xcm .gtr (xar .mul .u64 n 10) (xar .sub .u64 m (xwr .u64 (xar .sub .i32 (xrn s p) 48)))=false from a7e (Int.not_lt.1 h4),cond_false]
   by_cases h5:m < drD s p
   ·rw [if_pos h5] at hN
    simp only [show xcm .gtr (xwr .u64 (xar .sub .i32 (xrn s p) 48)) m=true from a7w h5,cond_true]
    exact⟨trivial,rfl,.tup [.int .u64 0,.bool false],[],[],⟨bad hN,rfl⟩,by(exact zC)⟩
   rw [if_neg h5] at hN
   simp only [show xcm .gtr (xwr .u64 (xar .sub .i32 (xrn s p) 48)) m=false from a7e (Int.not_lt.1 h5),cond_false]
   exact⟨rfl,⟨(p+xrw s p,_),hw.2,hN⟩,by dsimp only; omega,[.id 0],by(exact zC)⟩
  ·rw [dif_neg h] at hN
   have y0:xle (a0a p 1) (a0z s)=false:=d9k (show s.length < p+1 by omega)
   simp only [y0,cond_false]
   have hM:=hN
   obtain rfl:p=s.length:=by omega
   exact⟨rfl,⟨n,hM⟩,[.id 0],by(exact zC)⟩
 dsimp only at hn ⊢
 refine SSp.last a0j (n:=40) (a0y (Nat.zero_le _)) ?_
 rw [g8h]
 refine⟨trivial,rfl,.tup [.int .u64 n,.bool true],[],[],⟨?_,rfl⟩,by(exact zC)⟩
 simp [drN,drB,← hn]
def drG:Gc:=fun args s=>match args,s.g with
 | [.str x,.int .u64 m],[]=>(match s.lay [] [] [] with
   | some s'=>some ([],.tup [.int .u64 (drN x m),.bool (drB x m)],s')
   | none=>none)
 | _,_=>none
theorem f5d:GOk prog 83 drG:=by
 intro args s bs l s' hg hb hfr
 unfold drG at hg
 split at hg
 ·rename_i x m hgl
  split at hg
  ·rename_i s1 hs1
   simp only [Option.some.injEq,Prod.mk.injEq] at hg
   obtain⟨rfl,rfl,rfl⟩:=hg
   refine a0k.lay (bs:=[]) (args0:=[.str x,.int .u64 m]) (bs':=[]) (v0:=.tup [.int .u64 (drN x m),.bool (drB x m)]) hfr hs1 (by simp)
    trivial (by(exact zTl)) ?_
    fun κ h1 h2=>⟨trivial,a1b rfl⟩
   rw [hgl]; exact(g1l x m)
  ·cases hg
 ·cases hg
end
end Go.Lev
/- text: fields: readValue -/
namespace Go.Lev
set_option linter.unusedSimpArgs false
set_option linter.unusedVariables false
open Go.RowKit
open Go.Proofs.Tryd (prog)
set_option maxRecDepth 100000
noncomputable section
def a6l (k:Int):Int:=if k=1 then 7 else if k=2 then 6 else if k=3 then 15 else if k=4 then 40 else if k=5 then 7 else if k=6 then 12 else 0
theorem g6o (k:Int) (K:Fk):(a4w prog (fun _=>none) 40 64 [.int .i64 k] (mkS []) (vF K))=(
 bif xcm .eql k 1 then(
 K (.int .i64 7) [] [])
 else(
 bif xcm .eql k 2 then(
 K (.int .i64 6) [] [])
 else(
 bif xcm .eql k 3 then(
 K (.int .i64 15) [] [])
 else(
 bif xcm .eql k 4 then(
 K (.int .i64 40) [] [])
 else(
 bif xcm .eql k 5 then(
 K (.int .i64 7) [] [])
 else(
 bif xcm .eql k 6 then(
 K (.int .i64 12) [] [])
 else(
 K (.int .i64 0) [] []))))))):=by kernel_rfl
theorem f3v {x y:Int} {bs:List (Option LB)} (h:y=x):a4f 0 1 [0] [.int .i64 x] bs [] [(0,.int .i64 y)] []:=by subst h; (exact zC)
theorem f8x (k:Int):a0k prog 64 [.int .i64 k] (mkS []) fun l s=>l=.int .i64 (a6l k)∧s=mkS []:=by
 refine a0k.mono (a0k.vc (Q:=fun l b=>l=.int .i64 (a6l k)∧b=[]) a0j (n:=40) 0 rfl ?_) fun l s' ⟨b0,⟨h1,h2⟩,h3⟩=>⟨h1,by rw [h3,h2]⟩
 rw [g6o]
 repeat' (refine g1x (fun _=>?_) (fun _=>?_))
 all_goals (refine⟨rfl,_,[],[],⟨rfl,rfl⟩,f3v ?_⟩; simp_all [a6l,a9o])
def moG:Gc:=fun args s=>match args,s.g with
 | [.int .i64 k],[]=>(match s.lay [] [] [] with
   | some s'=>some ([],.int .i64 (a6l k),s')
   | none=>none)
 | _,_=>none
theorem f3m:GOk prog 64 moG:=by
 intro args s bs l s' hg hb hfr
 unfold moG at hg
 split at hg
 ·rename_i k hgl
  split at hg
  ·rename_i s1 hs1
   simp only [Option.some.injEq,Prod.mk.injEq] at hg
   obtain⟨rfl,rfl,rfl⟩:=hg
   refine a0k.lay (bs:=[]) (args0:=[.int .i64 k]) (bs':=[]) (v0:=.int .i64 (a6l k)) hfr hs1 (by simp)
    trivial (by(exact zTl)) ?_
    fun κ h1 h2=>⟨trivial,a1u⟩
   rw [hgl]; exact(f8x k)
  ·cases hg
 ·cases hg
def g2q:Cx:=cxl [(64,b1a moG),(84,c9n),(83,b1a drG)]
theorem d9q:a3w prog (a2z g2q):=a6i ⟨a4j f3m,c9m,a4j f5d,trivial⟩
theorem g4s (k:Int) (s:List UInt8) (rest:Glb) (K:Fk):(a4w prog g2q 40 77 [.int .i64 k,.str s] (mkS [] (a1x rest)) (vF K))=(
 bif xcm .eql k 1 then(
 bif xcm .eql k 1 then(
 bif xcm .lss (↑(a0z s)) 1 then(
 K (.tup [.int .u64 0,.bool false]) [] (a1x rest))
 else(
 ck (xle 1 (a0z s)) <|
 bif xcm .neq (a1i s 0) 114 then(
 K (.tup [.int .u64 0,.bool false]) [] (a1x rest))
 else(
 ck (xle 1 (a0z s)) <|
 ck (xle (a0z s) (a0z s)) <|
 K (.tup [.int .u64 (drN (a0v s 1 (a0z s)) (xwr .u64 (a6l k))),.bool (drB (a0v s 1 (a0z s)) (xwr .u64 (a6l k)))]) [] (a1x rest))))
 else(
 bif xcm .eql k 6 then(
 K (.tup [.int .u64 (xwr .u64 (whW s)),.bool (whB s)]) [] (a1x rest))
 else(
 bif xcm .eql k 7 then(
 K (.tup [.int .u64 (drN s 18446744073709551615),.bool (drB s 18446744073709551615)]) [] (a1x rest))
 else(
 K (.tup [.int .u64 (drN s (xwr .u64 (a6l k))),.bool (drB s (xwr .u64 (a6l k)))]) [] (a1x rest)))))
 else(
 bif xcm .eql k 2 then(
 bif xcm .lss (↑(a0z s)) 1 then(
 K (.tup [.int .u64 0,.bool false]) [] (a1x rest))
 else(
 ck (xle 1 (a0z s)) <|
 bif xcm .neq (a1i s 0) 114 then(
 K (.tup [.int .u64 0,.bool false]) [] (a1x rest))
 else(
 ck (xle 1 (a0z s)) <|
 ck (xle (a0z s) (a0z s)) <|
 K (.tup [.int .u64 (drN (a0v s 1 (a0z s)) (xwr .u64 (a6l k))),.bool (drB (a0v s 1 (a0z s)) (xwr .u64 (a6l k)))]) [] (a1x rest))))
 else(
 bif xcm .eql k 6 then(
 K (.tup [.int .u64 (xwr .u64 (whW s)),.bool (whB s)]) [] (a1x rest))
 else(
 bif xcm .eql k 7 then(
 K (.tup [.int .u64 (drN s 18446744073709551615),.bool (drB s 18446744073709551615)]) [] (a1x rest))
 else(
 K (.tup [.int .u64 (drN s (xwr .u64 (a6l k))),.bool (drB s (xwr .u64 (a6l k)))]) [] (a1x rest)))))):=by kernel_rfl
def rvV (k:Int) (s:List UInt8):Int×Bool :=
 if k=1∨k=2 then
  if s.length < 1 then(0,false)
  else if a1i s 0≠114 then(0,false)
  else(drN (a0v s 1 s.length) (xwr .u64 (a6l k)),drB (a0v s 1 s.length) (xwr .u64 (a6l k)))
 else if k=6 then(xwr .u64 (whW s),whB s)
 else if k=7 then(drN s 18446744073709551615,drB s 18446744073709551615)
 else(drN s (xwr .u64 (a6l k)),drB s (xwr .u64 (a6l k)))
def rvN (k:Int) (s:List UInt8):Int:=(rvV k s).1
def rvB (k:Int) (s:List UInt8):Bool:=(rvV k s).2
end
end Go.Lev
/- text: marks, labels, fields -/
namespace Go.Lev
set_option linter.unusedSimpArgs false
set_option linter.unusedVariables false
open Go.RowKit
open Go.Proofs.Tryd (prog)
set_option maxRecDepth 100000
noncomputable section
theorem b2n {x y:Int} {p q:Bool} {bs:List (Option LB)} (h:y=x) (h2:q=p):a4f 0 1 [0] [.tup [.int .u64 x,.bool p]] bs [] [(0,.tup [.int .u64 y,.bool q])] []:=by subst h h2; (exact zC)
theorem f7q (k:Int) (s:List UInt8) (rest:Glb):a0k prog 77 [.int .i64 k,.str s] (mkS [] (a1x rest)) fun l st=>l=.tup [.int .u64 (rvN k s),.bool (rvB k s)]∧st=mkS [] (a1x rest):=by
 refine a0k.mono (a0k.vc (Q:=fun l b=>l=.tup [.int .u64 (rvN k s),.bool (rvB k s)]∧b=[]) d9q (n:=40) 0 rfl ?_) fun l s' ⟨b0,⟨h1,h2⟩,h3⟩=>⟨h1,by rw [h3,h2]⟩
 rw [g4s]
 have z2:xle (a0z s) (a0z s)=true:=a1n (Nat.le_refl _)
 by_cases k1:k=1
 ·simp only [show xcm .eql k 1=true from a2i k1,cond_true]
  by_cases h1:s.length < 1
  ·simp only [show xcm .lss ((a0z s:Nat):Int) 1=true from a6j (show((s.length:Nat):Int) < 1 by omega),cond_true]
   refine⟨rfl,_,[],[],⟨rfl,rfl⟩,b2n ?_ ?_⟩ <;> simp [rvN,rvB,rvV,k1,h1]
  simp only [show xcm .lss ((a0z s:Nat):Int) 1=false from a6h (show(1:Int)≤((s.length:Nat):Int) by omega),show xle 1 (a0z s)=true from a1n (show 1≤s.length by omega),z2,cond_true,cond_false]
  by_cases h2:a1i s 0=114
  ·simp only [show xcm .neq (a1i s 0) 114=false from a9b h2,cond_false]
   refine⟨rfl,_,[],[],⟨rfl,rfl⟩,b2n ?_ ?_⟩ <;> simp [rvN,rvB,rvV,k1,h1,h2,a0z]
  ·simp only [show xcm .neq (a1i s 0) 114=true from a8n h2,cond_true]
   refine⟨rfl,_,[],[],⟨rfl,rfl⟩,b2n ?_ ?_⟩ <;> simp [rvN,rvB,rvV,k1,h1,h2]
 simp only [show xcm .eql k 1=false from a2c k1,cond_false]
 by_cases k2:k=2
 ·simp only [show xcm .eql k 2=true from a2i k2,cond_true]
  by_cases h1:s.length < 1
  ·simp only [show xcm .lss ((a0z s:Nat):Int) 1=true from a6j (show((s.length:Nat):Int) < 1 by omega),cond_true]
   refine⟨rfl,_,[],[],⟨rfl,rfl⟩,b2n ?_ ?_⟩ <;> simp [rvN,rvB,rvV,k2,h1]
  simp only [show xcm .lss ((a0z s:Nat):Int) 1=false from a6h (show(1:Int)≤((s.length:Nat):Int) by omega),show xle 1 (a0z s)=true from a1n (show 1≤s.length by omega),z2,cond_true,cond_false]
  by_cases h2:a1i s 0=114
  ·simp only [show xcm .neq (a1i s 0) 114=false from a9b h2,cond_false]
   refine⟨rfl,_,[],[],⟨rfl,rfl⟩,b2n ?_ ?_⟩ <;> simp [rvN,rvB,rvV,k2,h1,h2,a0z]
  ·simp only [show xcm .neq (a1i s 0) 114=true from a8n h2,cond_true]
   refine⟨rfl,_,[],[],⟨rfl,rfl⟩,b2n ?_ ?_⟩ <;> simp [rvN,rvB,rvV,k2,h1,h2]
 simp only [show xcm .eql k 2=false from a2c k2,cond_false]
 by_cases k6:k=6
 ·simp only [show xcm .eql k 6=true from a2i k6,cond_true]
  refine⟨rfl,_,[],[],⟨rfl,rfl⟩,b2n ?_ ?_⟩ <;> simp [rvN,rvB,rvV,k6]
 simp only [show xcm .eql k 6=false from a2c k6,cond_false]
 by_cases k7:k=7
 ·simp only [show xcm .eql k 7=true from a2i k7,cond_true]
  refine⟨rfl,_,[],[],⟨rfl,rfl⟩,b2n ?_ ?_⟩ <;> simp [rvN,rvB,rvV,k7]
 simp only [show xcm .eql k 7=false from a2c k7,cond_false]
 refine⟨rfl,_,[],[],⟨rfl,rfl⟩,b2n ?_ ?_⟩ <;> simp [rvN,rvB,rvV,k1,k2,k6,k7]
def rvG:Gc:=fun args s=>match args,s.g with
 | [.int .i64 k,.str x],(g0,F0)::(g1,F1)::rest=>cond (Nat.beq g0 0 && a2x F0 a2h && (Nat.beq g1 2 && a2x F1 a2n)) (match s.lay [] [] [] with
   | some s'=>some ([],.tup [.int .u64 (rvN k x),.bool (rvB k x)],s')
   | none=>none) none
 | _,_=>none
theorem f2h:GOk prog 77 rvG:=by
 intro args s bs l s' hg hb hfr
 unfold rvG at hg
 split at hg
 ·rename_i k x g0 F0 g1 F1 rest hgl
  cases hc:(Nat.beq g0 0 && a2x F0 a2h && (Nat.beq g1 2 && a2x F1 a2n)) with
  | false=>rw [hc] at hg; cases hg
  | true =>
    rw [hc] at hg
    simp only [cond_true] at hg
    rw [Bool.and_eq_true] at hc
    replace hgl:s.g=a1x rest:=by(have c1:=Bool.and_eq_true_iff.1 hc.1; have c2:=Bool.and_eq_true_iff.1 hc.2; rw [hgl,Nat.eq_of_beq_eq_true c1.1,a1f c1.2,Nat.eq_of_beq_eq_true c2.1,a1f c2.2] <;> rfl)
    split at hg
    ·rename_i s1 hs1
     simp only [Option.some.injEq,Prod.mk.injEq] at hg
     obtain⟨rfl,rfl,rfl⟩:=hg
     refine a0k.lay (bs:=[]) (args0:=[.int .i64 k,.str x]) (bs':=[]) (v0:=.tup [.int .u64 (rvN k x),.bool (rvB k x)]) hfr hs1 (by simp)
      trivial (by(exact zTl)) ?_
      fun κ h1 h2=>⟨trivial,a1b rfl⟩
     rw [hgl]; exact(f7q k x rest)
    ·cases hg
 ·cases hg
structure MkX where
 nm:List UInt8
 pl:Int
 ln:Int
 cl:Int
abbrev mkC (x:MkX):List LV:=[.str x.nm,.int .i64 x.pl,.int .i64 x.ln,.int .i64 x.cl]
structure InX where
 op:Int
 a:Int
 b:Int
 c:Int
 n:Int
abbrev inC (x:InX):List LV:=[.int .i64 x.op,.int .i64 x.a,.int .i64 x.b,.int .i64 x.c,.int .u64 x.n]
theorem b5y (x:MkX):(mkC x).length=4:=rfl
theorem d2d (x:InX):(inC x).length=5:=rfl
theorem f6o (xs:List MkX):(a0f mkC xs).length=xs.length * 4:=a1v b5y xs
theorem f4i (xs:List InX):(a0f inC xs).length=xs.length * 5:=a1v d2d xs
theorem a1l (xs:List MkX):a1q (a0f mkC xs)=true:=a1y (fun _=>rfl) xs
theorem a1z (xs:List InX):a1q (a0f inC xs)=true:=a1y (fun _=>rfl) xs
theorem g2i {xs:List MkX} {i:Nat} (h:i < xs.length):a0b (a0f mkC xs) (i * 4)=.str xs[i].nm:=a2s b5y (j:=0) h (by omega)
theorem g2h {xs:List MkX} {i:Nat} (h:i < xs.length):a0b (a0f mkC xs) (i * 4+1)=.int .i64 xs[i].pl:=a2s b5y (j:=1) h (by omega)
theorem g2g {xs:List MkX} {i:Nat} (h:i < xs.length):a0b (a0f mkC xs) (i * 4+2)=.int .i64 xs[i].ln:=a2s b5y (j:=2) h (by omega)
theorem g2f {xs:List MkX} {i:Nat} (h:i < xs.length):a0b (a0f mkC xs) (i * 4+3)=.int .i64 xs[i].cl:=a2s b5y (j:=3) h (by omega)
theorem d2c (xs:List InX) (op a b c n:Int):a6n (a3o (a0f inC xs) 0 (xs.length * 5)) [.int .i64 op,.int .i64 a,.int .i64 b,.int .i64 c,.int .u64 n]=a0f inC (xs++[⟨op,a,b,c,n⟩]):=by
 rw [a3r (by rw [f4i]; omega),a1r]; rfl
def mkD:List LV→List MkX
 | .str a::.int _ b::.int _ c::.int _ d::r=>⟨a,b,c,d⟩::mkD r
 | _=>[]
theorem a5q:∀ xs,mkD (a0f mkC xs)=xs
 | []=>rfl
 | x::r=>by simp [a0f,mkC,mkD,a5q r]
def inD:List LV→List InX
 | .int _ a::.int _ b::.int _ c::.int _ d::.int _ e::r=>⟨a,b,c,d,e⟩::inD r
 | _=>[]
theorem a9a:∀ xs,inD (a0f inC xs)=xs
 | []=>rfl
 | x::r=>by simp [a0f,inC,inD,a9a r]
def a5h (n:Nat) (c:List LV):Bool:=@decide (∃ L,c=a0f mkC L∧L.length=n∧n≤100000) (Classical.propDecidable _)
def b1f (n:Nat) (c:List LV):Bool:=@decide (∃ L,c=a0f inC L∧L.length=n∧n≤100000) (Classical.propDecidable _)
theorem a4y {n:Nat} {c:List LV}:a5h n c=true↔∃ L,c=a0f mkC L∧L.length=n∧n≤100000:=by simp only [a5h,decide_eq_true_eq]
theorem b0e {n:Nat} {c:List LV}:b1f n c=true↔∃ L,c=a0f inC L∧L.length=n∧n≤100000:=by simp only [b1f,decide_eq_true_eq]
theorem a3u {n:Nat} {c:List LV} (h:a5h n c=true):a1q c=true:=by obtain⟨L,rfl,_⟩:=a4y.1 h; exact a1l L
theorem a8r {n:Nat} {c:List LV} (h:b1f n c=true):a1q c=true:=by obtain⟨L,rfl,_⟩:=b0e.1 h; exact a1z L
def b0v (L:List MkX) (s:List UInt8):Option Int:=match L with
 | []=>none
 | x::r=>if x.nm == s then some x.pl else b0v r s
def d9g (bx:List LV) (s:List UInt8):Int:=(b0v (mkD bx) s).getD 0
def d2m (bx:List LV) (s:List UInt8):Bool:=(b0v (mkD bx) s).isSome
abbrev psH (ni nl nj:Nat) (ln:Int) (ax bx cx:List LV):List LB:=[.cells [.slo 1 0 ni 0,.slo 2 0 nl 0,.slo 3 0 nj 0,.int .i64 ln] none,.cells ax (some 5),.cells bx (some 4),.cells cx (some 4)]
abbrev f6q:List Nat:=[1,4,5,11,12,13]
abbrev f4m (s:List UInt8) (nl i:Nat):List (Nat×LV):=[(1,.str s),(4,.int .i64 0),(5,.bool false),(11,.slo 2 0 nl 0),(12,.int .i64 nl),(13,.int .i64 i)]
theorem f9w (s:List UInt8) (ni nl nj:Nat) (ln:Int) (ax bx cx:List LV) (g:Glb) (K:Pk):(xsp prog (fun _=>none) 40 24 (seg (sp prog 62) 0 2) (tm0 [.ptr 0 0,.str s]) (mkS (psH ni nl nj ln ax bx cx) g) (vK f6q K))=(
 K .normal [.str s,.int .i64 0,.bool false,.slo 2 0 nl 0,.int .i64 ↑nl,.int .i64 0] [sN [.slo 1 0 ni 0,.slo 2 0 nl 0,.slo 3 0 nj 0,.int .i64 ln],sC ax 5,sC bx 4,sC cx 4] g):=by kernel_rfl
abbrev b9h (ni:Nat) (nl:Nat) (nj:Nat) (i:Nat) (ln:Int) (ax:List LV) (bx:List LV) (cx:List LV):List (Option LB):=[sN [.slo 1 0 ni 0,.slo 2 0 nl 0,.slo 3 0 nj 0,.int .i64 ln],sC ax 5,sC bx 4,sC cx 4,sN [.str (asS (a0b bx (xix 0 (a0c ↑i) 4))),.int .i64 (asI (a0b bx (a0a (xix 0 (a0c ↑i) 4) 1))),.int .i64 (asI (a0b bx (a0a (a0a (xix 0 (a0c ↑i) 4) 1) 1))),.int .i64 (asI (a0b bx (a0a (a0a (a0a (xix 0 (a0c ↑i) 4) 1) 1) 1)))]]
theorem f9u (s:List UInt8) (ni nl nj i:Nat) (ln:Int) (ax bx cx:List LV) (g:Glb) (K:Pk):(a1h prog (fun _=>none) 40 24 (a1w (a4i (sp prog 62) 2)) (a1p 24 (f4m s nl i)) (mkS (psH ni nl nj ln ax bx cx) g) (vK f6q K))=(
 bif xcm .lss ↑i ↑nl then(
 ck (xle (a0a (a0c ↑i) 1) nl) <|
 ck (xle (a0a (xix 0 (a0c ↑i) 4) 4) (xln bx)) <|
 ck (isS (a0b bx (xix 0 (a0c ↑i) 4))) <|
 ck (isI .i64 (a0b bx (a0a (xix 0 (a0c ↑i) 4) 1))) <|
 ck (isI .i64 (a0b bx (a0a (a0a (xix 0 (a0c ↑i) 4) 1) 1))) <|
 ck (isI .i64 (a0b bx (a0a (a0a (a0a (xix 0 (a0c ↑i) 4) 1) 1) 1))) <|
 bif a3h .eql (asS (a0b bx (xix 0 (a0c ↑i) 4))) s then(
 K .ret [.str s,.int .i64 (asI (a0b bx (a0a (xix 0 (a0c ↑i) 4) 1))),.bool true,.slo 2 0 nl 0,.int .i64 ↑nl,.int .i64 ↑i] (b9h ni nl nj i ln ax bx cx) g)
 else(
 K .normal [.str s,.int .i64 0,.bool false,.slo 2 0 nl 0,.int .i64 ↑nl,.int .i64 (xar .add .i64 (↑i) 1)] (b9h ni nl nj i ln ax bx cx) g))
 else(
 K (.exit 0) [.str s,.int .i64 0,.bool false,.slo 2 0 nl 0,.int .i64 ↑nl,.int .i64 ↑i] [sN [.slo 1 0 ni 0,.slo 2 0 nl 0,.slo 3 0 nj 0,.int .i64 ln],sC ax 5,sC bx 4,sC cx 4] g)):=by kernel_rfl
theorem f9t (s:List UInt8) (ni nl nj i:Nat) (ln:Int) (ax bx cx:List LV) (g:Glb) (K:Pk):(xsp prog (fun _=>none) 40 24 ((sp prog 62).drop 3) (a1p 24 (f4m s nl i)) (mkS (psH ni nl nj ln ax bx cx) g) (vK f6q K))=(
 K .ret [.str s,.int .i64 0,.bool false,.slo 2 0 nl 0,.int .i64 ↑nl,.int .i64 ↑i] [sN [.slo 1 0 ni 0,.slo 2 0 nl 0,.slo 3 0 nj 0,.int .i64 ln],sC ax 5,sC bx 4,sC cx 4] g):=by kernel_rfl
end
end Go.Lev
/- text: find; trees of readLabel, readField -/
namespace Go.Lev
set_option linter.unusedSimpArgs false
set_option linter.unusedVariables false
open Go.RowKit
open Go.Proofs.Tryd (prog)
set_option maxRecDepth 100000
noncomputable section
theorem d2l {L:List MkX} {s:List UInt8} {i:Nat} (h:i < L.length):b0v (L.drop i) s=if L[i].nm == s then some L[i].pl else b0v (L.drop (i+1)) s:=by
 rw [List.drop_eq_getElem_cons h]; rfl
theorem f4l (s:List UInt8) (L:List MkX) (ni nj:Nat) (ln:Int) (ax cx:List LV) (g:Glb) (hL:L.length≤100000) (na:a1q ax=true) (nc:a1q cx=true) :
  a0k prog 62 [.ptr 0 0,.str s] (mkS (psH ni L.length nj ln ax (a0f mkC L) cx) g) fun l st=>l=.tup [.int .i64 ((b0v L s).getD 0),.bool (b0v L s).isSome]∧st=mkS (psH ni L.length nj ln ax (a0f mkC L) cx) g:=by
 refine a0k.mono (a0k.g9n (Q:=fun l b=>l=.tup [.int .i64 ((b0v L s).getD 0),.bool (b0v L s).isSome]∧b=psH ni L.length nj ln ax (a0f mkC L) cx) 24 4 f6q [4,5] (by kernel_rfl) rfl rfl rfl ?_) fun l s' ⟨b0,⟨h1,h2⟩,h3⟩=>⟨h1,by rw [h3,h2]⟩
 have nm:=a1l L; have lm:=f6o L
 have g0:=fun {i:Nat} (h:i < L.length)=>g2i h
 have g1:=fun {i:Nat} (h:i < L.length)=>g2h h
 have g2:=fun {i:Nat} (h:i < L.length)=>g2g h
 have g3:=fun {i:Nat} (h:i < L.length)=>g2f h
 generalize a0f mkC L=bx at *
 refine SSp.to a0j (n:=40) (g:=g) 2 2 rfl (σ:=Unit) (fun _=>f4m s L.length 0) (fun _=>psH ni L.length nj ln ax bx cx) (a0y (Nat.le_of_ble_eq_true rfl)) (by kernel_rfl) ?_ fun _=>?_
 ·rw [f9w]; exact⟨rfl,(),[.id 0,.id 1,.id 2,.id 3],by(exact zC)⟩
 refine SSp.code_to (g:=g) 3 rfl (σ:={_u:Unit // b0v L s=none}) (fun _=>f4m s L.length L.length) (fun _=>psH ni L.length nj ln ax bx cx) (by kernel_rfl) ?_ fun⟨_,hN⟩=>?_
 ·refine a0p.g9s a0j (n:=40) (n0:=4) 0 (by kernel_rfl) (σ:={i:Nat // i≤L.length∧b0v (L.drop i) s=b0v L s}) (fun i=>f4m s L.length i.1) (fun _=>psH ni L.length nj ln ax bx cx) (fun i=>L.length - i.1) (fun _=>Nat.le_of_ble_eq_true rfl) (fun⟨i,hi,hN⟩=>?_) ⟨0,Nat.zero_le _,rfl⟩
  dsimp only at hi hN ⊢
  rw [f9u]; simp only [b9h]
  by_cases h:i < L.length
  ·have wS:∀ x,asS (.str x)=x:=fun _=>rfl
   have wB:∀ x,isS (.str x)=true:=fun _=>rfl
   have v0:=g0 h; have v1:=g1 h; have v2:=g2 h; have v3:=g3 h
   have hM:=hN
   rw [d2l h] at hM
   have x0:xle (i+1) L.length=true:=a1n (by omega)
   have x1:xle (i * 4+4) (L.length * 4)=true:=a1n (by omega)
   have e3:xar .add .i64 (i:Int) 1=((i+1:Nat):Int):=a7t h (by omega)
   have q1:i * 4+1+1=i * 4+2:=by omega
   have q2:i * 4+2+1=i * 4+3:=by omega
   simp only [show xcm .lss ((i:Nat):Int) ((L.length:Nat):Int)=true from a6j (by omega),a2w,a5j,a1o,a2g,a3e,Nat.zero_add,lm,q1,q2,x0,x1,v0,v1,v2,v3,e3,a2q,a3d,wS,wB,decide_true,cond_true]
   cases hb:L[i].nm == s with
   | true =>
     rw [hb,if_pos rfl] at hM
     simp only [show a3h .eql L[i].nm s=true from hb,cond_true]
     exact⟨trivial,rfl,.tup [.int .i64 L[i].pl,.bool true],_,[.id 0,.id 1,.id 2,.id 3],⟨by rw [← hM]; rfl,rfl⟩,by(exact zC)⟩
   | false =>
     rw [hb,if_neg (by simp)] at hM
     simp only [show a3h .eql L[i].nm s=false from hb,cond_false]
     exact⟨rfl,⟨i+1,by omega,hM⟩,by dsimp only; omega,[.id 0,.id 1,.id 2,.id 3],by(exact zC)⟩
  ·simp only [show xcm .lss ((i:Nat):Int) ((L.length:Nat):Int)=false from a6h (by omega),cond_false]
   have ei:i=L.length:=by omega
   have hM:=hN
   rw [ei,List.drop_length] at hM
   subst ei
   exact⟨rfl,⟨(),hM.symm⟩,[.id 0,.id 1,.id 2,.id 3],by(exact zC)⟩
 refine SSp.last a0j (n:=40) (a0y (Nat.le_of_ble_eq_true rfl)) ?_
 rw [f9t]
 exact⟨trivial,rfl,.tup [.int .i64 0,.bool false],_,[.id 0,.id 1,.id 2,.id 3],⟨by rw [hN]; rfl,rfl⟩,by(exact zC)⟩
theorem f9v (x:List UInt8) (ni nl nj:Nat) (ln:Int) (ax bx cx:List LV) (g:Glb) (k1:b1f ni ax=true) (k2:a5h nl bx=true) (k3:a5h nj cx=true) :
  a0k prog 62 [.ptr 0 0,.str x] (mkS (psH ni nl nj ln ax bx cx) g) fun l st=>l=.tup [.int .i64 (d9g bx x),.bool (d2m bx x)]∧st=mkS (psH ni nl nj ln ax bx cx) g:=by
 obtain⟨L,rfl,rfl,hL⟩:=a4y.1 k2
 rw [d9g,d2m,a5q]
 exact f4l x L ni nj ln ax cx g hL (a8r k1) (a3u k3)
def d4t:Gc:=fun args s=>match args,s.g with
 | [.ptr p 0,.str x],(g0,F0)::(g1,F1)::rest=>cond (Nat.beq g0 0 && a2x F0 a2h && (Nat.beq g1 2 && a2x F1 a2n)) (match s.h.get p with
   | some (.cells [.slo a 0 ni 0,.slo b 0 nl 0,.slo c 0 nj 0,.int .i64 ln] none)=>(match s.h.get a with
     | some (.cells ax (some 5))=>(match s.h.get b with
       | some (.cells bx (some 4))=>(match s.h.get c with
         | some (.cells cx (some 4))=>cond (a3q [p,a,b,c]) (match s.lay [p,a,b,c] [.cells [.slo a 0 ni 0,.slo b 0 nl 0,.slo c 0 nj 0,.int .i64 ln] none,.cells ax (some 5),.cells bx (some 4),.cells cx (some 4)] [] with
           | some s'=>some ([b1f ni ax,a5h nl bx,a5h nj cx],.tup [.int .i64 (d9g bx x),.bool (d2m bx x)],s')
           | none=>none) none
         | _=>none)
       | _=>none)
     | _=>none)
   | _=>none) none
 | _,_=>none
theorem c6n:GOk prog 62 d4t:=by
 intro args s bs l s' hg hb hfr
 unfold d4t at hg
 split at hg
 ·rename_i p x g0 F0 g1 F1 rest hgl
  cases hc:(Nat.beq g0 0 && a2x F0 a2h && (Nat.beq g1 2 && a2x F1 a2n)) with
  | false=>rw [hc] at hg; cases hg
  | true =>
    rw [hc] at hg
    simp only [cond_true] at hg
    rw [Bool.and_eq_true] at hc
    replace hgl:s.g=a1x rest:=by(have c1:=Bool.and_eq_true_iff.1 hc.1; have c2:=Bool.and_eq_true_iff.1 hc.2; rw [hgl,Nat.eq_of_beq_eq_true c1.1,a1f c1.2,Nat.eq_of_beq_eq_true c2.1,a1f c2.2] <;> rfl)
    split at hg
    ·rename_i a ni b nl c nj ln hb0
     split at hg
     ·rename_i ax hb1
      split at hg
      ·rename_i bx hb2
       split at hg
       ·rename_i cx hb3
        cases hbc:a3q [p,a,b,c] with
        | false=>rw [hbc] at hg; cases hg
        | true =>
          rw [hbc] at hg
          simp only [cond_true] at hg
          split at hg
          ·rename_i s1 hs1
           simp only [Option.some.injEq,Prod.mk.injEq] at hg
           obtain⟨rfl,rfl,rfl⟩:=hg
           simp only [a0g] at hb
           obtain⟨k1,k2,k3,_⟩:=hb
           have n1:=a8r k1; have n2:=a3u k2; have n3:=a3u k3
           refine a0k.lay (bs:=[.cells [.slo 1 0 ni 0,.slo 2 0 nl 0,.slo 3 0 nj 0,.int .i64 ln] none,.cells ax (some 5),.cells bx (some 4),.cells cx (some 4)]) (args0:=[.ptr 0 0,.str x]) (bs':=[.cells [.slo 1 0 ni 0,.slo 2 0 nl 0,.slo 3 0 nj 0,.int .i64 ln] none,.cells ax (some 5),.cells bx (some 4),.cells cx (some 4)]) (v0:=.tup [.int .i64 (d9g bx x),.bool (d2m bx x)]) hfr hs1 (a4t hbc)
            ⟨⟨a3j hfr hb0,_,hb0,by first | exact a0e rfl | exact a0o (a0d (a0n rfl) (a0d (a0n rfl) (a0d (a0n rfl) (a0d (a1u) a0u)))) (by simp),fun κ hκ=>a0o (a0d (a0n (hκ 1 a rfl)) (a0d (a0n (hκ 2 b rfl)) (a0d (a0n (hκ 3 c rfl)) (a0d (a1u) a0u)))) (by simp)⟩,⟨a3j hfr hb1,_,hb1,a0e (by(exact zId)),fun κ hκ=>a0e (by(exact zId))⟩,⟨a3j hfr hb2,_,hb2,a0e (by(exact zId)),fun κ hκ=>a0e (by(exact zId))⟩,⟨a3j hfr hb3,_,hb3,a0e (by(exact zId)),fun κ hκ=>a0e (by(exact zId))⟩,trivial⟩ (by(exact zTl)) ?_
            fun κ h1 h2=>⟨⟨a0o (a0d (a0n (h1 1 a rfl)) (a0d (a0n (h1 2 b rfl)) (a0d (a0n (h1 3 c rfl)) (a0d (a1u) a0u)))) (by simp),a0e (by(exact zId)),a0e (by(exact zId)),a0e (by(exact zId)),trivial⟩,a1b rfl⟩
           rw [hgl]; exact(f9v x ni nl nj ln ax bx cx (a1x rest) k1 k2 k3)
          ·cases hg
       ·cases hg
      ·cases hg
     ·cases hg
    ·cases hg
 ·cases hg
def g2s:Cx:=cxl [(69,b1a nmG),(62,d4t)]
def g2t:Cx:=cxl [(69,b1a nmG),(77,rvG)]
theorem d9s:a3w prog (a2z g2s):=a6i ⟨a4j d6g,c6n,trivial⟩
theorem d9t:a3w prog (a2z g2t):=a6i ⟨a4j d6g,f2h,trivial⟩
abbrev d0j (s:List UInt8) (w:Int) (ni:Nat) (nl:Nat) (nj:Nat) (ln:Int) (ax:List LV) (bx:List LV) (cx:List LV):List (Option LB):=[sN [.slo 1 0 ni 0,.slo 2 0 nl 0,.slo 3 0 nj 0,.int .i64 ln],sC ax 5,sC bx 4,sC cx 4,sN [.str s,.int .i64 w]]
theorem g5i (s:List UInt8) (w:Int) (ni nl nj:Nat) (ln:Int) (ax bx cx:List LV) (rest:Glb) (K:Fk):(a4w prog g2s 40 59 [.ptr 0 0,.agg [.str s,.int .i64 w]] (mkS (psH ni nl nj ln ax bx cx) (a1x rest)) (vF K))=(
 ck (xnn (xar .sub .i64 (↑(a0z s)) 1)) <|
 ck (xle (a0c (xar .sub .i64 (↑(a0z s)) 1)) (a0z s)) <|
 ck (xle (a0z (a0v s 0 (a0c (xar .sub .i64 (↑(a0z s)) 1)))) 1000000000) <|
 bif a3i (a9l (a0v s 0 (a0c (xar .sub .i64 (↑(a0z s)) 1)))) then(
 K (.bool false) (d0j s w ni nl nj ln ax bx cx) (a1x rest))
 else(
 ck (b1f ni ax) <|
 ck (a5h nl bx) <|
 ck (a5h nj cx) <|
 bif d2m bx (a0v s 0 (a0c (xar .sub .i64 (↑(a0z s)) 1))) then(
 K (.bool false) (d0j s w ni nl nj ln ax bx cx) (a1x rest))
 else(
 ck (xle (a0a nl 1) 1000000) <|
 ck (xle (a0a 0 (a1t nl 4)) (xln bx)) <|
 ck (xeq nl nl) <|
 ck (xeq nl nl) <|
 K (.bool true) [sN [.slo 1 0 ni 0,.slo 6 0 (a0a nl 1) 0,.slo 3 0 nj 0,.int .i64 ln],sC ax 5,sD,sC cx 4,sN [.str s,.int .i64 w],sN [.str (a0v s 0 (a0c (xar .sub .i64 (↑(a0z s)) 1))),.int .i64 ↑ni,.int .i64 0,.int .i64 0],sC (a6n (a3o bx 0 (a1t nl 4)) [.str (a0v s 0 (a0c (xar .sub .i64 (↑(a0z s)) 1))),.int .i64 ↑ni,.int .i64 0,.int .i64 0]) 4] (a1x rest)))):=by kernel_rfl
theorem g5n (s:List UInt8) (w i k:Int) (op a b c n:Int) (ni nl nj:Nat) (ln:Int) (ax bx cx:List LV) (rest:Glb) (K:Fk):(a4w prog g2t 40 71 [.ptr 0 0,.ptr 4 0,.int .i64 i,.int .i64 k,.agg [.str s,.int .i64 w]] (mkS (psH ni nl nj ln ax bx cx++[.cells [.int .i64 op,.int .i64 a,.int .i64 b,.int .i64 c,.int .u64 n] none]) (a1x rest)) (vF K))=(
 bif xcm .eql k 4 then(
 ck (xle (a0a nj 1) 1000000) <|
 ck (xle (a0a 0 (a1t nj 4)) (xln cx)) <|
 ck (xeq nj nj) <|
 ck (xeq nj nj) <|
 ck (xle (a0z s) 1000000000) <|
 K (.bool (a9l s)) [sN [.slo 1 0 ni 0,.slo 2 0 nl 0,.slo 7 0 (a0a nj 1) 0,.int .i64 ln],sC ax 5,sC bx 4,sD,sN [.int .i64 op,.int .i64 a,.int .i64 b,.int .i64 c,.int .u64 n],sN [.str s,.int .i64 w],sN [.str s,.int .i64 ↑ni,.int .i64 ln,.int .i64 w],sC (a6n (a3o cx 0 (a1t nj 4)) [.str s,.int .i64 ↑ni,.int .i64 ln,.int .i64 w]) 4] (a1x rest))
 else(
 bif xcm .eql i 0 then(
 K (.bool (rvB k s)) [sN [.slo 1 0 ni 0,.slo 2 0 nl 0,.slo 3 0 nj 0,.int .i64 ln],sC ax 5,sC bx 4,sC cx 4,sN [.int .i64 op,.int .i64 (xwr .i64 (rvN k s)),.int .i64 b,.int .i64 c,.int .u64 n],sN [.str s,.int .i64 w]] (a1x rest))
 else(
 bif xcm .eql i 1 then(
 K (.bool (rvB k s)) [sN [.slo 1 0 ni 0,.slo 2 0 nl 0,.slo 3 0 nj 0,.int .i64 ln],sC ax 5,sC bx 4,sC cx 4,sN [.int .i64 op,.int .i64 a,.int .i64 (xwr .i64 (rvN k s)),.int .i64 c,.int .u64 n],sN [.str s,.int .i64 w]] (a1x rest))
 else(
 bif xcm .eql i 2 then(
 K (.bool (rvB k s)) [sN [.slo 1 0 ni 0,.slo 2 0 nl 0,.slo 3 0 nj 0,.int .i64 ln],sC ax 5,sC bx 4,sC cx 4,sN [.int .i64 op,.int .i64 a,.int .i64 b,.int .i64 (xwr .i64 (rvN k s)),.int .u64 n],sN [.str s,.int .i64 w]] (a1x rest))
 else(
 K (.bool (rvB k s)) [sN [.slo 1 0 ni 0,.slo 2 0 nl 0,.slo 3 0 nj 0,.int .i64 ln],sC ax 5,sC bx 4,sC cx 4,sN [.int .i64 op,.int .i64 a,.int .i64 b,.int .i64 c,.int .u64 (rvN k s)],sN [.str s,.int .i64 w]] (a1x rest)))))):=by kernel_rfl
end
end Go.Lev
