import Derived.Test.YtnkkkihgljbllaaDoorCQ9
import Derived.Test.YtnkkkihgljbllaaDoorLc
import Derived.Test.YtnkkkihgljbllaaDoorChecked
import Derived.KernelRfl
/- rows of numbers; the inmost one -/
namespace Go.Lev
set_option linter.unusedSimpArgs false
set_option linter.unusedVariables false
open Go.RowKit
open Go.Proofs.Tryd (prog)
set_option maxRecDepth 100000
noncomputable section
theorem encIi64_len (xs:List Int):(encL (cI .i64) xs).length=xs.length:=by rw [encL_length (cI_len .i64)]; omega
theorem encIi64_nth {xs:List Int} {i:Nat} (h:i < xs.length):nthD (encL (cI .i64) xs) i=.int .i64 xs[i]:=by
 have:=encL_nth (cI_len .i64) (j:=0) h (by omega)
 simp only [Nat.mul_one,Nat.add_zero] at this
 exact this
theorem noIds_Ii64 (xs:List Int):noIds (encL (cI .i64) xs)=true:=noIds_encL (fun _=>rfl) xs
def inm (o:List Int):Int:=match o.getLast? with | none => -1 | some x=>x
theorem inm_snoc (o:List Int) (x:Int):inm (o++[x])=x:=by simp [inm]
end
end Go.Lev
/- the draws of programs: a simple instruction -/
namespace Go.Lev
set_option linter.unusedSimpArgs false
set_option linter.unusedVariables false
open Go.RowKit
open Go.Proofs.Tryd (prog)
set_option maxRecDepth 100000
noncomputable section
theorem within_x (a lo hi:Int) (K:Fk):(xfun prog (fun _=>none) 40 19 [.int .i64 a,.int .i64 lo,.int .i64 hi] (mkS []) (vF K))=(
 ck (xcm .neq (xar .add .i64 (xar .sub .i64 hi lo) 1) 0) <|
 bif xcm .lss (xar .rem .i64 a (xar .add .i64 (xar .sub .i64 hi lo) 1)) 0 then(
 K (.int .i64 (xar .add .i64 lo (xar .add .i64 (xar .sub .i64 (xar .add .i64 (xar .rem .i64 a (xar .add .i64 (xar .sub .i64 hi lo) 1)) hi) lo) 1))) [] [])
 else(
 K (.int .i64 (xar .add .i64 lo (xar .rem .i64 a (xar .add .i64 (xar .sub .i64 hi lo) 1)))) [] [])):=by kernel_rfl
def wthV (a lo hi:Int):Int:=lo+a % (hi - lo+1)
def withinG:Gc:=fun args s=>match args,s.g with
 | [.int .i64 a,.int .i64 lo,.int .i64 hi],[]=>some ([xcm .leq lo hi,xcm .leq (-1000000) lo,xcm .leq hi 1000000],.int .i64 (wthV a lo hi),s)
 | _,_=>none
theorem tmod_pos (a m:Int) (hm:0 < m) : -m < a.tmod m∧a.tmod m < m∧(a.tmod m=a % m∨(a.tmod m < 0∧a.tmod m+m=a % m)):=by
 have hb:=Int.emod_nonneg a (b:=m) (by omega)
 have hc:=Int.emod_lt_of_pos a hm
 rcases Int.lt_or_le a 0 with h | h
 ·have e:a.tmod m = -((-a).tmod m):=by have:=Int.neg_tmod (-a) m; rw [Int.neg_neg] at this; exact this
  have h6:0≤(-a).tmod m:=Int.tmod_nonneg _ (by omega)
  have h7:(-a).tmod m < m:=Int.tmod_lt_of_pos _ hm
  refine⟨by omega,by omega,?_⟩
  have h8:m ∣ a - a.tmod m:=Int.dvd_self_sub_tmod
  have h9:m ∣ a - a % m:=Int.dvd_self_sub_emod
  obtain⟨u,hu⟩:=h8
  obtain⟨v,hv⟩:=h9
  have hd:a % m - a.tmod m=m * (u - v):=by rw [Int.mul_sub]; omega
  by_cases h0:u - v ≤ -1
  ·have:m * (u - v)≤m * (-1):=Int.mul_le_mul_of_nonneg_left h0 (by omega)
   omega
  ·by_cases h1:u - v=0
   ·rw [h1] at hd; simp at hd; exact .inl (by omega)
   ·by_cases h2:u - v=1
    ·rw [h2] at hd; simp at hd; exact .inr ⟨by omega,by omega⟩
    ·have:m * 2≤m * (u - v):=Int.mul_le_mul_of_nonneg_left (by omega) (by omega)
     omega
 ·have h6:=Int.tmod_nonneg m h
  exact⟨by omega,Int.tmod_lt_of_pos _ hm,.inl (Int.tmod_eq_emod_of_nonneg h)⟩
theorem wthV_in {a lo hi:Int} (h:lo≤hi):lo≤wthV a lo hi∧wthV a lo hi≤hi:=by
 simp only [wthV]
 have hb:=Int.emod_nonneg a (b:=hi - lo+1) (by omega)
 have hc:=Int.emod_lt_of_pos a (b:=hi - lo+1) (by omega)
 omega
theorem within_ok (a lo hi:Int) (h:lo≤hi) (h1 : -1000000≤lo) (h2:hi≤1000000):SFun prog 19 [.int .i64 a,.int .i64 lo,.int .i64 hi] (mkS []) fun l s=>l=.int .i64 (wthV a lo hi)∧s=mkS []:=by
 refine SFun.mono (SFun.vc (Q:=fun l b=>l=.int .i64 (wthV a lo hi)∧b=[]) noCx_ok (n:=40) 0 rfl ?_) fun l s' ⟨b0,⟨h1,h2⟩,h3⟩=>⟨h1,by rw [h3,h2]⟩
 have hq:=Int.emod_nonneg a (b:=hi - lo+1) (by omega)
 have e1:xar .sub .i64 hi lo=hi - lo:=sub_i64 (by omega) (by omega)
 have e2:xar .add .i64 (hi - lo) 1=hi - lo+1:=add_i64 (by omega) (by omega)
 have e3:xar .rem .i64 a (hi - lo+1)=a.tmod (hi - lo+1):=xar_rem _ _ _ (by omega)
 obtain⟨t1,t2,t3⟩:=tmod_pos a (hi - lo+1) (by omega)
 rw [within_x,e1,e2,e3]
 refine must (t_neq (by omega)) ?_
 rw [xcm_lss]
 refine ite_way (fun hn=>?_) (fun hn=>?_)
 ·have e:xar .add .i64 lo (xar .add .i64 (xar .sub .i64 (xar .add .i64 (a.tmod (hi - lo+1)) hi) lo) 1)=wthV a lo hi:=by
   simp only [wthV]
   rw [add_i64 (x:=a.tmod (hi - lo+1)) (by omega) (by omega),sub_i64 (by omega) (by omega),add_i64 (x:=a.tmod (hi - lo+1)+hi - lo) (by omega) (by omega),add_i64 (by omega) (by omega)]
   omega
  rw [e]
  exact⟨rfl,_,[],[],⟨rfl,rfl⟩,by(exact zC)⟩
 ·have e:xar .add .i64 lo (a.tmod (hi - lo+1))=wthV a lo hi:=by
   simp only [wthV]
   rw [add_i64 (by omega) (by omega)]; omega
  rw [e]
  exact⟨rfl,_,[],[],⟨rfl,rfl⟩,by(exact zC)⟩
theorem withinG_ok:GOk prog 19 withinG:=by
 intro args s bs l s' hg hb hfr
 unfold withinG at hg
 split at hg
 ·rename_i a lo hi hgl
  simp only [Option.some.injEq,Prod.mk.injEq] at hg
  obtain⟨rfl,rfl,rfl⟩:=hg
  obtain⟨k1,hb⟩:=allT_cons.1 hb
  obtain⟨k2,hb⟩:=allT_cons.1 hb
  have k3:=(allT_cons.1 hb).1
  rw [xcm_leq,decide_eq_true_eq] at k1 k2 k3
  exact SFun.pure hfr hgl rfl rfl (within_ok a lo hi k1 k2 k3)
 ·cases hg
def cxS1:Cx:=cxl [(19,withinG)]
theorem cxS1_ok:CtrOk prog (ctrOf cxS1):=cxl_ok ⟨withinG_ok,trivial⟩
theorem reg_t (n:Int) (K:Fk):(xfun prog cxS1 40 21 [.int .i64 n] (mkS []) (vF K))=(
 K (.int .i64 (wthV n 0 6)) [] []):=by kernel_rfl
abbrev smp_t_b1 (w:Int) (a:Int) (b:Int) (c:Int) (n:Int):List (Option LB):=[sN [.int .i64 w,.int .i64 a,.int .i64 b,.int .i64 c,.int .u64 n],sN [.int .i64 8,.int .i64 (wthV a 0 6),.int .i64 7,.int .i64 (wthV c 6 15),.int .u64 0]]
abbrev smp_t_b2 (w:Int) (a:Int) (b:Int) (c:Int) (n:Int):List (Option LB):=[sN [.int .i64 w,.int .i64 a,.int .i64 b,.int .i64 c,.int .u64 n],sN [.int .i64 10,.int .i64 (wthV a 0 6),.int .i64 (wthV b 0 6),.int .i64 0,.int .u64 0]]
abbrev smp_t_b3 (w:Int) (a:Int) (b:Int) (c:Int) (n:Int):List (Option LB):=[sN [.int .i64 w,.int .i64 a,.int .i64 b,.int .i64 c,.int .u64 n],sN [.int .i64 11,.int .i64 (wthV a 0 6),.int .i64 0,.int .i64 0,.int .u64 0]]
abbrev smp_t_b4 (w:Int) (a:Int) (b:Int) (c:Int) (n:Int):List (Option LB):=[sN [.int .i64 w,.int .i64 a,.int .i64 b,.int .i64 c,.int .u64 n],sN [.int .i64 21,.int .i64 (wthV a 0 6),.int .i64 0,.int .i64 0,.int .u64 0]]
abbrev smp_t_b5 (w:Int) (a:Int) (b:Int) (c:Int) (n:Int):List (Option LB):=[sN [.int .i64 w,.int .i64 a,.int .i64 b,.int .i64 c,.int .u64 n],sN [.int .i64 8,.int .i64 (wthV a 0 6),.int .i64 (wthV b 0 6),.int .i64 (wthV c 0 3),.int .u64 0]]
abbrev smp_t_b6 (w:Int) (a:Int) (b:Int) (c:Int) (n:Int):List (Option LB):=[sN [.int .i64 w,.int .i64 a,.int .i64 b,.int .i64 c,.int .u64 n],sN [.int .i64 9,.int .i64 (wthV a 0 6),.int .i64 (wthV b 0 6),.int .i64 (wthV c 0 3),.int .u64 0]]
abbrev smp_t_b7 (w:Int) (a:Int) (b:Int) (c:Int) (n:Int):List (Option LB):=[sN [.int .i64 w,.int .i64 a,.int .i64 b,.int .i64 c,.int .u64 n],sN [.int .i64 9,.int .i64 7,.int .i64 (wthV b 0 6),.int .i64 (wthV c 6 15),.int .u64 0]]
abbrev smp_t_b8 (w:Int) (a:Int) (b:Int) (c:Int) (n:Int):List (Option LB):=[sN [.int .i64 w,.int .i64 a,.int .i64 b,.int .i64 c,.int .u64 n],sN [.int .i64 (xar .add .i64 3 (wthV (xwr .i64 (xar .rem .u64 n 64)) 0 4)),.int .i64 (wthV a 0 6),.int .i64 (wthV b 0 6),.int .i64 (wthV c 0 6),.int .u64 0]]
abbrev smp_t_b9 (w:Int) (a:Int) (b:Int) (c:Int) (n:Int):List (Option LB):=[sN [.int .i64 w,.int .i64 a,.int .i64 b,.int .i64 c,.int .u64 n],sN [.int .i64 1,.int .i64 (wthV a 0 6),.int .i64 0,.int .i64 0,.int .u64 (xar .rem .u64 n 20)]]
abbrev smp_t_b10 (w:Int) (a:Int) (b:Int) (c:Int) (n:Int):List (Option LB):=[sN [.int .i64 w,.int .i64 a,.int .i64 b,.int .i64 c,.int .u64 n],sN [.int .i64 2,.int .i64 (wthV a 0 6),.int .i64 (wthV b 0 6),.int .i64 0,.int .u64 0]]
abbrev smp_t_b11 (w:Int) (a:Int) (b:Int) (c:Int) (n:Int):List (Option LB):=[sN [.int .i64 w,.int .i64 a,.int .i64 b,.int .i64 c,.int .u64 n],sN [.int .i64 1,.int .i64 (wthV a 0 6),.int .i64 0,.int .i64 0,.int .u64 n]]
abbrev smp_t_b12 (a:Int) (c:Int):LV:=(.agg [.int .i64 8,.int .i64 (wthV a 0 6),.int .i64 7,.int .i64 (wthV c 6 15),.int .u64 0])
abbrev smp_t_b13 (a:Int) (b:Int):LV:=(.agg [.int .i64 10,.int .i64 (wthV a 0 6),.int .i64 (wthV b 0 6),.int .i64 0,.int .u64 0])
abbrev smp_t_b14 (a:Int):LV:=(.agg [.int .i64 11,.int .i64 (wthV a 0 6),.int .i64 0,.int .i64 0,.int .u64 0])
abbrev smp_t_b15 (a:Int):LV:=(.agg [.int .i64 21,.int .i64 (wthV a 0 6),.int .i64 0,.int .i64 0,.int .u64 0])
abbrev smp_t_b16 (a:Int) (b:Int) (c:Int):LV:=(.agg [.int .i64 8,.int .i64 (wthV a 0 6),.int .i64 (wthV b 0 6),.int .i64 (wthV c 0 3),.int .u64 0])
abbrev smp_t_b17 (a:Int) (b:Int) (c:Int):LV:=(.agg [.int .i64 9,.int .i64 (wthV a 0 6),.int .i64 (wthV b 0 6),.int .i64 (wthV c 0 3),.int .u64 0])
abbrev smp_t_b18 (b:Int) (c:Int):LV:=(.agg [.int .i64 9,.int .i64 7,.int .i64 (wthV b 0 6),.int .i64 (wthV c 6 15),.int .u64 0])
abbrev smp_t_b19 (a:Int) (b:Int) (c:Int) (n:Int):LV:=(.agg [.int .i64 (xar .add .i64 3 (wthV (xwr .i64 (xar .rem .u64 n 64)) 0 4)),.int .i64 (wthV a 0 6),.int .i64 (wthV b 0 6),.int .i64 (wthV c 0 6),.int .u64 0])
abbrev smp_t_b20 (a:Int) (n:Int):LV:=(.agg [.int .i64 1,.int .i64 (wthV a 0 6),.int .i64 0,.int .i64 0,.int .u64 (xar .rem .u64 n 20)])
abbrev smp_t_b21 (a:Int) (b:Int):LV:=(.agg [.int .i64 2,.int .i64 (wthV a 0 6),.int .i64 (wthV b 0 6),.int .i64 0,.int .u64 0])
abbrev smp_t_b22 (a:Int) (n:Int):LV:=(.agg [.int .i64 1,.int .i64 (wthV a 0 6),.int .i64 0,.int .i64 0,.int .u64 n])
theorem smp_t (w a b c n:Int) (K:Fk):(xfun prog cxS1 60 22 [.agg [.int .i64 w,.int .i64 a,.int .i64 b,.int .i64 c,.int .u64 n]] (mkS []) (vF K))=(
 ck (xcm .eql b b) <|
 ck (xcm .eql b b) <|
 ck (xcm .eql c c) <|
 ck (xcm .eql c c) <|
 ck (xcm .eql c c) <|
 ck (xcm .eql c c) <|
 bif xcm .eql (wthV w 0 19) 0 then(
 bif xcm .eql (wthV w 0 19) 0 then(
 K (smp_t_b22 a n) (smp_t_b11 w a b c n) [])
 else(
 bif xcm .eql (wthV w 0 19) 2 then(
 K (smp_t_b20 a n) (smp_t_b9 w a b c n) [])
 else(
 bif xcm .eql (wthV w 0 19) 3 then(
 K (smp_t_b21 a b) (smp_t_b10 w a b c n) [])
 else(
 bif xcm .eql (wthV w 0 19) 4 then(
 K (smp_t_b19 a b c n) (smp_t_b8 w a b c n) [])
 else(
 bif xcm .eql (wthV w 0 19) 5 then(
 bif xcm .eql (wthV w 0 19) 5 then(
 K (smp_t_b12 a c) (smp_t_b1 w a b c n) [])
 else(
 bif xcm .eql (wthV w 0 19) 8 then(
 bif xcm .eql (wthV w 0 19) 8 then(
 K (smp_t_b18 b c) (smp_t_b7 w a b c n) [])
 else(
 bif xcm .eql (wthV w 0 19) 11 then(
 K (smp_t_b16 a b c) (smp_t_b5 w a b c n) [])
 else(
 bif xcm .eql (wthV w 0 19) 12 then(
 K (smp_t_b17 a b c) (smp_t_b6 w a b c n) [])
 else(
 bif xcm .eql (wthV w 0 19) 13 then(
 bif xcm .eql (wthV w 0 19) 13 then(
 K (smp_t_b13 a b) (smp_t_b2 w a b c n) [])
 else(
 bif xcm .eql (wthV w 0 19) 15 then(
 K (smp_t_b14 a) (smp_t_b3 w a b c n) [])
 else(
 bif xcm .eql (wthV w 0 19) 16 then(
 K (smp_t_b12 a c) (smp_t_b1 w a b c n) [])
 else(
 K (smp_t_b15 a) (smp_t_b4 w a b c n) []))))
 else(
 bif xcm .eql (wthV w 0 19) 14 then(
 K (smp_t_b13 a b) (smp_t_b2 w a b c n) [])
 else(
 bif xcm .eql (wthV w 0 19) 15 then(
 K (smp_t_b14 a) (smp_t_b3 w a b c n) [])
 else(
 bif xcm .eql (wthV w 0 19) 16 then(
 K (smp_t_b12 a c) (smp_t_b1 w a b c n) [])
 else(
 K (smp_t_b15 a) (smp_t_b4 w a b c n) []))))))))
 else(
 bif xcm .eql (wthV w 0 19) 9 then(
 bif xcm .eql (wthV w 0 19) 9 then(
 K (smp_t_b18 b c) (smp_t_b7 w a b c n) [])
 else(
 bif xcm .eql (wthV w 0 19) 11 then(
 K (smp_t_b16 a b c) (smp_t_b5 w a b c n) [])
 else(
 bif xcm .eql (wthV w 0 19) 12 then(
 K (smp_t_b17 a b c) (smp_t_b6 w a b c n) [])
 else(
 bif xcm .eql (wthV w 0 19) 13 then(
 bif xcm .eql (wthV w 0 19) 13 then(
 K (smp_t_b13 a b) (smp_t_b2 w a b c n) [])
 else(
 bif xcm .eql (wthV w 0 19) 15 then(
 K (smp_t_b14 a) (smp_t_b3 w a b c n) [])
 else(
 bif xcm .eql (wthV w 0 19) 16 then(
 K (smp_t_b12 a c) (smp_t_b1 w a b c n) [])
 else(
 K (smp_t_b15 a) (smp_t_b4 w a b c n) []))))
 else(
 bif xcm .eql (wthV w 0 19) 14 then(
 K (smp_t_b13 a b) (smp_t_b2 w a b c n) [])
 else(
 bif xcm .eql (wthV w 0 19) 15 then(
 K (smp_t_b14 a) (smp_t_b3 w a b c n) [])
 else(
 bif xcm .eql (wthV w 0 19) 16 then(
 K (smp_t_b12 a c) (smp_t_b1 w a b c n) [])
 else(
 K (smp_t_b15 a) (smp_t_b4 w a b c n) []))))))))
 else(
 bif xcm .eql (wthV w 0 19) 10 then(
 K (smp_t_b18 b c) (smp_t_b7 w a b c n) [])
 else(
 bif xcm .eql (wthV w 0 19) 11 then(
 K (smp_t_b16 a b c) (smp_t_b5 w a b c n) [])
 else(
 bif xcm .eql (wthV w 0 19) 12 then(
 K (smp_t_b17 a b c) (smp_t_b6 w a b c n) [])
 else(
 bif xcm .eql (wthV w 0 19) 13 then(
 bif xcm .eql (wthV w 0 19) 13 then(
 K (smp_t_b13 a b) (smp_t_b2 w a b c n) [])
 else(
 bif xcm .eql (wthV w 0 19) 15 then(
 K (smp_t_b14 a) (smp_t_b3 w a b c n) [])
 else(
 bif xcm .eql (wthV w 0 19) 16 then(
 K (smp_t_b12 a c) (smp_t_b1 w a b c n) [])
 else(
 K (smp_t_b15 a) (smp_t_b4 w a b c n) []))))
 else(
 bif xcm .eql (wthV w 0 19) 14 then(
 K (smp_t_b13 a b) (smp_t_b2 w a b c n) [])
 else(
 bif xcm .eql (wthV w 0 19) 15 then(
 K (smp_t_b14 a) (smp_t_b3 w a b c n) [])
 else(
 bif xcm .eql (wthV w 0 19) 16 then(
 K (smp_t_b12 a c) (smp_t_b1 w a b c n) [])
 else(
 K (smp_t_b15 a) (smp_t_b4 w a b c n) [])))))))))))
 else(
 bif xcm .eql (wthV w 0 19) 6 then(
 bif xcm .eql (wthV w 0 19) 6 then(
 K (smp_t_b12 a c) (smp_t_b1 w a b c n) [])
 else(
 bif xcm .eql (wthV w 0 19) 8 then(
 bif xcm .eql (wthV w 0 19) 8 then(
 K (smp_t_b18 b c) (smp_t_b7 w a b c n) [])
 else(
 bif xcm .eql (wthV w 0 19) 11 then(
 K (smp_t_b16 a b c) (smp_t_b5 w a b c n) [])
 else(
 bif xcm .eql (wthV w 0 19) 12 then(
 K (smp_t_b17 a b c) (smp_t_b6 w a b c n) [])
 else(
 bif xcm .eql (wthV w 0 19) 13 then(
 bif xcm .eql (wthV w 0 19) 13 then(
 K (smp_t_b13 a b) (smp_t_b2 w a b c n) [])
 else(
 bif xcm .eql (wthV w 0 19) 15 then(
 K (smp_t_b14 a) (smp_t_b3 w a b c n) [])
 else(
 bif xcm .eql (wthV w 0 19) 16 then(
 K (smp_t_b12 a c) (smp_t_b1 w a b c n) [])
 else(
 K (smp_t_b15 a) (smp_t_b4 w a b c n) []))))
 else(
 bif xcm .eql (wthV w 0 19) 14 then(
 K (smp_t_b13 a b) (smp_t_b2 w a b c n) [])
 else(
 bif xcm .eql (wthV w 0 19) 15 then(
 K (smp_t_b14 a) (smp_t_b3 w a b c n) [])
 else(
 bif xcm .eql (wthV w 0 19) 16 then(
 K (smp_t_b12 a c) (smp_t_b1 w a b c n) [])
 else(
 K (smp_t_b15 a) (smp_t_b4 w a b c n) []))))))))
 else(
 bif xcm .eql (wthV w 0 19) 9 then(
 bif xcm .eql (wthV w 0 19) 9 then(
 K (smp_t_b18 b c) (smp_t_b7 w a b c n) [])
 else(
 bif xcm .eql (wthV w 0 19) 11 then(
 K (smp_t_b16 a b c) (smp_t_b5 w a b c n) [])
 else(
 bif xcm .eql (wthV w 0 19) 12 then(
 K (smp_t_b17 a b c) (smp_t_b6 w a b c n) [])
 else(
 bif xcm .eql (wthV w 0 19) 13 then(
 bif xcm .eql (wthV w 0 19) 13 then(
 K (smp_t_b13 a b) (smp_t_b2 w a b c n) [])
 else(
 bif xcm .eql (wthV w 0 19) 15 then(
 K (smp_t_b14 a) (smp_t_b3 w a b c n) [])
 else(
 bif xcm .eql (wthV w 0 19) 16 then(
 K (smp_t_b12 a c) (smp_t_b1 w a b c n) [])
 else(
 K (smp_t_b15 a) (smp_t_b4 w a b c n) []))))
 else(
 bif xcm .eql (wthV w 0 19) 14 then(
 K (smp_t_b13 a b) (smp_t_b2 w a b c n) [])
 else(
 bif xcm .eql (wthV w 0 19) 15 then(
 K (smp_t_b14 a) (smp_t_b3 w a b c n) [])
 else(
 bif xcm .eql (wthV w 0 19) 16 then(
 K (smp_t_b12 a c) (smp_t_b1 w a b c n) [])
 else(
 K (smp_t_b15 a) (smp_t_b4 w a b c n) []))))))))
 else(
 bif xcm .eql (wthV w 0 19) 10 then(
 K (smp_t_b18 b c) (smp_t_b7 w a b c n) [])
 else(
 bif xcm .eql (wthV w 0 19) 11 then(
 K (smp_t_b16 a b c) (smp_t_b5 w a b c n) [])
 else(
 bif xcm .eql (wthV w 0 19) 12 then(
 K (smp_t_b17 a b c) (smp_t_b6 w a b c n) [])
 else(
 bif xcm .eql (wthV w 0 19) 13 then(
 bif xcm .eql (wthV w 0 19) 13 then(
 K (smp_t_b13 a b) (smp_t_b2 w a b c n) [])
 else(
 bif xcm .eql (wthV w 0 19) 15 then(
 K (smp_t_b14 a) (smp_t_b3 w a b c n) [])
 else(
 bif xcm .eql (wthV w 0 19) 16 then(
 K (smp_t_b12 a c) (smp_t_b1 w a b c n) [])
 else(
 K (smp_t_b15 a) (smp_t_b4 w a b c n) []))))
 else(
 bif xcm .eql (wthV w 0 19) 14 then(
 K (smp_t_b13 a b) (smp_t_b2 w a b c n) [])
 else(
 bif xcm .eql (wthV w 0 19) 15 then(
 K (smp_t_b14 a) (smp_t_b3 w a b c n) [])
 else(
 bif xcm .eql (wthV w 0 19) 16 then(
 K (smp_t_b12 a c) (smp_t_b1 w a b c n) [])
 else(
 K (smp_t_b15 a) (smp_t_b4 w a b c n) [])))))))))))
 else(
 bif xcm .eql (wthV w 0 19) 7 then(
 K (smp_t_b12 a c) (smp_t_b1 w a b c n) [])
 else(
 bif xcm .eql (wthV w 0 19) 8 then(
 bif xcm .eql (wthV w 0 19) 8 then(
 K (smp_t_b18 b c) (smp_t_b7 w a b c n) [])
 else(
 bif xcm .eql (wthV w 0 19) 11 then(
 K (smp_t_b16 a b c) (smp_t_b5 w a b c n) [])
 else(
 bif xcm .eql (wthV w 0 19) 12 then(
 K (smp_t_b17 a b c) (smp_t_b6 w a b c n) [])
 else(
 bif xcm .eql (wthV w 0 19) 13 then(
 bif xcm .eql (wthV w 0 19) 13 then(
 K (smp_t_b13 a b) (smp_t_b2 w a b c n) [])
 else(
 bif xcm .eql (wthV w 0 19) 15 then(
 K (smp_t_b14 a) (smp_t_b3 w a b c n) [])
 else(
 bif xcm .eql (wthV w 0 19) 16 then(
 K (smp_t_b12 a c) (smp_t_b1 w a b c n) [])
 else(
 K (smp_t_b15 a) (smp_t_b4 w a b c n) []))))
 else(
 bif xcm .eql (wthV w 0 19) 14 then(
 K (smp_t_b13 a b) (smp_t_b2 w a b c n) [])
 else(
 bif xcm .eql (wthV w 0 19) 15 then(
 K (smp_t_b14 a) (smp_t_b3 w a b c n) [])
 else(
 bif xcm .eql (wthV w 0 19) 16 then(
 K (smp_t_b12 a c) (smp_t_b1 w a b c n) [])
 else(
 K (smp_t_b15 a) (smp_t_b4 w a b c n) []))))))))
 else(
 bif xcm .eql (wthV w 0 19) 9 then(
 bif xcm .eql (wthV w 0 19) 9 then(
 K (smp_t_b18 b c) (smp_t_b7 w a b c n) [])
 else(
 bif xcm .eql (wthV w 0 19) 11 then(
 K (smp_t_b16 a b c) (smp_t_b5 w a b c n) [])
 else(
 bif xcm .eql (wthV w 0 19) 12 then(
 K (smp_t_b17 a b c) (smp_t_b6 w a b c n) [])
 else(
 bif xcm .eql (wthV w 0 19) 13 then(
 bif xcm .eql (wthV w 0 19) 13 then(
 K (smp_t_b13 a b) (smp_t_b2 w a b c n) [])
 else(
 bif xcm .eql (wthV w 0 19) 15 then(
 K (smp_t_b14 a) (smp_t_b3 w a b c n) [])
 else(
 bif xcm .eql (wthV w 0 19) 16 then(
 K (smp_t_b12 a c) (smp_t_b1 w a b c n) [])
 else(
 K (smp_t_b15 a) (smp_t_b4 w a b c n) []))))
 else(
 bif xcm .eql (wthV w 0 19) 14 then(
 K (smp_t_b13 a b) (smp_t_b2 w a b c n) [])
 else(
 bif xcm .eql (wthV w 0 19) 15 then(
 K (smp_t_b14 a) (smp_t_b3 w a b c n) [])
 else(
 bif xcm .eql (wthV w 0 19) 16 then(
 K (smp_t_b12 a c) (smp_t_b1 w a b c n) [])
 else(
 K (smp_t_b15 a) (smp_t_b4 w a b c n) []))))))))
 else(
 bif xcm .eql (wthV w 0 19) 10 then(
 K (smp_t_b18 b c) (smp_t_b7 w a b c n) [])
 else(
 bif xcm .eql (wthV w 0 19) 11 then(
 K (smp_t_b16 a b c) (smp_t_b5 w a b c n) [])
 else(
 bif xcm .eql (wthV w 0 19) 12 then(
 K (smp_t_b17 a b c) (smp_t_b6 w a b c n) [])
 else(
 bif xcm .eql (wthV w 0 19) 13 then(
 bif xcm .eql (wthV w 0 19) 13 then(
 K (smp_t_b13 a b) (smp_t_b2 w a b c n) [])
 else(
 bif xcm .eql (wthV w 0 19) 15 then(
 K (smp_t_b14 a) (smp_t_b3 w a b c n) [])
 else(
 bif xcm .eql (wthV w 0 19) 16 then(
 K (smp_t_b12 a c) (smp_t_b1 w a b c n) [])
 else(
 K (smp_t_b15 a) (smp_t_b4 w a b c n) []))))
 else(
 bif xcm .eql (wthV w 0 19) 14 then(
 K (smp_t_b13 a b) (smp_t_b2 w a b c n) [])
 else(
 bif xcm .eql (wthV w 0 19) 15 then(
 K (smp_t_b14 a) (smp_t_b3 w a b c n) [])
 else(
 bif xcm .eql (wthV w 0 19) 16 then(
 K (smp_t_b12 a c) (smp_t_b1 w a b c n) [])
 else(
 K (smp_t_b15 a) (smp_t_b4 w a b c n) [])))))))))))))))))
 else(
 bif xcm .eql (wthV w 0 19) 1 then(
 K (smp_t_b22 a n) (smp_t_b11 w a b c n) [])
 else(
 bif xcm .eql (wthV w 0 19) 2 then(
 K (smp_t_b20 a n) (smp_t_b9 w a b c n) [])
 else(
 bif xcm .eql (wthV w 0 19) 3 then(
 K (smp_t_b21 a b) (smp_t_b10 w a b c n) [])
 else(
 bif xcm .eql (wthV w 0 19) 4 then(
 K (smp_t_b19 a b c n) (smp_t_b8 w a b c n) [])
 else(
 bif xcm .eql (wthV w 0 19) 5 then(
 bif xcm .eql (wthV w 0 19) 5 then(
 K (smp_t_b12 a c) (smp_t_b1 w a b c n) [])
 else(
 bif xcm .eql (wthV w 0 19) 8 then(
 bif xcm .eql (wthV w 0 19) 8 then(
 K (smp_t_b18 b c) (smp_t_b7 w a b c n) [])
 else(
 bif xcm .eql (wthV w 0 19) 11 then(
 K (smp_t_b16 a b c) (smp_t_b5 w a b c n) [])
 else(
 bif xcm .eql (wthV w 0 19) 12 then(
 K (smp_t_b17 a b c) (smp_t_b6 w a b c n) [])
 else(
 bif xcm .eql (wthV w 0 19) 13 then(
 bif xcm .eql (wthV w 0 19) 13 then(
 K (smp_t_b13 a b) (smp_t_b2 w a b c n) [])
 else(
 bif xcm .eql (wthV w 0 19) 15 then(
 K (smp_t_b14 a) (smp_t_b3 w a b c n) [])
 else(
 bif xcm .eql (wthV w 0 19) 16 then(
 K (smp_t_b12 a c) (smp_t_b1 w a b c n) [])
 else(
 K (smp_t_b15 a) (smp_t_b4 w a b c n) []))))
 else(
 bif xcm .eql (wthV w 0 19) 14 then(
 K (smp_t_b13 a b) (smp_t_b2 w a b c n) [])
 else(
 bif xcm .eql (wthV w 0 19) 15 then(
 K (smp_t_b14 a) (smp_t_b3 w a b c n) [])
 else(
 bif xcm .eql (wthV w 0 19) 16 then(
 K (smp_t_b12 a c) (smp_t_b1 w a b c n) [])
 else(
 K (smp_t_b15 a) (smp_t_b4 w a b c n) []))))))))
 else(
 bif xcm .eql (wthV w 0 19) 9 then(
 bif xcm .eql (wthV w 0 19) 9 then(
 K (smp_t_b18 b c) (smp_t_b7 w a b c n) [])
 else(
 bif xcm .eql (wthV w 0 19) 11 then(
 K (smp_t_b16 a b c) (smp_t_b5 w a b c n) [])
 else(
 bif xcm .eql (wthV w 0 19) 12 then(
 K (smp_t_b17 a b c) (smp_t_b6 w a b c n) [])
 else(
 bif xcm .eql (wthV w 0 19) 13 then(
 bif xcm .eql (wthV w 0 19) 13 then(
 K (smp_t_b13 a b) (smp_t_b2 w a b c n) [])
 else(
 bif xcm .eql (wthV w 0 19) 15 then(
 K (smp_t_b14 a) (smp_t_b3 w a b c n) [])
 else(
 bif xcm .eql (wthV w 0 19) 16 then(
 K (smp_t_b12 a c) (smp_t_b1 w a b c n) [])
 else(
 K (smp_t_b15 a) (smp_t_b4 w a b c n) []))))
 else(
 bif xcm .eql (wthV w 0 19) 14 then(
 K (smp_t_b13 a b) (smp_t_b2 w a b c n) [])
 else(
 bif xcm .eql (wthV w 0 19) 15 then(
 K (smp_t_b14 a) (smp_t_b3 w a b c n) [])
 else(
 bif xcm .eql (wthV w 0 19) 16 then(
 K (smp_t_b12 a c) (smp_t_b1 w a b c n) [])
 else(
 K (smp_t_b15 a) (smp_t_b4 w a b c n) []))))))))
 else(
 bif xcm .eql (wthV w 0 19) 10 then(
 K (smp_t_b18 b c) (smp_t_b7 w a b c n) [])
 else(
 bif xcm .eql (wthV w 0 19) 11 then(
 K (smp_t_b16 a b c) (smp_t_b5 w a b c n) [])
 else(
 bif xcm .eql (wthV w 0 19) 12 then(
 K (smp_t_b17 a b c) (smp_t_b6 w a b c n) [])
 else(
 bif xcm .eql (wthV w 0 19) 13 then(
 bif xcm .eql (wthV w 0 19) 13 then(
 K (smp_t_b13 a b) (smp_t_b2 w a b c n) [])
 else(
 bif xcm .eql (wthV w 0 19) 15 then(
 K (smp_t_b14 a) (smp_t_b3 w a b c n) [])
 else(
 bif xcm .eql (wthV w 0 19) 16 then(
 K (smp_t_b12 a c) (smp_t_b1 w a b c n) [])
 else(
 K (smp_t_b15 a) (smp_t_b4 w a b c n) []))))
 else(
 bif xcm .eql (wthV w 0 19) 14 then(
 K (smp_t_b13 a b) (smp_t_b2 w a b c n) [])
 else(
 bif xcm .eql (wthV w 0 19) 15 then(
 K (smp_t_b14 a) (smp_t_b3 w a b c n) [])
 else(
 bif xcm .eql (wthV w 0 19) 16 then(
 K (smp_t_b12 a c) (smp_t_b1 w a b c n) [])
 else(
 K (smp_t_b15 a) (smp_t_b4 w a b c n) [])))))))))))
 else(
 bif xcm .eql (wthV w 0 19) 6 then(
 bif xcm .eql (wthV w 0 19) 6 then(
 K (smp_t_b12 a c) (smp_t_b1 w a b c n) [])
 else(
 bif xcm .eql (wthV w 0 19) 8 then(
 bif xcm .eql (wthV w 0 19) 8 then(
 K (smp_t_b18 b c) (smp_t_b7 w a b c n) [])
 else(
 bif xcm .eql (wthV w 0 19) 11 then(
 K (smp_t_b16 a b c) (smp_t_b5 w a b c n) [])
 else(
 bif xcm .eql (wthV w 0 19) 12 then(
 K (smp_t_b17 a b c) (smp_t_b6 w a b c n) [])
 else(
 bif xcm .eql (wthV w 0 19) 13 then(
 bif xcm .eql (wthV w 0 19) 13 then(
 K (smp_t_b13 a b) (smp_t_b2 w a b c n) [])
 else(
 bif xcm .eql (wthV w 0 19) 15 then(
 K (smp_t_b14 a) (smp_t_b3 w a b c n) [])
 else(
 bif xcm .eql (wthV w 0 19) 16 then(
 K (smp_t_b12 a c) (smp_t_b1 w a b c n) [])
 else(
 K (smp_t_b15 a) (smp_t_b4 w a b c n) []))))
 else(
 bif xcm .eql (wthV w 0 19) 14 then(
 K (smp_t_b13 a b) (smp_t_b2 w a b c n) [])
 else(
 bif xcm .eql (wthV w 0 19) 15 then(
 K (smp_t_b14 a) (smp_t_b3 w a b c n) [])
 else(
 bif xcm .eql (wthV w 0 19) 16 then(
 K (smp_t_b12 a c) (smp_t_b1 w a b c n) [])
 else(
 K (smp_t_b15 a) (smp_t_b4 w a b c n) []))))))))
 else(
 bif xcm .eql (wthV w 0 19) 9 then(
 bif xcm .eql (wthV w 0 19) 9 then(
 K (smp_t_b18 b c) (smp_t_b7 w a b c n) [])
 else(
 bif xcm .eql (wthV w 0 19) 11 then(
 K (smp_t_b16 a b c) (smp_t_b5 w a b c n) [])
 else(
 bif xcm .eql (wthV w 0 19) 12 then(
 K (smp_t_b17 a b c) (smp_t_b6 w a b c n) [])
 else(
 bif xcm .eql (wthV w 0 19) 13 then(
 bif xcm .eql (wthV w 0 19) 13 then(
 K (smp_t_b13 a b) (smp_t_b2 w a b c n) [])
 else(
 bif xcm .eql (wthV w 0 19) 15 then(
 K (smp_t_b14 a) (smp_t_b3 w a b c n) [])
 else(
 bif xcm .eql (wthV w 0 19) 16 then(
 K (smp_t_b12 a c) (smp_t_b1 w a b c n) [])
 else(
 K (smp_t_b15 a) (smp_t_b4 w a b c n) []))))
 else(
 bif xcm .eql (wthV w 0 19) 14 then(
 K (smp_t_b13 a b) (smp_t_b2 w a b c n) [])
 else(
 bif xcm .eql (wthV w 0 19) 15 then(
 K (smp_t_b14 a) (smp_t_b3 w a b c n) [])
 else(
 bif xcm .eql (wthV w 0 19) 16 then(
 K (smp_t_b12 a c) (smp_t_b1 w a b c n) [])
 else(
 K (smp_t_b15 a) (smp_t_b4 w a b c n) []))))))))
 else(
 bif xcm .eql (wthV w 0 19) 10 then(
 K (smp_t_b18 b c) (smp_t_b7 w a b c n) [])
 else(
 bif xcm .eql (wthV w 0 19) 11 then(
 K (smp_t_b16 a b c) (smp_t_b5 w a b c n) [])
 else(
 bif xcm .eql (wthV w 0 19) 12 then(
 K (smp_t_b17 a b c) (smp_t_b6 w a b c n) [])
 else(
 bif xcm .eql (wthV w 0 19) 13 then(
 bif xcm .eql (wthV w 0 19) 13 then(
 K (smp_t_b13 a b) (smp_t_b2 w a b c n) [])
 else(
 bif xcm .eql (wthV w 0 19) 15 then(
 K (smp_t_b14 a) (smp_t_b3 w a b c n) [])
 else(
 bif xcm .eql (wthV w 0 19) 16 then(
 K (smp_t_b12 a c) (smp_t_b1 w a b c n) [])
 else(
 K (smp_t_b15 a) (smp_t_b4 w a b c n) []))))
 else(
 bif xcm .eql (wthV w 0 19) 14 then(
 K (smp_t_b13 a b) (smp_t_b2 w a b c n) [])
 else(
 bif xcm .eql (wthV w 0 19) 15 then(
 K (smp_t_b14 a) (smp_t_b3 w a b c n) [])
 else(
 bif xcm .eql (wthV w 0 19) 16 then(
 K (smp_t_b12 a c) (smp_t_b1 w a b c n) [])
 else(
 K (smp_t_b15 a) (smp_t_b4 w a b c n) [])))))))))))
 else(
 bif xcm .eql (wthV w 0 19) 7 then(
 K (smp_t_b12 a c) (smp_t_b1 w a b c n) [])
 else(
 bif xcm .eql (wthV w 0 19) 8 then(
 bif xcm .eql (wthV w 0 19) 8 then(
 K (smp_t_b18 b c) (smp_t_b7 w a b c n) [])
 else(
 bif xcm .eql (wthV w 0 19) 11 then(
 K (smp_t_b16 a b c) (smp_t_b5 w a b c n) [])
 else(
 bif xcm .eql (wthV w 0 19) 12 then(
 K (smp_t_b17 a b c) (smp_t_b6 w a b c n) [])
 else(
 bif xcm .eql (wthV w 0 19) 13 then(
 bif xcm .eql (wthV w 0 19) 13 then(
 K (smp_t_b13 a b) (smp_t_b2 w a b c n) [])
 else(
 bif xcm .eql (wthV w 0 19) 15 then(
 K (smp_t_b14 a) (smp_t_b3 w a b c n) [])
 else(
 bif xcm .eql (wthV w 0 19) 16 then(
 K (smp_t_b12 a c) (smp_t_b1 w a b c n) [])
 else(
 K (smp_t_b15 a) (smp_t_b4 w a b c n) []))))
 else(
 bif xcm .eql (wthV w 0 19) 14 then(
 K (smp_t_b13 a b) (smp_t_b2 w a b c n) [])
 else(
 bif xcm .eql (wthV w 0 19) 15 then(
 K (smp_t_b14 a) (smp_t_b3 w a b c n) [])
 else(
 bif xcm .eql (wthV w 0 19) 16 then(
 K (smp_t_b12 a c) (smp_t_b1 w a b c n) [])
 else(
 K (smp_t_b15 a) (smp_t_b4 w a b c n) []))))))))
 else(
 bif xcm .eql (wthV w 0 19) 9 then(
 bif xcm .eql (wthV w 0 19) 9 then(
 K (smp_t_b18 b c) (smp_t_b7 w a b c n) [])
 else(
 bif xcm .eql (wthV w 0 19) 11 then(
 K (smp_t_b16 a b c) (smp_t_b5 w a b c n) [])
 else(
 bif xcm .eql (wthV w 0 19) 12 then(
 K (smp_t_b17 a b c) (smp_t_b6 w a b c n) [])
 else(
 bif xcm .eql (wthV w 0 19) 13 then(
 bif xcm .eql (wthV w 0 19) 13 then(
 K (smp_t_b13 a b) (smp_t_b2 w a b c n) [])
 else(
 bif xcm .eql (wthV w 0 19) 15 then(
 K (smp_t_b14 a) (smp_t_b3 w a b c n) [])
 else(
 bif xcm .eql (wthV w 0 19) 16 then(
 K (smp_t_b12 a c) (smp_t_b1 w a b c n) [])
 else(
 K (smp_t_b15 a) (smp_t_b4 w a b c n) []))))
 else(
 bif xcm .eql (wthV w 0 19) 14 then(
 K (smp_t_b13 a b) (smp_t_b2 w a b c n) [])
 else(
 bif xcm .eql (wthV w 0 19) 15 then(
 K (smp_t_b14 a) (smp_t_b3 w a b c n) [])
 else(
 bif xcm .eql (wthV w 0 19) 16 then(
 K (smp_t_b12 a c) (smp_t_b1 w a b c n) [])
 else(
 K (smp_t_b15 a) (smp_t_b4 w a b c n) []))))))))
 else(
 bif xcm .eql (wthV w 0 19) 10 then(
 K (smp_t_b18 b c) (smp_t_b7 w a b c n) [])
 else(
 bif xcm .eql (wthV w 0 19) 11 then(
 K (smp_t_b16 a b c) (smp_t_b5 w a b c n) [])
 else(
 bif xcm .eql (wthV w 0 19) 12 then(
 K (smp_t_b17 a b c) (smp_t_b6 w a b c n) [])
 else(
 bif xcm .eql (wthV w 0 19) 13 then(
 bif xcm .eql (wthV w 0 19) 13 then(
 K (smp_t_b13 a b) (smp_t_b2 w a b c n) [])
 else(
 bif xcm .eql (wthV w 0 19) 15 then(
 K (smp_t_b14 a) (smp_t_b3 w a b c n) [])
 else(
 bif xcm .eql (wthV w 0 19) 16 then(
 K (smp_t_b12 a c) (smp_t_b1 w a b c n) [])
 else(
 K (smp_t_b15 a) (smp_t_b4 w a b c n) []))))
 else(
 bif xcm .eql (wthV w 0 19) 14 then(
 K (smp_t_b13 a b) (smp_t_b2 w a b c n) [])
 else(
 bif xcm .eql (wthV w 0 19) 15 then(
 K (smp_t_b14 a) (smp_t_b3 w a b c n) [])
 else(
 bif xcm .eql (wthV w 0 19) 16 then(
 K (smp_t_b12 a c) (smp_t_b1 w a b c n) [])
 else(
 K (smp_t_b15 a) (smp_t_b4 w a b c n) [])))))))))))))))))):=by kernel_rfl
def simV (v a b c n:Int):InsR :=
 if v=0∨v=1 then⟨1,wthV a 0 6,0,0,n⟩
 else if v=2 then⟨1,wthV a 0 6,0,0,xar .rem .u64 n 20⟩
 else if v=3 then⟨2,wthV a 0 6,wthV b 0 6,0,0⟩
 else if v=4 then⟨xar .add .i64 3 (wthV (xwr .i64 (xar .rem .u64 n 64)) 0 4),wthV a 0 6,wthV b 0 6,wthV c 0 6,0⟩
 else if v=5∨v=6∨v=7∨v=16 then⟨8,wthV a 0 6,7,wthV c 6 15,0⟩
 else if v=8∨v=9∨v=10 then⟨9,7,wthV b 0 6,wthV c 6 15,0⟩
 else if v=11 then⟨8,wthV a 0 6,wthV b 0 6,wthV c 0 3,0⟩
 else if v=12 then⟨9,wthV a 0 6,wthV b 0 6,wthV c 0 3,0⟩
 else if v=13∨v=14 then⟨10,wthV a 0 6,wthV b 0 6,0,0⟩
 else if v=15 then⟨11,wthV a 0 6,0,0,0⟩
 else⟨21,wthV a 0 6,0,0,0⟩
def simF (w a b c n:Int):InsR:=simV (wthV w 0 19) a b c n
theorem reg_ok (n:Int):SFun prog 21 [.int .i64 n] (mkS []) fun l s=>l=.int .i64 (wthV n 0 6)∧s=mkS []:=by
 refine SFun.mono (SFun.vc (Q:=fun l b=>l=.int .i64 (wthV n 0 6)∧b=[]) cxS1_ok (n:=40) 0 rfl ?_) fun l s' ⟨b0,⟨h1,h2⟩,h3⟩=>⟨h1,by rw [h3,h2]⟩
 rw [reg_t]
 (refine zR ?_)
 exact⟨rfl,_,_,[],⟨rfl,rfl⟩,by(exact zC)⟩
theorem leafI {i:InsR} {x:LV} {bs:List (Option LB)} (h:x=.agg (insE i)):convOk 0 1 [0] [x] bs [] [(0,.agg (insE i))] []:=by
 subst h; (exact zC)
set_option maxHeartbeats 2000000 in
theorem sim_ok (w a b c n:Int):SFun prog 22 [.agg [.int .i64 w,.int .i64 a,.int .i64 b,.int .i64 c,.int .u64 n]] (mkS []) fun l s=>l=.agg (insE (simF w a b c n))∧s=mkS []:=by
 refine SFun.mono (SFun.vc (Q:=fun l bb=>l=.agg (insE (simF w a b c n))∧bb=[]) cxS1_ok (n:=60) 0 rfl ?_) fun l s' ⟨b0,⟨h1,h2⟩,h3⟩=>⟨h1,by rw [h3,h2]⟩
 rw [smp_t]
 have hv:=wthV_in (a:=w) (lo:=0) (hi:=19) (by decide)
 have e:simF w a b c n=simV (wthV w 0 19) a b c n:=rfl
 rw [e]
 generalize wthV w 0 19=v at *
 (refine zR ?_)
 rcases(show v=0∨v=1∨v=2∨v=3∨v=4∨v=5∨v=6∨v=7∨v=8∨v=9∨v=10∨v=11∨v=12∨v=13∨v=14∨v=15∨v=16∨v=17∨v=18∨v=19 by omega) with rfl | rfl | rfl | rfl | rfl | rfl | rfl | rfl | rfl | rfl | rfl | rfl | rfl | rfl | rfl | rfl | rfl | rfl | rfl | rfl <;> ((refine zR ?_); exact⟨rfl,_,_,[],⟨rfl,rfl⟩,leafI rfl⟩)
def smO (w a b c n:Int):Int:=(simF w a b c n).op
def smA (w a b c n:Int):Int:=(simF w a b c n).a
def smB (w a b c n:Int):Int:=(simF w a b c n).b
def smC (w a b c n:Int):Int:=(simF w a b c n).c
def smN (w a b c n:Int):Int:=(simF w a b c n).n
def regG:Gc:=fun args s=>match args,s.g with
 | [.int .i64 n],[]=>some ([],.int .i64 (wthV n 0 6),s)
 | _,_=>none
def simG:Gc:=fun args s=>match args,s.g with
 | [.agg [.int .i64 w,.int .i64 a,.int .i64 b,.int .i64 c,.int .u64 n]],[]=>some ([],.agg [.int .i64 (smO w a b c n),.int .i64 (smA w a b c n),.int .i64 (smB w a b c n),.int .i64 (smC w a b c n),.int .u64 (smN w a b c n)],s)
 | _,_=>none
theorem regG_ok:GOk prog 21 regG:=by
 intro args s bs l s' hg hb hfr
 unfold regG at hg
 split at hg
 ·rename_i n hgl
  simp only [Option.some.injEq,Prod.mk.injEq] at hg
  obtain⟨rfl,rfl,rfl⟩:=hg
  exact SFun.pure hfr hgl rfl rfl (reg_ok n)
 ·cases hg
theorem simG_ok:GOk prog 22 simG:=by
 intro args s bs l s' hg hb hfr
 unfold simG at hg
 split at hg
 ·rename_i w a b c n hgl
  simp only [Option.some.injEq,Prod.mk.injEq] at hg
  obtain⟨rfl,rfl,rfl⟩:=hg
  exact SFun.pure hfr hgl rfl rfl (sim_ok w a b c n)
 ·cases hg
end
end Go.Lev
/- the draws of programs: a program, trees -/
namespace Go.Lev
set_option linter.unusedSimpArgs false
set_option linter.unusedVariables false
open Go.RowKit
open Go.Proofs.Tryd (prog)
set_option maxRecDepth 100000
noncomputable section
def cxPy:Cx:=cxl [(19,withinG),(21,regG),(22,simG)]
abbrev pgF:List Code:=sp prog 11
abbrev pgR:List Code:=spineL (loopOf (nthC pgF 4))
abbrev pgB:List Code:=spineL (blockIn (nthC pgR 2))
abbrev pgC0:Code:=blockIn (nthC pgB 5)
abbrev pgC1:Code:=condF (nthC (spineL pgC0) 1)
abbrev pgC2:Code:=condF (nthC (spineL pgC1) 1)
abbrev pgC3:Code:=condF (nthC (spineL pgC2) 1)
abbrev pgC4:Code:=condF (nthC (spineL pgC3) 1)
abbrev pgC5:Code:=condF (nthC (spineL pgC4) 1)
abbrev pgC6:Code:=condF (nthC (spineL pgC5) 1)
abbrev pgC7:Code:=condF (nthC (spineL pgC6) 1)
abbrev pgC8:Code:=condF (nthC (spineL pgC7) 1)
abbrev pgC9:Code:=condF (nthC (spineL pgC8) 1)
abbrev pgL:List Nat:=[0,1,2,6,7,8,9,10,11,12,41,55,73,90,109,135,153,171,190]
abbrev pgT (np:Nat) (m:Int) (calm:Bool) (nl k i:Nat):List (Nat×LV):=[(0,.slo 0 0 np 0),(1,.int .i64 m),(2,.bool calm),(6,.ptr 1 0),(7,.slo 2 0 nl 0),(8,.slo 3 0 k 0),(9,.int .i64 i)]
abbrev pgU (nl k:Nat):List (Nat×LV):=[(6,.ptr 1 0),(7,.slo 2 0 nl 0),(8,.slo 3 0 k 0)]
abbrev pgV (nl:Nat):List (Nat×LV):=[(6,.ptr 1 0),(7,.slo 2 0 nl 0)]
abbrev pgA (np:Nat) (m:Int) (calm:Bool) (nl k i:Nat) (w:Int):List (Nat×LV):=[(0,.slo 0 0 np 0),(1,.int .i64 m),(2,.bool calm),(6,.ptr 1 0),(7,.slo 2 0 nl 0),(8,.slo 3 0 k 0),(9,.int .i64 i),(10,.ptr 4 0),(11,.int .i64 k),(12,.int .i64 w)]
abbrev pgH (ks ls os:List LV):List LB:=[.ro ks,.cells [.nils] none,.cells ls (some 5),.cells os (some 1)]
abbrev pgJ (ks ls os:List LV) (xw xa xb xc xn:Int):List LB:=[.ro ks,.cells [.nils] none,.cells ls (some 5),.cells os (some 1),.cells [.int .i64 xw,.int .i64 xa,.int .i64 xb,.int .i64 xc,.int .u64 xn] none]
theorem cxPy_ok:CtrOk prog (ctrOf cxPy):=cxl_ok ⟨withinG_ok,regG_ok,simG_ok,trivial⟩
theorem pg_a (np:Nat) (m:Int) (calm:Bool) (ks:List LV) (K:Pk):(xsp prog cxPy 60 226 (seg pgF 0 4) (tm0 [.slo 0 0 np 0,.int .i64 m,.bool calm]) (mkS [.ro ks]) (vK pgL K))=(
 K .normal [.slo 0 0 np 0,.int .i64 m,.bool calm,.ptr 1 0,.nils,.nils,.int .i64 0,.tup [],.tup [],.tup [],.tup [],.tup [],.tup [],.tup [],.tup [],.tup [],.tup [],.tup [],.tup []] [some (.ro ks),sN [.nils]] []):=by kernel_rfl
theorem pg_h (np:Nat) (m:Int) (calm:Bool) (nl k i:Nat) (ks ls os:List LV) (K:Pk):(xsp prog cxPy 60 226 (seg pgR 0 2) (mkTm 226 (pgT np m calm nl k i)) (mkS (pgH ks ls os)) (vK pgL K))=(
 bif xcm .lss ↑i ↑np then(
 K .normal [.slo 0 0 np 0,.int .i64 m,.bool calm,.ptr 1 0,.slo 2 0 nl 0,.slo 3 0 k 0,.int .i64 ↑i,.any,.any,.any,.any,.any,.any,.any,.any,.any,.any,.any,.any] [some (.ro ks),sN [.nils],sC ls 5,sC os 1] [])
 else(
 K (.exit 0) [.slo 0 0 np 0,.int .i64 m,.bool calm,.ptr 1 0,.slo 2 0 nl 0,.slo 3 0 k 0,.int .i64 ↑i,.any,.any,.any,.any,.any,.any,.any,.any,.any,.any,.any,.any] [some (.ro ks),sN [.nils],sC ls 5,sC os 1] [])):=by kernel_rfl
abbrev pg_b_b1 (i:Nat) (ks:List LV) (ls:List LV) (os:List LV):List (Option LB):=[some (.ro ks),sN [.nils],sC ls 5,sC os 1,sN [.int .i64 (asI (nthD ks (xix 0 (xnat ↑i) 5))),.int .i64 (asI (nthD ks (xadd (xix 0 (xnat ↑i) 5) 1))),.int .i64 (asI (nthD ks (xadd (xadd (xix 0 (xnat ↑i) 5) 1) 1))),.int .i64 (asI (nthD ks (xadd (xadd (xadd (xix 0 (xnat ↑i) 5) 1) 1) 1))),.int .u64 (asI (nthD ks (xadd (xadd (xadd (xadd (xix 0 (xnat ↑i) 5) 1) 1) 1) 1)))]]
theorem pg_b (np:Nat) (m:Int) (calm:Bool) (nl k i:Nat) (ks ls os:List LV) (K:Pk):(xsp prog cxPy 60 226 (seg pgB 0 5) (mkTm 226 (pgT np m calm nl k i)) (mkS (pgH ks ls os)) (vK pgL K))=(
 ck (xle (xadd (xnat ↑i) 1) np) <|
 ck (xle (xadd (xix 0 (xnat ↑i) 5) 5) (xln ks)) <|
 ck (isI .i64 (nthD ks (xix 0 (xnat ↑i) 5))) <|
 ck (isI .i64 (nthD ks (xadd (xix 0 (xnat ↑i) 5) 1))) <|
 ck (isI .i64 (nthD ks (xadd (xadd (xix 0 (xnat ↑i) 5) 1) 1))) <|
 ck (isI .i64 (nthD ks (xadd (xadd (xadd (xix 0 (xnat ↑i) 5) 1) 1) 1))) <|
 ck (isI .u64 (nthD ks (xadd (xadd (xadd (xadd (xix 0 (xnat ↑i) 5) 1) 1) 1) 1))) <|
 bif xcm .gtr (xar .add .i64 (xar .add .i64 (↑nl) (xar .mul .i64 2 ↑k)) 5) m then(
 K (.exit 0) [.slo 0 0 np 0,.int .i64 m,.bool calm,.ptr 1 0,.slo 2 0 nl 0,.slo 3 0 k 0,.int .i64 ↑i,.ptr 4 0,.int .i64 ↑k,.any,.any,.any,.any,.any,.any,.any,.any,.any,.any] (pg_b_b1 i ks ls os) [])
 else(
 K .normal [.slo 0 0 np 0,.int .i64 m,.bool calm,.ptr 1 0,.slo 2 0 nl 0,.slo 3 0 k 0,.int .i64 ↑i,.ptr 4 0,.int .i64 ↑k,.int .i64 (wthV (asI (nthD ks (xix 0 (xnat ↑i) 5))) 0 40),.any,.any,.any,.any,.any,.any,.any,.any,.any] (pg_b_b1 i ks ls os) [])):=by kernel_rfl
theorem pt_0 (np:Nat) (m:Int) (calm:Bool) (nl k i:Nat) (w:Int) (ks ls os:List LV) (xw xa xb xc xn:Int) (K:Pk):(xsp prog cxPy 60 226 (seg (spineL pgC0) 0 1) (mkTm 226 (pgA np m calm nl k i w)) (mkS (pgJ ks ls os xw xa xb xc xn)) (vK pgL K))=(
 bif xcm .eql w 20 then(
 K .normal [.slo 0 0 np 0,.int .i64 m,.bool calm,.ptr 1 0,.slo 2 0 nl 0,.slo 3 0 k 0,.int .i64 ↑i,.ptr 4 0,.int .i64 ↑k,.int .i64 w,.bool (xcm .lss (↑k) 5),.any,.any,.any,.any,.any,.any,.any,.any] [some (.ro ks),sN [.nils],sC ls 5,sC os 1,sN [.int .i64 xw,.int .i64 xa,.int .i64 xb,.int .i64 xc,.int .u64 xn]] [])
 else(
 K .normal [.slo 0 0 np 0,.int .i64 m,.bool calm,.ptr 1 0,.slo 2 0 nl 0,.slo 3 0 k 0,.int .i64 ↑i,.ptr 4 0,.int .i64 ↑k,.int .i64 w,.bool false,.any,.any,.any,.any,.any,.any,.any,.any] [some (.ro ks),sN [.nils],sC ls 5,sC os 1,sN [.int .i64 xw,.int .i64 xa,.int .i64 xb,.int .i64 xc,.int .u64 xn]] [])):=by kernel_rfl
theorem pa_0 (q:Bool) (np:Nat) (m:Int) (calm:Bool) (nl k i:Nat) (w:Int) (ks ls os:List LV) (xw xa xb xc xn:Int) (K:Pk):(xcode prog cxPy 60 226 (condT (nthC (spineL pgC0) 1)) (mkTm 226 ((41,.bool q)::pgA np m calm nl k i w)) (mkS (pgJ ks ls os xw xa xb xc xn)) (vK pgL K))=(
 ck (xle (xadd nl 1) 1000000) <|
 ck (xle (xadd 0 (xmul nl 5)) (xln ls)) <|
 ck (xle (xadd k 1) 1000000) <|
 ck (xle (xadd 0 (xmul k 1)) (xln os)) <|
 K .normal [.slo 0 0 np 0,.int .i64 m,.bool calm,.ptr 1 0,.slo 6 0 (xadd nl 1) 0,.slo 8 0 (xadd k 1) 0,.int .i64 ↑i,.ptr 4 0,.int .i64 ↑k,.int .i64 w,.bool q,.any,.any,.any,.any,.any,.any,.any,.any] [some (.ro ks),sN [.nils],sD,sD,sN [.int .i64 xw,.int .i64 xa,.int .i64 xb,.int .i64 xc,.int .u64 xn],sN [.int .i64 14,.int .i64 0,.int .i64 0,.int .i64 0,.int .u64 0],sC (xcat (xcut ls 0 (xmul nl 5)) [.int .i64 14,.int .i64 0,.int .i64 0,.int .i64 0,.int .u64 0]) 5,sN [.int .i64 14],sC (xcat (xcut os 0 (xmul k 1)) [.int .i64 14]) 1] []):=by kernel_rfl
theorem pt_1 (q:Bool) (np:Nat) (m:Int) (calm:Bool) (nl k i:Nat) (w:Int) (ks ls os:List LV) (xw xa xb xc xn:Int) (K:Pk):(xsp prog cxPy 60 226 (seg (spineL pgC1) 0 1) (mkTm 226 ((41,.bool q)::pgA np m calm nl k i w)) (mkS (pgJ ks ls os xw xa xb xc xn)) (vK pgL K))=(
 bif xcm .eql w 21 then(
 K .normal [.slo 0 0 np 0,.int .i64 m,.bool calm,.ptr 1 0,.slo 2 0 nl 0,.slo 3 0 k 0,.int .i64 ↑i,.ptr 4 0,.int .i64 ↑k,.int .i64 w,.bool q,.bool (xcm .lss (↑k) 5),.any,.any,.any,.any,.any,.any,.any] [some (.ro ks),sN [.nils],sC ls 5,sC os 1,sN [.int .i64 xw,.int .i64 xa,.int .i64 xb,.int .i64 xc,.int .u64 xn]] [])
 else(
 bif xcm .eql w 22 then(
 K .normal [.slo 0 0 np 0,.int .i64 m,.bool calm,.ptr 1 0,.slo 2 0 nl 0,.slo 3 0 k 0,.int .i64 ↑i,.ptr 4 0,.int .i64 ↑k,.int .i64 w,.bool q,.bool (xcm .lss (↑k) 5),.any,.any,.any,.any,.any,.any,.any] [some (.ro ks),sN [.nils],sC ls 5,sC os 1,sN [.int .i64 xw,.int .i64 xa,.int .i64 xb,.int .i64 xc,.int .u64 xn]] [])
 else(
 K .normal [.slo 0 0 np 0,.int .i64 m,.bool calm,.ptr 1 0,.slo 2 0 nl 0,.slo 3 0 k 0,.int .i64 ↑i,.ptr 4 0,.int .i64 ↑k,.int .i64 w,.bool q,.bool false,.any,.any,.any,.any,.any,.any,.any] [some (.ro ks),sN [.nils],sC ls 5,sC os 1,sN [.int .i64 xw,.int .i64 xa,.int .i64 xb,.int .i64 xc,.int .u64 xn]] []))):=by kernel_rfl
theorem pa_1 (q:Bool) (np:Nat) (m:Int) (calm:Bool) (nl k i:Nat) (w:Int) (ks ls os:List LV) (xw xa xb xc xn:Int) (K:Pk):(xcode prog cxPy 60 226 (condT (nthC (spineL pgC1) 1)) (mkTm 226 ((55,.bool q)::pgA np m calm nl k i w)) (mkS (pgJ ks ls os xw xa xb xc xn)) (vK pgL K))=(
 ck (xle (xadd nl 1) 1000000) <|
 ck (xle (xadd 0 (xmul nl 5)) (xln ls)) <|
 ck (xle (xadd k 1) 1000000) <|
 ck (xle (xadd 0 (xmul k 1)) (xln os)) <|
 K .normal [.slo 0 0 np 0,.int .i64 m,.bool calm,.ptr 1 0,.slo 6 0 (xadd nl 1) 0,.slo 8 0 (xadd k 1) 0,.int .i64 ↑i,.ptr 4 0,.int .i64 ↑k,.int .i64 w,.any,.bool q,.any,.any,.any,.any,.any,.any,.any] [some (.ro ks),sN [.nils],sD,sD,sN [.int .i64 xw,.int .i64 xa,.int .i64 xb,.int .i64 xc,.int .u64 xn],sN [.int .i64 17,.int .i64 0,.int .i64 0,.int .i64 0,.int .u64 0],sC (xcat (xcut ls 0 (xmul nl 5)) [.int .i64 17,.int .i64 0,.int .i64 0,.int .i64 0,.int .u64 0]) 5,sN [.int .i64 17],sC (xcat (xcut os 0 (xmul k 1)) [.int .i64 17]) 1] []):=by kernel_rfl
theorem pt_2 (q:Bool) (np:Nat) (m:Int) (calm:Bool) (nl k i:Nat) (w:Int) (ks ls os:List LV) (xw xa xb xc xn:Int) (K:Pk):(xsp prog cxPy 60 226 (seg (spineL pgC2) 0 1) (mkTm 226 ((55,.bool q)::pgA np m calm nl k i w)) (mkS (pgJ ks ls os xw xa xb xc xn)) (vK pgL K))=(
 bif xcm .eql w 23 then(
 K .normal [.slo 0 0 np 0,.int .i64 m,.bool calm,.ptr 1 0,.slo 2 0 nl 0,.slo 3 0 k 0,.int .i64 ↑i,.ptr 4 0,.int .i64 ↑k,.int .i64 w,.any,.bool q,.bool (xcm .gtr (↑k) 0),.any,.any,.any,.any,.any,.any] [some (.ro ks),sN [.nils],sC ls 5,sC os 1,sN [.int .i64 xw,.int .i64 xa,.int .i64 xb,.int .i64 xc,.int .u64 xn]] [])
 else(
 bif xcm .eql w 24 then(
 K .normal [.slo 0 0 np 0,.int .i64 m,.bool calm,.ptr 1 0,.slo 2 0 nl 0,.slo 3 0 k 0,.int .i64 ↑i,.ptr 4 0,.int .i64 ↑k,.int .i64 w,.any,.bool q,.bool (xcm .gtr (↑k) 0),.any,.any,.any,.any,.any,.any] [some (.ro ks),sN [.nils],sC ls 5,sC os 1,sN [.int .i64 xw,.int .i64 xa,.int .i64 xb,.int .i64 xc,.int .u64 xn]] [])
 else(
 K .normal [.slo 0 0 np 0,.int .i64 m,.bool calm,.ptr 1 0,.slo 2 0 nl 0,.slo 3 0 k 0,.int .i64 ↑i,.ptr 4 0,.int .i64 ↑k,.int .i64 w,.any,.bool q,.bool false,.any,.any,.any,.any,.any,.any] [some (.ro ks),sN [.nils],sC ls 5,sC os 1,sN [.int .i64 xw,.int .i64 xa,.int .i64 xb,.int .i64 xc,.int .u64 xn]] []))):=by kernel_rfl
theorem pa_2 (q:Bool) (np:Nat) (m:Int) (calm:Bool) (nl k i:Nat) (w:Int) (ks ls os:List LV) (xw xa xb xc xn:Int) (K:Pk):(xcode prog cxPy 60 226 (condT (nthC (spineL pgC2) 1)) (mkTm 226 ((73,.bool q)::pgA np m calm nl k i w)) (mkS (pgJ ks ls os xw xa xb xc xn)) (vK pgL K))=(
 ck (xnn (xar .sub .i64 (↑k) 1)) <|
 ck (xle (xadd (xnat (xar .sub .i64 (↑k) 1)) 1) k) <|
 ck (xle (xadd (xix 0 (xnat (xar .sub .i64 (↑k) 1)) 1) 1) (xln os)) <|
 ck (isI .i64 (nthD os (xix 0 (xnat (xar .sub .i64 (↑k) 1)) 1))) <|
 bif xcm .eql (asI (nthD os (xix 0 (xnat (xar .sub .i64 (↑k) 1)) 1))) 14 then(
 ck (xle (xadd nl 1) 1000000) <|
 ck (xle (xadd 0 (xmul nl 5)) (xln ls)) <|
 ck (xnn (xar .sub .i64 (↑k) 1)) <|
 ck (xle (xnat (xar .sub .i64 (↑k) 1)) k) <|
 K .normal [.slo 0 0 np 0,.int .i64 m,.bool calm,.ptr 1 0,.slo 6 0 (xadd nl 1) 0,.slo 3 0 (xsub (xnat (xar .sub .i64 (↑k) 1)) 0) 0,.int .i64 ↑i,.ptr 4 0,.int .i64 ↑k,.int .i64 w,.any,.any,.bool q,.any,.any,.any,.any,.any,.any] [some (.ro ks),sN [.nils],sD,sC os 1,sN [.int .i64 xw,.int .i64 xa,.int .i64 xb,.int .i64 xc,.int .u64 xn],sN [.int .i64 15,.int .i64 0,.int .i64 0,.int .i64 0,.int .u64 0],sC (xcat (xcut ls 0 (xmul nl 5)) [.int .i64 15,.int .i64 0,.int .i64 0,.int .i64 0,.int .u64 0]) 5] [])
 else(
 bif xcm .eql (asI (nthD os (xix 0 (xnat (xar .sub .i64 (↑k) 1)) 1))) 17 then(
 ck (xnn (xar .sub .i64 (↑k) 1)) <|
 ck (xle (xnat (xar .sub .i64 (↑k) 1)) k) <|
 ck (xle (xadd 0 (xmul (xsub (xnat (xar .sub .i64 (↑k) 1)) 0) 1)) (xln os)) <|
 ck (xle (xmul (xsub (xnat (xar .sub .i64 (↑k) 1)) 0) 8) 140737488355328) <|
 ck (xle (xsub (xnat (xar .sub .i64 (↑k) 1)) 0) 140737488355328) <|
 ck (xle (xadd (xsub (xnat (xar .sub .i64 (↑k) 1)) 0) 1) 1000000) <|
 ck (xle (xadd 0 (xmul (xsub (xnat (xar .sub .i64 (↑k) 1)) 0) 1)) (xln (xcut os 0 (xmul (xsub (xnat (xar .sub .i64 (↑k) 1)) 0) 1)))) <|
 ck (xle (xadd nl 1) 1000000) <|
 ck (xle (xadd 0 (xmul nl 5)) (xln ls)) <|
 K .normal [.slo 0 0 np 0,.int .i64 m,.bool calm,.ptr 1 0,.slo 9 0 (xadd nl 1) 0,.slo 7 0 (xadd (xsub (xnat (xar .sub .i64 (↑k) 1)) 0) 1) 0,.int .i64 ↑i,.ptr 4 0,.int .i64 ↑k,.int .i64 w,.any,.any,.bool q,.any,.any,.any,.any,.any,.any] [some (.ro ks),sN [.nils],sD,sC os 1,sN [.int .i64 xw,.int .i64 xa,.int .i64 xb,.int .i64 xc,.int .u64 xn],sD,sN [.int .i64 18],sC (xcat (xcut (xcut os 0 (xmul (xsub (xnat (xar .sub .i64 (↑k) 1)) 0) 1)) 0 (xmul (xsub (xnat (xar .sub .i64 (↑k) 1)) 0) 1)) [.int .i64 18]) 1,sN [.int .i64 18,.int .i64 0,.int .i64 0,.int .i64 0,.int .u64 0],sC (xcat (xcut ls 0 (xmul nl 5)) [.int .i64 18,.int .i64 0,.int .i64 0,.int .i64 0,.int .u64 0]) 5] [])
 else(
 ck (xle (xadd nl 1) 1000000) <|
 ck (xle (xadd 0 (xmul nl 5)) (xln ls)) <|
 ck (xnn (xar .sub .i64 (↑k) 1)) <|
 ck (xle (xnat (xar .sub .i64 (↑k) 1)) k) <|
 K .normal [.slo 0 0 np 0,.int .i64 m,.bool calm,.ptr 1 0,.slo 6 0 (xadd nl 1) 0,.slo 3 0 (xsub (xnat (xar .sub .i64 (↑k) 1)) 0) 0,.int .i64 ↑i,.ptr 4 0,.int .i64 ↑k,.int .i64 w,.any,.any,.bool q,.any,.any,.any,.any,.any,.any] [some (.ro ks),sN [.nils],sD,sC os 1,sN [.int .i64 xw,.int .i64 xa,.int .i64 xb,.int .i64 xc,.int .u64 xn],sN [.int .i64 19,.int .i64 0,.int .i64 0,.int .i64 0,.int .u64 0],sC (xcat (xcut ls 0 (xmul nl 5)) [.int .i64 19,.int .i64 0,.int .i64 0,.int .i64 0,.int .u64 0]) 5] []))):=by kernel_rfl
theorem pt_3 (q:Bool) (np:Nat) (m:Int) (calm:Bool) (nl k i:Nat) (w:Int) (ks ls os:List LV) (xw xa xb xc xn:Int) (K:Pk):(xsp prog cxPy 60 226 (seg (spineL pgC3) 0 1) (mkTm 226 ((73,.bool q)::pgA np m calm nl k i w)) (mkS (pgJ ks ls os xw xa xb xc xn)) (vK pgL K))=(
 bif xcm .eql w 25 then(
 bif xcm .gtr (↑k) 0 then(
 ck (xnn (xar .sub .i64 (↑k) 1)) <|
 ck (xle (xadd (xnat (xar .sub .i64 (↑k) 1)) 1) k) <|
 ck (xle (xadd (xix 0 (xnat (xar .sub .i64 (↑k) 1)) 1) 1) (xln os)) <|
 ck (isI .i64 (nthD os (xix 0 (xnat (xar .sub .i64 (↑k) 1)) 1))) <|
 K .normal [.slo 0 0 np 0,.int .i64 m,.bool calm,.ptr 1 0,.slo 2 0 nl 0,.slo 3 0 k 0,.int .i64 ↑i,.ptr 4 0,.int .i64 ↑k,.int .i64 w,.any,.any,.bool q,.bool (xcm .eql (asI (nthD os (xix 0 (xnat (xar .sub .i64 (↑k) 1)) 1))) 14),.any,.any,.any,.any,.any] [some (.ro ks),sN [.nils],sC ls 5,sC os 1,sN [.int .i64 xw,.int .i64 xa,.int .i64 xb,.int .i64 xc,.int .u64 xn]] [])
 else(
 K .normal [.slo 0 0 np 0,.int .i64 m,.bool calm,.ptr 1 0,.slo 2 0 nl 0,.slo 3 0 k 0,.int .i64 ↑i,.ptr 4 0,.int .i64 ↑k,.int .i64 w,.any,.any,.bool q,.bool false,.any,.any,.any,.any,.any] [some (.ro ks),sN [.nils],sC ls 5,sC os 1,sN [.int .i64 xw,.int .i64 xa,.int .i64 xb,.int .i64 xc,.int .u64 xn]] []))
 else(
 K .normal [.slo 0 0 np 0,.int .i64 m,.bool calm,.ptr 1 0,.slo 2 0 nl 0,.slo 3 0 k 0,.int .i64 ↑i,.ptr 4 0,.int .i64 ↑k,.int .i64 w,.any,.any,.bool q,.bool false,.any,.any,.any,.any,.any] [some (.ro ks),sN [.nils],sC ls 5,sC os 1,sN [.int .i64 xw,.int .i64 xa,.int .i64 xb,.int .i64 xc,.int .u64 xn]] [])):=by kernel_rfl
theorem pa_3 (q:Bool) (np:Nat) (m:Int) (calm:Bool) (nl k i:Nat) (w:Int) (ks ls os:List LV) (xw xa xb xc xn:Int) (K:Pk):(xcode prog cxPy 60 226 (condT (nthC (spineL pgC3) 1)) (mkTm 226 ((90,.bool q)::pgA np m calm nl k i w)) (mkS (pgJ ks ls os xw xa xb xc xn)) (vK pgL K))=(
 ck (xle (xadd nl 1) 1000000) <|
 ck (xle (xadd 0 (xmul nl 5)) (xln ls)) <|
 K .normal [.slo 0 0 np 0,.int .i64 m,.bool calm,.ptr 1 0,.slo 6 0 (xadd nl 1) 0,.slo 3 0 k 0,.int .i64 ↑i,.ptr 4 0,.int .i64 ↑k,.int .i64 w,.any,.any,.any,.bool q,.any,.any,.any,.any,.any] [some (.ro ks),sN [.nils],sD,sC os 1,sN [.int .i64 xw,.int .i64 xa,.int .i64 xb,.int .i64 xc,.int .u64 xn],sN [.int .i64 16,.int .i64 0,.int .i64 0,.int .i64 0,.int .u64 0],sC (xcat (xcut ls 0 (xmul nl 5)) [.int .i64 16,.int .i64 0,.int .i64 0,.int .i64 0,.int .u64 0]) 5] []):=by kernel_rfl
abbrev pt_4_b1 (ks:List LV) (ls:List LV) (os:List LV) (xw:Int) (xa:Int) (xb:Int) (xc:Int) (xn:Int):List (Option LB):=[some (.ro ks),sN [.nils],sC ls 5,sC os 1,sN [.int .i64 xw,.int .i64 xa,.int .i64 xb,.int .i64 xc,.int .u64 xn]]
theorem pt_4 (q:Bool) (np:Nat) (m:Int) (calm:Bool) (nl k i:Nat) (w:Int) (ks ls os:List LV) (xw xa xb xc xn:Int) (K:Pk):(xsp prog cxPy 60 226 (seg (spineL pgC4) 0 1) (mkTm 226 ((90,.bool q)::pgA np m calm nl k i w)) (mkS (pgJ ks ls os xw xa xb xc xn)) (vK pgL K))=(
 bif xcm .eql w 26 then(
 bif xnot calm then(
 K .normal [.slo 0 0 np 0,.int .i64 m,.bool calm,.ptr 1 0,.slo 2 0 nl 0,.slo 3 0 k 0,.int .i64 ↑i,.ptr 4 0,.int .i64 ↑k,.int .i64 w,.any,.any,.any,.bool q,.bool (xcm .gtr (↑k) 0),.any,.any,.any,.any] (pt_4_b1 ks ls os xw xa xb xc xn) [])
 else(
 K .normal [.slo 0 0 np 0,.int .i64 m,.bool calm,.ptr 1 0,.slo 2 0 nl 0,.slo 3 0 k 0,.int .i64 ↑i,.ptr 4 0,.int .i64 ↑k,.int .i64 w,.any,.any,.any,.bool q,.bool false,.any,.any,.any,.any] (pt_4_b1 ks ls os xw xa xb xc xn) []))
 else(
 bif xcm .eql w 27 then(
 bif xnot calm then(
 K .normal [.slo 0 0 np 0,.int .i64 m,.bool calm,.ptr 1 0,.slo 2 0 nl 0,.slo 3 0 k 0,.int .i64 ↑i,.ptr 4 0,.int .i64 ↑k,.int .i64 w,.any,.any,.any,.bool q,.bool (xcm .gtr (↑k) 0),.any,.any,.any,.any] (pt_4_b1 ks ls os xw xa xb xc xn) [])
 else(
 K .normal [.slo 0 0 np 0,.int .i64 m,.bool calm,.ptr 1 0,.slo 2 0 nl 0,.slo 3 0 k 0,.int .i64 ↑i,.ptr 4 0,.int .i64 ↑k,.int .i64 w,.any,.any,.any,.bool q,.bool false,.any,.any,.any,.any] (pt_4_b1 ks ls os xw xa xb xc xn) []))
 else(
 K .normal [.slo 0 0 np 0,.int .i64 m,.bool calm,.ptr 1 0,.slo 2 0 nl 0,.slo 3 0 k 0,.int .i64 ↑i,.ptr 4 0,.int .i64 ↑k,.int .i64 w,.any,.any,.any,.bool q,.bool false,.any,.any,.any,.any] (pt_4_b1 ks ls os xw xa xb xc xn) []))):=by kernel_rfl
theorem pa_4 (q:Bool) (np:Nat) (m:Int) (calm:Bool) (nl k i:Nat) (w:Int) (ks ls os:List LV) (xw xa xb xc xn:Int) (K:Pk):(xcode prog cxPy 60 226 (condT (nthC (spineL pgC4) 1)) (mkTm 226 ((109,.bool q)::pgA np m calm nl k i w)) (mkS (pgJ ks ls os xw xa xb xc xn)) (vK pgL K))=(
 ck (xle (xadd nl 2) 1000000) <|
 ck (xle (xadd 0 (xmul nl 5)) (xln ls)) <|
 K .normal [.slo 0 0 np 0,.int .i64 m,.bool calm,.ptr 1 0,.slo 6 0 (xadd nl 2) 0,.slo 3 0 k 0,.int .i64 ↑i,.ptr 4 0,.int .i64 ↑k,.int .i64 w,.any,.any,.any,.any,.bool q,.any,.any,.any,.any] [some (.ro ks),sN [.nils],sD,sC os 1,sN [.int .i64 xw,.int .i64 xa,.int .i64 xb,.int .i64 xc,.int .u64 xn],sN [.int .i64 13,.int .i64 (wthV xa 0 6),.int .i64 0,.int .i64 (xar .add .i64 (↑nl) 2),.int .u64 0,.int .i64 20,.int .i64 0,.int .i64 0,.int .i64 0,.int .u64 0],sC (xcat (xcut ls 0 (xmul nl 5)) [.int .i64 13,.int .i64 (wthV xa 0 6),.int .i64 0,.int .i64 (xar .add .i64 (↑nl) 2),.int .u64 0,.int .i64 20,.int .i64 0,.int .i64 0,.int .i64 0,.int .u64 0]) 5] []):=by kernel_rfl
theorem pt_5 (q:Bool) (np:Nat) (m:Int) (calm:Bool) (nl k i:Nat) (w:Int) (ks ls os:List LV) (xw xa xb xc xn:Int) (K:Pk):(xsp prog cxPy 60 226 (seg (spineL pgC5) 0 1) (mkTm 226 ((109,.bool q)::pgA np m calm nl k i w)) (mkS (pgJ ks ls os xw xa xb xc xn)) (vK pgL K))=(
 bif xcm .eql w 28 then(
 K .normal [.slo 0 0 np 0,.int .i64 m,.bool calm,.ptr 1 0,.slo 2 0 nl 0,.slo 3 0 k 0,.int .i64 ↑i,.ptr 4 0,.int .i64 ↑k,.int .i64 w,.any,.any,.any,.any,.bool q,.bool (xnot calm),.any,.any,.any] [some (.ro ks),sN [.nils],sC ls 5,sC os 1,sN [.int .i64 xw,.int .i64 xa,.int .i64 xb,.int .i64 xc,.int .u64 xn]] [])
 else(
 K .normal [.slo 0 0 np 0,.int .i64 m,.bool calm,.ptr 1 0,.slo 2 0 nl 0,.slo 3 0 k 0,.int .i64 ↑i,.ptr 4 0,.int .i64 ↑k,.int .i64 w,.any,.any,.any,.any,.bool q,.bool false,.any,.any,.any] [some (.ro ks),sN [.nils],sC ls 5,sC os 1,sN [.int .i64 xw,.int .i64 xa,.int .i64 xb,.int .i64 xc,.int .u64 xn]] [])):=by kernel_rfl
theorem pa_5 (q:Bool) (np:Nat) (m:Int) (calm:Bool) (nl k i:Nat) (w:Int) (ks ls os:List LV) (xw xa xb xc xn:Int) (K:Pk):(xcode prog cxPy 60 226 (condT (nthC (spineL pgC5) 1)) (mkTm 226 ((135,.bool q)::pgA np m calm nl k i w)) (mkS (pgJ ks ls os xw xa xb xc xn)) (vK pgL K))=(
 ck (xle (xadd nl 2) 1000000) <|
 ck (xle (xadd 0 (xmul nl 5)) (xln ls)) <|
 K .normal [.slo 0 0 np 0,.int .i64 m,.bool calm,.ptr 1 0,.slo 6 0 (xadd nl 2) 0,.slo 3 0 k 0,.int .i64 ↑i,.ptr 4 0,.int .i64 ↑k,.int .i64 w,.any,.any,.any,.any,.any,.bool q,.any,.any,.any] [some (.ro ks),sN [.nils],sD,sC os 1,sN [.int .i64 xw,.int .i64 xa,.int .i64 xb,.int .i64 xc,.int .u64 xn],sN [.int .i64 13,.int .i64 (wthV xa 0 6),.int .i64 0,.int .i64 (xar .add .i64 (↑nl) 2),.int .u64 0,.int .i64 20,.int .i64 0,.int .i64 0,.int .i64 0,.int .u64 0],sC (xcat (xcut ls 0 (xmul nl 5)) [.int .i64 13,.int .i64 (wthV xa 0 6),.int .i64 0,.int .i64 (xar .add .i64 (↑nl) 2),.int .u64 0,.int .i64 20,.int .i64 0,.int .i64 0,.int .i64 0,.int .u64 0]) 5] []):=by kernel_rfl
theorem pt_6 (q:Bool) (np:Nat) (m:Int) (calm:Bool) (nl k i:Nat) (w:Int) (ks ls os:List LV) (xw xa xb xc xn:Int) (K:Pk):(xsp prog cxPy 60 226 (seg (spineL pgC6) 0 1) (mkTm 226 ((135,.bool q)::pgA np m calm nl k i w)) (mkS (pgJ ks ls os xw xa xb xc xn)) (vK pgL K))=(
 bif xcm .eql w 29 then(
 K .normal [.slo 0 0 np 0,.int .i64 m,.bool calm,.ptr 1 0,.slo 2 0 nl 0,.slo 3 0 k 0,.int .i64 ↑i,.ptr 4 0,.int .i64 ↑k,.int .i64 w,.any,.any,.any,.any,.any,.bool q,.bool (xnot calm),.any,.any] [some (.ro ks),sN [.nils],sC ls 5,sC os 1,sN [.int .i64 xw,.int .i64 xa,.int .i64 xb,.int .i64 xc,.int .u64 xn]] [])
 else(
 K .normal [.slo 0 0 np 0,.int .i64 m,.bool calm,.ptr 1 0,.slo 2 0 nl 0,.slo 3 0 k 0,.int .i64 ↑i,.ptr 4 0,.int .i64 ↑k,.int .i64 w,.any,.any,.any,.any,.any,.bool q,.bool false,.any,.any] [some (.ro ks),sN [.nils],sC ls 5,sC os 1,sN [.int .i64 xw,.int .i64 xa,.int .i64 xb,.int .i64 xc,.int .u64 xn]] [])):=by kernel_rfl
theorem pa_6 (q:Bool) (np:Nat) (m:Int) (calm:Bool) (nl k i:Nat) (w:Int) (ks ls os:List LV) (xw xa xb xc xn:Int) (K:Pk):(xcode prog cxPy 60 226 (condT (nthC (spineL pgC6) 1)) (mkTm 226 ((153,.bool q)::pgA np m calm nl k i w)) (mkS (pgJ ks ls os xw xa xb xc xn)) (vK pgL K))=(
 ck (xle (xadd nl 2) 1000000) <|
 ck (xle (xadd 0 (xmul nl 5)) (xln ls)) <|
 K .normal [.slo 0 0 np 0,.int .i64 m,.bool calm,.ptr 1 0,.slo 6 0 (xadd nl 2) 0,.slo 3 0 k 0,.int .i64 ↑i,.ptr 4 0,.int .i64 ↑k,.int .i64 w,.any,.any,.any,.any,.any,.any,.bool q,.any,.any] [some (.ro ks),sN [.nils],sD,sC os 1,sN [.int .i64 xw,.int .i64 xa,.int .i64 xb,.int .i64 xc,.int .u64 xn],sN [.int .i64 13,.int .i64 (wthV xa 0 6),.int .i64 0,.int .i64 (xar .add .i64 (↑nl) 2),.int .u64 0,.int .i64 22,.int .i64 0,.int .i64 0,.int .i64 0,.int .u64 0],sC (xcat (xcut ls 0 (xmul nl 5)) [.int .i64 13,.int .i64 (wthV xa 0 6),.int .i64 0,.int .i64 (xar .add .i64 (↑nl) 2),.int .u64 0,.int .i64 22,.int .i64 0,.int .i64 0,.int .i64 0,.int .u64 0]) 5] []):=by kernel_rfl
theorem pt_7 (q:Bool) (np:Nat) (m:Int) (calm:Bool) (nl k i:Nat) (w:Int) (ks ls os:List LV) (xw xa xb xc xn:Int) (K:Pk):(xsp prog cxPy 60 226 (seg (spineL pgC7) 0 1) (mkTm 226 ((153,.bool q)::pgA np m calm nl k i w)) (mkS (pgJ ks ls os xw xa xb xc xn)) (vK pgL K))=(
 bif xcm .eql w 30 then(
 K .normal [.slo 0 0 np 0,.int .i64 m,.bool calm,.ptr 1 0,.slo 2 0 nl 0,.slo 3 0 k 0,.int .i64 ↑i,.ptr 4 0,.int .i64 ↑k,.int .i64 w,.any,.any,.any,.any,.any,.any,.bool q,.bool true,.any] [some (.ro ks),sN [.nils],sC ls 5,sC os 1,sN [.int .i64 xw,.int .i64 xa,.int .i64 xb,.int .i64 xc,.int .u64 xn]] [])
 else(
 K .normal [.slo 0 0 np 0,.int .i64 m,.bool calm,.ptr 1 0,.slo 2 0 nl 0,.slo 3 0 k 0,.int .i64 ↑i,.ptr 4 0,.int .i64 ↑k,.int .i64 w,.any,.any,.any,.any,.any,.any,.bool q,.bool (xcm .eql w 31),.any] [some (.ro ks),sN [.nils],sC ls 5,sC os 1,sN [.int .i64 xw,.int .i64 xa,.int .i64 xb,.int .i64 xc,.int .u64 xn]] [])):=by kernel_rfl
theorem pa_7 (q:Bool) (np:Nat) (m:Int) (calm:Bool) (nl k i:Nat) (w:Int) (ks ls os:List LV) (xw xa xb xc xn:Int) (K:Pk):(xcode prog cxPy 60 226 (condT (nthC (spineL pgC7) 1)) (mkTm 226 ((171,.bool q)::pgA np m calm nl k i w)) (mkS (pgJ ks ls os xw xa xb xc xn)) (vK pgL K))=(
 ck (xle (xadd nl 2) 1000000) <|
 ck (xle (xadd 0 (xmul nl 5)) (xln ls)) <|
 ck (xcm .eql xw xw) <|
 ck (xcm .eql xa xa) <|
 ck (xcm .eql xb xb) <|
 ck (xcm .eql xc xc) <|
 ck (xcm .eql xn xn) <|
 ck (xcm .eql xw xw) <|
 ck (xcm .eql xa xa) <|
 ck (xcm .eql xb xb) <|
 ck (xcm .eql xc xc) <|
 ck (xcm .eql xn xn) <|
 K .normal [.slo 0 0 np 0,.int .i64 m,.bool calm,.ptr 1 0,.slo 6 0 (xadd nl 2) 0,.slo 3 0 k 0,.int .i64 ↑i,.ptr 4 0,.int .i64 ↑k,.int .i64 w,.any,.any,.any,.any,.any,.any,.any,.bool q,.any] [some (.ro ks),sN [.nils],sD,sC os 1,sN [.int .i64 xw,.int .i64 xa,.int .i64 xb,.int .i64 xc,.int .u64 xn],sN [.int .i64 13,.int .i64 (wthV xb 0 6),.int .i64 0,.int .i64 (xar .add .i64 (↑nl) 2),.int .u64 0,.int .i64 (smO xw xa xb xc xn),.int .i64 (smA xw xa xb xc xn),.int .i64 (smB xw xa xb xc xn),.int .i64 (smC xw xa xb xc xn),.int .u64 (smN xw xa xb xc xn)],sC (xcat (xcut ls 0 (xmul nl 5)) [.int .i64 13,.int .i64 (wthV xb 0 6),.int .i64 0,.int .i64 (xar .add .i64 (↑nl) 2),.int .u64 0,.int .i64 (smO xw xa xb xc xn),.int .i64 (smA xw xa xb xc xn),.int .i64 (smB xw xa xb xc xn),.int .i64 (smC xw xa xb xc xn),.int .u64 (smN xw xa xb xc xn)]) 5] []):=by kernel_rfl
theorem pt_8 (q:Bool) (np:Nat) (m:Int) (calm:Bool) (nl k i:Nat) (w:Int) (ks ls os:List LV) (xw xa xb xc xn:Int) (K:Pk):(xsp prog cxPy 60 226 (seg (spineL pgC8) 0 1) (mkTm 226 ((171,.bool q)::pgA np m calm nl k i w)) (mkS (pgJ ks ls os xw xa xb xc xn)) (vK pgL K))=(
 bif xcm .eql w 32 then(
 K .normal [.slo 0 0 np 0,.int .i64 m,.bool calm,.ptr 1 0,.slo 2 0 nl 0,.slo 3 0 k 0,.int .i64 ↑i,.ptr 4 0,.int .i64 ↑k,.int .i64 w,.any,.any,.any,.any,.any,.any,.any,.bool q,.bool (xnot calm)] [some (.ro ks),sN [.nils],sC ls 5,sC os 1,sN [.int .i64 xw,.int .i64 xa,.int .i64 xb,.int .i64 xc,.int .u64 xn]] [])
 else(
 K .normal [.slo 0 0 np 0,.int .i64 m,.bool calm,.ptr 1 0,.slo 2 0 nl 0,.slo 3 0 k 0,.int .i64 ↑i,.ptr 4 0,.int .i64 ↑k,.int .i64 w,.any,.any,.any,.any,.any,.any,.any,.bool q,.bool false] [some (.ro ks),sN [.nils],sC ls 5,sC os 1,sN [.int .i64 xw,.int .i64 xa,.int .i64 xb,.int .i64 xc,.int .u64 xn]] [])):=by kernel_rfl
theorem pa_8 (q:Bool) (np:Nat) (m:Int) (calm:Bool) (nl k i:Nat) (w:Int) (ks ls os:List LV) (xw xa xb xc xn:Int) (K:Pk):(xcode prog cxPy 60 226 (condT (nthC (spineL pgC8) 1)) (mkTm 226 ((190,.bool q)::pgA np m calm nl k i w)) (mkS (pgJ ks ls os xw xa xb xc xn)) (vK pgL K))=(
 ck (xle (xadd nl 2) 1000000) <|
 ck (xle (xadd 0 (xmul nl 5)) (xln ls)) <|
 ck (xcm .eql xb xb) <|
 ck (xcm .eql xb xb) <|
 K .normal [.slo 0 0 np 0,.int .i64 m,.bool calm,.ptr 1 0,.slo 6 0 (xadd nl 2) 0,.slo 3 0 k 0,.int .i64 ↑i,.ptr 4 0,.int .i64 ↑k,.int .i64 w,.any,.any,.any,.any,.any,.any,.any,.any,.bool q] [some (.ro ks),sN [.nils],sD,sC os 1,sN [.int .i64 xw,.int .i64 xa,.int .i64 xb,.int .i64 xc,.int .u64 xn],sN [.int .i64 (smO xw xa xb xc xn),.int .i64 (smA xw xa xb xc xn),.int .i64 (smB xw xa xb xc xn),.int .i64 (smC xw xa xb xc xn),.int .u64 (smN xw xa xb xc xn),.int .i64 13,.int .i64 (wthV xb 0 6),.int .i64 0,.int .i64 ↑nl,.int .u64 0],sC (xcat (xcut ls 0 (xmul nl 5)) [.int .i64 (smO xw xa xb xc xn),.int .i64 (smA xw xa xb xc xn),.int .i64 (smB xw xa xb xc xn),.int .i64 (smC xw xa xb xc xn),.int .u64 (smN xw xa xb xc xn),.int .i64 13,.int .i64 (wthV xb 0 6),.int .i64 0,.int .i64 ↑nl,.int .u64 0]) 5] []):=by kernel_rfl
theorem pa_9 (q:Bool) (np:Nat) (m:Int) (calm:Bool) (nl k i:Nat) (w:Int) (ks ls os:List LV) (xw xa xb xc xn:Int) (K:Pk):(xcode prog cxPy 60 226 pgC9 (mkTm 226 ((190,.bool q)::pgA np m calm nl k i w)) (mkS (pgJ ks ls os xw xa xb xc xn)) (vK pgL K))=(
 ck (xle (xadd nl 1) 1000000) <|
 ck (xle (xadd 0 (xmul nl 5)) (xln ls)) <|
 K .normal [.slo 0 0 np 0,.int .i64 m,.bool calm,.ptr 1 0,.slo 6 0 (xadd nl 1) 0,.slo 3 0 k 0,.int .i64 ↑i,.ptr 4 0,.int .i64 ↑k,.int .i64 w,.any,.any,.any,.any,.any,.any,.any,.any,.bool q] [some (.ro ks),sN [.nils],sD,sC os 1,sN [.int .i64 xw,.int .i64 xa,.int .i64 xb,.int .i64 xc,.int .u64 xn],sN [.int .i64 (smO xw xa xb xc xn),.int .i64 (smA xw xa xb xc xn),.int .i64 (smB xw xa xb xc xn),.int .i64 (smC xw xa xb xc xn),.int .u64 (smN xw xa xb xc xn)],sC (xcat (xcut ls 0 (xmul nl 5)) [.int .i64 (smO xw xa xb xc xn),.int .i64 (smA xw xa xb xc xn),.int .i64 (smB xw xa xb xc xn),.int .i64 (smC xw xa xb xc xn),.int .u64 (smN xw xa xb xc xn)]) 5] []):=by kernel_rfl
theorem pg_n (np:Nat) (m:Int) (calm:Bool) (nl k i:Nat) (ks ls os:List LV) (K:Pk):(xsp prog cxPy 60 226 (pgR.drop 3) (mkTm 226 (pgT np m calm nl k i)) (mkS (pgH ks ls os)) (vK pgL K))=(
 K .normal [.slo 0 0 np 0,.int .i64 m,.bool calm,.ptr 1 0,.slo 2 0 nl 0,.slo 3 0 k 0,.int .i64 (xar .add .i64 (↑i) 1),.any,.any,.any,.any,.any,.any,.any,.any,.any,.any,.any,.any] [some (.ro ks),sN [.nils],sC ls 5,sC os 1] []):=by kernel_rfl
theorem pg_c (nl k:Nat) (ks ls os:List LV) (K:Pk):(xcode prog cxPy 60 226 (loopOf (nthC pgF 5)) (mkTm 226 (pgU nl k)) (mkS (pgH ks ls os)) (vK pgL K))=(
 bif xcm .gtr (↑k) 0 then(
 ck (xnn (xar .sub .i64 (↑k) 1)) <|
 ck (xle (xadd (xnat (xar .sub .i64 (↑k) 1)) 1) k) <|
 ck (xle (xadd (xix 0 (xnat (xar .sub .i64 (↑k) 1)) 1) 1) (xln os)) <|
 ck (isI .i64 (nthD os (xix 0 (xnat (xar .sub .i64 (↑k) 1)) 1))) <|
 bif xcm .eql (asI (nthD os (xix 0 (xnat (xar .sub .i64 (↑k) 1)) 1))) 14 then(
 ck (xle (xadd nl 1) 1000000) <|
 ck (xle (xadd 0 (xmul nl 5)) (xln ls)) <|
 ck (xnn (xar .sub .i64 (↑k) 1)) <|
 ck (xle (xnat (xar .sub .i64 (↑k) 1)) k) <|
 K .normal [.any,.any,.any,.ptr 1 0,.slo 5 0 (xadd nl 1) 0,.slo 3 0 (xsub (xnat (xar .sub .i64 (↑k) 1)) 0) 0,.any,.any,.any,.any,.any,.any,.any,.any,.any,.any,.any,.any,.any] [some (.ro ks),sN [.nils],sD,sC os 1,sN [.int .i64 15,.int .i64 0,.int .i64 0,.int .i64 0,.int .u64 0],sC (xcat (xcut ls 0 (xmul nl 5)) [.int .i64 15,.int .i64 0,.int .i64 0,.int .i64 0,.int .u64 0]) 5] [])
 else(
 bif xcm .eql (asI (nthD os (xix 0 (xnat (xar .sub .i64 (↑k) 1)) 1))) 17 then(
 ck (xnn (xar .sub .i64 (↑k) 1)) <|
 ck (xle (xnat (xar .sub .i64 (↑k) 1)) k) <|
 ck (xle (xadd 0 (xmul (xsub (xnat (xar .sub .i64 (↑k) 1)) 0) 1)) (xln os)) <|
 ck (xle (xmul (xsub (xnat (xar .sub .i64 (↑k) 1)) 0) 8) 140737488355328) <|
 ck (xle (xsub (xnat (xar .sub .i64 (↑k) 1)) 0) 140737488355328) <|
 ck (xle (xadd (xsub (xnat (xar .sub .i64 (↑k) 1)) 0) 1) 1000000) <|
 ck (xle (xadd 0 (xmul (xsub (xnat (xar .sub .i64 (↑k) 1)) 0) 1)) (xln (xcut os 0 (xmul (xsub (xnat (xar .sub .i64 (↑k) 1)) 0) 1)))) <|
 ck (xle (xadd nl 1) 1000000) <|
 ck (xle (xadd 0 (xmul nl 5)) (xln ls)) <|
 K .normal [.any,.any,.any,.ptr 1 0,.slo 8 0 (xadd nl 1) 0,.slo 6 0 (xadd (xsub (xnat (xar .sub .i64 (↑k) 1)) 0) 1) 0,.any,.any,.any,.any,.any,.any,.any,.any,.any,.any,.any,.any,.any] [some (.ro ks),sN [.nils],sD,sC os 1,sD,sN [.int .i64 18],sC (xcat (xcut (xcut os 0 (xmul (xsub (xnat (xar .sub .i64 (↑k) 1)) 0) 1)) 0 (xmul (xsub (xnat (xar .sub .i64 (↑k) 1)) 0) 1)) [.int .i64 18]) 1,sN [.int .i64 18,.int .i64 0,.int .i64 0,.int .i64 0,.int .u64 0],sC (xcat (xcut ls 0 (xmul nl 5)) [.int .i64 18,.int .i64 0,.int .i64 0,.int .i64 0,.int .u64 0]) 5] [])
 else(
 ck (xle (xadd nl 1) 1000000) <|
 ck (xle (xadd 0 (xmul nl 5)) (xln ls)) <|
 ck (xnn (xar .sub .i64 (↑k) 1)) <|
 ck (xle (xnat (xar .sub .i64 (↑k) 1)) k) <|
 K .normal [.any,.any,.any,.ptr 1 0,.slo 5 0 (xadd nl 1) 0,.slo 3 0 (xsub (xnat (xar .sub .i64 (↑k) 1)) 0) 0,.any,.any,.any,.any,.any,.any,.any,.any,.any,.any,.any,.any,.any] [some (.ro ks),sN [.nils],sD,sC os 1,sN [.int .i64 19,.int .i64 0,.int .i64 0,.int .i64 0,.int .u64 0],sC (xcat (xcut ls 0 (xmul nl 5)) [.int .i64 19,.int .i64 0,.int .i64 0,.int .i64 0,.int .u64 0]) 5] [])))
 else(
 K (.exit 3) [.any,.any,.any,.ptr 1 0,.slo 2 0 nl 0,.slo 3 0 k 0,.any,.any,.any,.any,.any,.any,.any,.any,.any,.any,.any,.any,.any] [some (.ro ks),sN [.nils],sC ls 5,sC os 1] [])):=by kernel_rfl
theorem pg_z (nl:Nat) (ks ls os:List LV) (K:Pk):(xsp prog cxPy 60 226 (pgF.drop 6) (mkTm 226 (pgV nl)) (mkS (pgH ks ls os)) (vK pgL K))=(
 bif xcm .eql (↑nl) 0 then(
 ck (xle (xadd nl 1) 1000000) <|
 ck (xle (xadd 0 (xmul nl 5)) (xln ls)) <|
 K .ret [.any,.any,.any,.ptr 1 0,.slo 5 0 (xadd nl 1) 0,.any,.any,.any,.any,.any,.any,.any,.any,.any,.any,.any,.any,.any,.any] [some (.ro ks),sN [.slo 5 0 (xadd nl 1) 0],sD,sC os 1,sN [.int .i64 1,.int .i64 0,.int .i64 0,.int .i64 0,.int .u64 1],sC (xcat (xcut ls 0 (xmul nl 5)) [.int .i64 1,.int .i64 0,.int .i64 0,.int .i64 0,.int .u64 1]) 5] [])
 else(
 K .ret [.any,.any,.any,.ptr 1 0,.slo 2 0 nl 0,.any,.any,.any,.any,.any,.any,.any,.any,.any,.any,.any,.any,.any,.any] [some (.ro ks),sN [.slo 2 0 nl 0],sC ls 5,sC os 1] [])):=by kernel_rfl
end
end Go.Lev
