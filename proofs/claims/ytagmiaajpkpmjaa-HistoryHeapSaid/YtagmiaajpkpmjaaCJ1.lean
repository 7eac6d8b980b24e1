/- chapter 29: which attempt stands ahead -/
import Derived.Test.YtagmiaajpkpmjaaLc
import Derived.Test.YtagmiaajpkpmjaaChecked
import Derived.KernelRfl
namespace Go.Lev
set_option linter.unusedSimpArgs false
set_option linter.unusedVariables false
open Go.RowKit
open Go.Proofs.Try (prog)
set_option maxRecDepth 100000
noncomputable section
theorem nanu64_x (x:Int) (K:Fk):(xfun prog (fun _=>none) 40 26 [.int .u64 x] (mkS []) (vF K))=(
 K (.bool (xcm .neq x x)) [] []):=by kernel_rfl
theorem nanu64_ok (x:Int):SFun prog 26 [.int .u64 x] (mkS []) fun l s=>l=.bool false∧s=mkS []:=by
 refine SFun.mono (SFun.vc (Q:=fun l b=>l=.bool false∧b=[]) noCx_ok (n:=40) 0 rfl ?_) fun l s' ⟨b0,⟨h1,h2⟩,h3⟩=>⟨h1,by rw [h3,h2]⟩
 rw [nanu64_x,show xcm .neq x x=false from f_neq rfl]
 exact⟨rfl,_,[],[],⟨rfl,rfl⟩,by(exact zC)⟩
def nanu64G:Gc:=fun args s=>match args,s.g with
 | [.int .u64 x],[]=>(match s.lay [] [] [] with
   | some s'=>some ([],.bool false,s')
   | none=>none)
 | _,_=>none
theorem nanu64G_ok:GOk prog 26 nanu64G:=by
 intro args s bs l s' hg hb hfr
 unfold nanu64G at hg
 split at hg
 ·rename_i x hgl
  split at hg
  ·rename_i s1 hs1
   simp only [Option.some.injEq,Prod.mk.injEq] at hg
   obtain⟨rfl,rfl,rfl⟩:=hg
   refine SFun.lay (bs:=[]) (args0:=[.int .u64 x]) (bs':=[]) (v0:=.bool false) hfr hs1 (by simp)
    trivial (by(exact zTl)) ?_
    fun κ h1 h2=>⟨trivial,lw_bool⟩
   rw [hgl]; exact(nanu64_ok x)
  ·cases hg
 ·cases hg
theorem nani64_x (x:Int) (K:Fk):(xfun prog (fun _=>none) 40 27 [.int .i64 x] (mkS []) (vF K))=(
 K (.bool (xcm .neq x x)) [] []):=by kernel_rfl
theorem nani64_ok (x:Int):SFun prog 27 [.int .i64 x] (mkS []) fun l s=>l=.bool false∧s=mkS []:=by
 refine SFun.mono (SFun.vc (Q:=fun l b=>l=.bool false∧b=[]) noCx_ok (n:=40) 0 rfl ?_) fun l s' ⟨b0,⟨h1,h2⟩,h3⟩=>⟨h1,by rw [h3,h2]⟩
 rw [nani64_x,show xcm .neq x x=false from f_neq rfl]
 exact⟨rfl,_,[],[],⟨rfl,rfl⟩,by(exact zC)⟩
def nani64G:Gc:=fun args s=>match args,s.g with
 | [.int .i64 x],[]=>(match s.lay [] [] [] with
   | some s'=>some ([],.bool false,s')
   | none=>none)
 | _,_=>none
theorem nani64G_ok:GOk prog 27 nani64G:=by
 intro args s bs l s' hg hb hfr
 unfold nani64G at hg
 split at hg
 ·rename_i x hgl
  split at hg
  ·rename_i s1 hs1
   simp only [Option.some.injEq,Prod.mk.injEq] at hg
   obtain⟨rfl,rfl,rfl⟩:=hg
   refine SFun.lay (bs:=[]) (args0:=[.int .i64 x]) (bs':=[]) (v0:=.bool false) hfr hs1 (by simp)
    trivial (by(exact zTl)) ?_
    fun κ h1 h2=>⟨trivial,lw_bool⟩
   rw [hgl]; exact(nani64_ok x)
  ·cases hg
 ·cases hg
def c3 (x y:Int):Int:=if x < y then -1 else if y < x then 1 else 0
def cxn:Cx:=cxl [(26,nanu64G),(27,nani64G)]
theorem cxn_ok:CtrOk prog (ctrOf cxn):=cxl_ok ⟨nanu64G_ok,nani64G_ok,trivial⟩
theorem cpu64_x (x y:Int) (K:Fk):(xfun prog cxn 40 21 [.int .u64 x,.int .u64 y] (mkS []) (vF K))=(
 bif xcm .lss x y then(
 K (.int .i64 (-1)) [] [])
 else(
 bif xcm .gtr x y then(
 K (.int .i64 1) [] [])
 else(
 K (.int .i64 0) [] []))):=by kernel_rfl
theorem cpu64_ok (x y:Int):SFun prog 21 [.int .u64 x,.int .u64 y] (mkS []) fun l s=>l=.int .i64 (c3 x y)∧s=mkS []:=by
 refine SFun.mono (SFun.vc (Q:=fun l b=>l=.int .i64 (c3 x y)∧b=[]) cxn_ok (n:=40) 0 rfl ?_) fun l s' ⟨b0,⟨h1,h2⟩,h3⟩=>⟨h1,by rw [h3,h2]⟩
 rw [cpu64_x]
 unfold c3
 by_cases h1:x < y
 ·rw [if_pos h1]
  (refine zR ?_)
  exact⟨rfl,_,[],[],⟨rfl,rfl⟩,by(exact zC)⟩
 ·rw [if_neg h1]
  by_cases h2:y < x
  ·rw [if_pos h2]
   (refine zR ?_)
   exact⟨rfl,_,[],[],⟨rfl,rfl⟩,by(exact zC)⟩
  ·rw [if_neg h2]
   (refine zR ?_)
   exact⟨rfl,_,[],[],⟨rfl,rfl⟩,by(exact zC)⟩
def cpu64G:Gc:=fun args s=>match args,s.g with
 | [.int .u64 x,.int .u64 y],[]=>(match s.lay [] [] [] with
   | some s'=>some ([],.int .i64 (c3 x y),s')
   | none=>none)
 | _,_=>none
theorem cpu64G_ok:GOk prog 21 cpu64G:=by
 intro args s bs l s' hg hb hfr
 unfold cpu64G at hg
 split at hg
 ·rename_i x y hgl
  split at hg
  ·rename_i s1 hs1
   simp only [Option.some.injEq,Prod.mk.injEq] at hg
   obtain⟨rfl,rfl,rfl⟩:=hg
   refine SFun.lay (bs:=[]) (args0:=[.int .u64 x,.int .u64 y]) (bs':=[]) (v0:=.int .i64 (c3 x y)) hfr hs1 (by simp)
    trivial (by(exact zTl)) ?_
    fun κ h1 h2=>⟨trivial,lw_int⟩
   rw [hgl]; exact(cpu64_ok x y)
  ·cases hg
 ·cases hg
theorem cpi64_x (x y:Int) (K:Fk):(xfun prog cxn 40 23 [.int .i64 x,.int .i64 y] (mkS []) (vF K))=(
 bif xcm .lss x y then(
 K (.int .i64 (-1)) [] [])
 else(
 bif xcm .gtr x y then(
 K (.int .i64 1) [] [])
 else(
 K (.int .i64 0) [] []))):=by kernel_rfl
theorem cpi64_ok (x y:Int):SFun prog 23 [.int .i64 x,.int .i64 y] (mkS []) fun l s=>l=.int .i64 (c3 x y)∧s=mkS []:=by
 refine SFun.mono (SFun.vc (Q:=fun l b=>l=.int .i64 (c3 x y)∧b=[]) cxn_ok (n:=40) 0 rfl ?_) fun l s' ⟨b0,⟨h1,h2⟩,h3⟩=>⟨h1,by rw [h3,h2]⟩
 rw [cpi64_x]
 unfold c3
 by_cases h1:x < y
 ·rw [if_pos h1]
  (refine zR ?_)
  exact⟨rfl,_,[],[],⟨rfl,rfl⟩,by(exact zC)⟩
 ·rw [if_neg h1]
  by_cases h2:y < x
  ·rw [if_pos h2]
   (refine zR ?_)
   exact⟨rfl,_,[],[],⟨rfl,rfl⟩,by(exact zC)⟩
  ·rw [if_neg h2]
   (refine zR ?_)
   exact⟨rfl,_,[],[],⟨rfl,rfl⟩,by(exact zC)⟩
def cpi64G:Gc:=fun args s=>match args,s.g with
 | [.int .i64 x,.int .i64 y],[]=>(match s.lay [] [] [] with
   | some s'=>some ([],.int .i64 (c3 x y),s')
   | none=>none)
 | _,_=>none
theorem cpi64G_ok:GOk prog 23 cpi64G:=by
 intro args s bs l s' hg hb hfr
 unfold cpi64G at hg
 split at hg
 ·rename_i x y hgl
  split at hg
  ·rename_i s1 hs1
   simp only [Option.some.injEq,Prod.mk.injEq] at hg
   obtain⟨rfl,rfl,rfl⟩:=hg
   refine SFun.lay (bs:=[]) (args0:=[.int .i64 x,.int .i64 y]) (bs':=[]) (v0:=.int .i64 (c3 x y)) hfr hs1 (by simp)
    trivial (by(exact zTl)) ?_
    fun κ h1 h2=>⟨trivial,lw_int⟩
   rw [hgl]; exact(cpi64_ok x y)
  ·cases hg
 ·cases hg
def wrW (k:Int) (v:Value):Bool:=decide (k=2) && decide (0 < xvl v)
abbrev wr_x_b1 (a0:Int) (a1:Int) (a2:Int) (a3:Bool) (a4:Int) (a5:Int) (a6:Int) (a7:Int) (a8:Int) (a9:Int) (ar:Value) (ac:Value) (af:Value) (al:List UInt8):List (Option LB):=[sN [.int .i64 a0,.int .i64 a1,.int .i64 a2,.bool a3,.int .i64 a4,.int .i64 a5,.int .u64 a6,.int .u64 a7,.int .i64 a8,.int .i64 a9,.val ar,.val ac,.val af,.str al]]
theorem wr_x (a0 a1 a2:Int) (a3:Bool) (a4 a5 a6 a7 a8 a9:Int) (ar ac af:Value) (al:List UInt8) (K:Fk):(xfun prog (fun _=>none) 40 22 [.agg [.int .i64 a0,.int .i64 a1,.int .i64 a2,.bool a3,.int .i64 a4,.int .i64 a5,.int .u64 a6,.int .u64 a7,.int .i64 a8,.int .i64 a9,.val ar,.val ac,.val af,.str al]] (mkS []) (vF K))=(
 bif xcm .eql a4 2 then(
 K (.bool (xcm .gtr (↑(xvl ac)) 0)) (wr_x_b1 a0 a1 a2 a3 a4 a5 a6 a7 a8 a9 ar ac af al) [])
 else(
 K (.bool false) (wr_x_b1 a0 a1 a2 a3 a4 a5 a6 a7 a8 a9 ar ac af al) [])):=by kernel_rfl
theorem wr_ok (a0 a1 a2:Int) (a3:Bool) (a4 a5 a6 a7 a8 a9:Int) (ar ac af:Value) (al:List UInt8):SFun prog 22 [.agg [.int .i64 a0,.int .i64 a1,.int .i64 a2,.bool a3,.int .i64 a4,.int .i64 a5,.int .u64 a6,.int .u64 a7,.int .i64 a8,.int .i64 a9,.val ar,.val ac,.val af,.str al]] (mkS []) fun l s=>l=.bool (wrW a4 ac)∧s=mkS []:=by
 refine SFun.mono (SFun.vc (Q:=fun l b=>l=.bool (wrW a4 ac)∧b=[]) noCx_ok (n:=40) 0 rfl ?_) fun l s' ⟨b0,⟨h1,h2⟩,h3⟩=>⟨h1,by rw [h3,h2]⟩
 rw [wr_x]
 unfold wrW
 by_cases h1:a4=2
 ·by_cases h2:0 < xvl ac
  ·rw [decide_eq_true h1,decide_eq_true h2,show xcm .gtr ((xvl ac:Nat):Int) 0=true from t_gtr (by omega)]
   (refine zR ?_)
   exact⟨rfl,_,[],[],⟨rfl,rfl⟩,by(exact zC)⟩
  ·rw [decide_eq_true h1,decide_eq_false h2,show xcm .gtr ((xvl ac:Nat):Int) 0=false from f_gtr (by omega)]
   (refine zR ?_)
   exact⟨rfl,_,[],[],⟨rfl,rfl⟩,by(exact zC)⟩
 ·rw [decide_eq_false h1,Bool.false_and]
  (refine zR ?_)
  exact⟨rfl,_,[],[],⟨rfl,rfl⟩,by(exact zC)⟩
def wrG:Gc:=fun args s=>match args,s.g with
 | [.agg [.int .i64 a0,.int .i64 a1,.int .i64 a2,.bool a3,.int .i64 a4,.int .i64 a5,.int .u64 a6,.int .u64 a7,.int .i64 a8,.int .i64 a9,.val ar,.val ac,.val af,.str al]],[]=>(match s.lay [] [] [] with
   | some s'=>some ([],.bool (wrW a4 ac),s')
   | none=>none)
 | _,_=>none
theorem wrG_ok:GOk prog 22 wrG:=by
 intro args s bs l s' hg hb hfr
 unfold wrG at hg
 split at hg
 ·rename_i a0 a1 a2 a3 a4 a5 a6 a7 a8 a9 ar ac af al hgl
  split at hg
  ·rename_i s1 hs1
   simp only [Option.some.injEq,Prod.mk.injEq] at hg
   obtain⟨rfl,rfl,rfl⟩:=hg
   refine SFun.lay (bs:=[]) (args0:=[.agg [.int .i64 a0,.int .i64 a1,.int .i64 a2,.bool a3,.int .i64 a4,.int .i64 a5,.int .u64 a6,.int .u64 a7,.int .i64 a8,.int .i64 a9,.val ar,.val ac,.val af,.str al]]) (bs':=[]) (v0:=.bool (wrW a4 ac)) hfr hs1 (by simp)
    trivial (by(exact zTl)) ?_
    fun κ h1 h2=>⟨trivial,lw_bool⟩
   rw [hgl]; exact(wr_ok a0 a1 a2 a3 a4 a5 a6 a7 a8 a9 ar ac af al)
  ·cases hg
 ·cases hg
theorem hq_i (x:Int):xcm .eql x x=true:=t_eql rfl
theorem hq_b (x:Bool):xbq x x=true:=by rw [wd_bq]; simp
theorem hq_s (x:List UInt8):xstr .eql x x=true:=by simp [xstr,lstrs]
theorem hq_v (x:Value):xveq x x=true:=by simp [xveq]
theorem hq_t:xbq true true=true:=rfl
theorem hq_f:xbq false false=true:=rfl
theorem hq_n1:xbq true false=false:=rfl
theorem hq_n2:xbq false true=false:=rfl
def cmW (k:Int) (s b:Int) (v:Value) (k' s' b':Int) (v':Value):Int:=if s=s' then(if wrW k v=wrW k' v' then c3 b b' else if wrW k v=true then -1 else 1) else c3 s s'
def cxc:Cx:=cxl [(21,cpu64G),(23,cpi64G),(22,wrG)]
theorem cxc_ok:CtrOk prog (ctrOf cxc):=cxl_ok ⟨cpu64G_ok,cpi64G_ok,wrG_ok,trivial⟩
abbrev cm_x_b1 (a0:Int) (a1:Int) (a2:Int) (a3:Bool) (a4:Int) (a5:Int) (a6:Int) (a7:Int) (a8:Int) (a9:Int) (ar:Value) (ac:Value) (af:Value) (al:List UInt8) (b0:Int) (b1:Int) (b2:Int) (b3:Bool) (b4:Int) (b5:Int) (b6:Int) (b7:Int) (b8:Int) (b9:Int) (br:Value) (bc:Value) (bf:Value) (bl:List UInt8):List (Option LB):=[sN [.int .i64 a0,.int .i64 a1,.int .i64 a2,.bool a3,.int .i64 a4,.int .i64 a5,.int .u64 a6,.int .u64 a7,.int .i64 a8,.int .i64 a9,.val ar,.val ac,.val af,.str al],sN [.int .i64 b0,.int .i64 b1,.int .i64 b2,.bool b3,.int .i64 b4,.int .i64 b5,.int .u64 b6,.int .u64 b7,.int .i64 b8,.int .i64 b9,.val br,.val bc,.val bf,.str bl]]
theorem cm_x (a0 a1 a2:Int) (a3:Bool) (a4 a5 a6 a7 a8 a9:Int) (ar ac af:Value) (al:List UInt8) (b0 b1 b2:Int) (b3:Bool) (b4 b5 b6 b7 b8 b9:Int) (br bc bf:Value) (bl:List UInt8) (K:Fk):(xfun prog cxc 40 17 [.agg [.int .i64 a0,.int .i64 a1,.int .i64 a2,.bool a3,.int .i64 a4,.int .i64 a5,.int .u64 a6,.int .u64 a7,.int .i64 a8,.int .i64 a9,.val ar,.val ac,.val af,.str al],.agg [.int .i64 b0,.int .i64 b1,.int .i64 b2,.bool b3,.int .i64 b4,.int .i64 b5,.int .u64 b6,.int .u64 b7,.int .i64 b8,.int .i64 b9,.val br,.val bc,.val bf,.str bl]] (mkS []) (vF K))=(
 bif xcm .neq a7 b7 then(
 K (.int .i64 (c3 a7 b7)) (cm_x_b1 a0 a1 a2 a3 a4 a5 a6 a7 a8 a9 ar ac af al b0 b1 b2 b3 b4 b5 b6 b7 b8 b9 br bc bf bl) [])
 else(
 ck (xcm .eql b0 b0) <|
 ck (xcm .eql b1 b1) <|
 ck (xcm .eql b2 b2) <|
 ck (xbq b3 b3) <|
 ck (xcm .eql b4 b4) <|
 ck (xcm .eql b5 b5) <|
 ck (xcm .eql b6 b6) <|
 ck (xcm .eql b7 b7) <|
 ck (xcm .eql b8 b8) <|
 ck (xcm .eql b9 b9) <|
 ck (xveq br br) <|
 ck (xveq bc bc) <|
 ck (xveq bf bf) <|
 ck (xstr .eql bl bl) <|
 ck (xcm .eql b0 b0) <|
 ck (xcm .eql b1 b1) <|
 ck (xcm .eql b2 b2) <|
 ck (xbq b3 b3) <|
 ck (xcm .eql b4 b4) <|
 ck (xcm .eql b5 b5) <|
 ck (xcm .eql b6 b6) <|
 ck (xcm .eql b7 b7) <|
 ck (xcm .eql b8 b8) <|
 ck (xcm .eql b9 b9) <|
 ck (xveq br br) <|
 ck (xveq bc bc) <|
 ck (xveq bf bf) <|
 ck (xstr .eql bl bl) <|
 bif xnot (xbq (wrW a4 ac) (wrW b4 bc)) then(
 bif wrW a4 ac then(
 K (.int .i64 (-1)) (cm_x_b1 a0 a1 a2 a3 a4 a5 a6 a7 a8 a9 ar ac af al b0 b1 b2 b3 b4 b5 b6 b7 b8 b9 br bc bf bl) [])
 else(
 K (.int .i64 1) (cm_x_b1 a0 a1 a2 a3 a4 a5 a6 a7 a8 a9 ar ac af al b0 b1 b2 b3 b4 b5 b6 b7 b8 b9 br bc bf bl) []))
 else(
 K (.int .i64 (c3 a8 b8)) (cm_x_b1 a0 a1 a2 a3 a4 a5 a6 a7 a8 a9 ar ac af al b0 b1 b2 b3 b4 b5 b6 b7 b8 b9 br bc bf bl) []))):=by kernel_rfl
theorem cm_ok (a0 a1 a2:Int) (a3:Bool) (a4 a5 a6 a7 a8 a9:Int) (ar ac af:Value) (al:List UInt8) (b0 b1 b2:Int) (b3:Bool) (b4 b5 b6 b7 b8 b9:Int) (br bc bf:Value) (bl:List UInt8):SFun prog 17 [.agg [.int .i64 a0,.int .i64 a1,.int .i64 a2,.bool a3,.int .i64 a4,.int .i64 a5,.int .u64 a6,.int .u64 a7,.int .i64 a8,.int .i64 a9,.val ar,.val ac,.val af,.str al],.agg [.int .i64 b0,.int .i64 b1,.int .i64 b2,.bool b3,.int .i64 b4,.int .i64 b5,.int .u64 b6,.int .u64 b7,.int .i64 b8,.int .i64 b9,.val br,.val bc,.val bf,.str bl]] (mkS []) fun l s=>l=.int .i64 (cmW a4 a7 a8 ac b4 b7 b8 bc)∧s=mkS []:=by
 refine SFun.mono (SFun.vc (Q:=fun l b=>l=.int .i64 (cmW a4 a7 a8 ac b4 b7 b8 bc)∧b=[]) cxc_ok (n:=40) 0 rfl ?_) fun l s' ⟨b0,⟨h1,h2⟩,h3⟩=>⟨h1,by rw [h3,h2]⟩
 rw [cm_x]
 unfold cmW
 by_cases h1:a7=b7
 ·rw [if_pos h1,show xcm .neq a7 b7=false from f_neq h1]
  simp only [hq_i,hq_b,hq_s,hq_v,cond_true]
  cases h2:wrW a4 ac <;> cases h3:wrW b4 bc <;> simp only [hq_t,hq_f,hq_n1,hq_n2,wd_not_t,wd_not_f,if_true,if_false,cond_true,cond_false,reduceCtorEq] <;> exact⟨rfl,_,[],[],⟨rfl,rfl⟩,by(exact zC)⟩
 ·rw [if_neg h1,show xcm .neq a7 b7=true from t_neq h1]
  exact⟨rfl,_,[],[],⟨rfl,rfl⟩,by(exact zC)⟩
def cmG:Gc:=fun args s=>match args,s.g with
 | [.agg [.int .i64 a0,.int .i64 a1,.int .i64 a2,.bool a3,.int .i64 a4,.int .i64 a5,.int .u64 a6,.int .u64 a7,.int .i64 a8,.int .i64 a9,.val ar,.val ac,.val af,.str al],.agg [.int .i64 b0,.int .i64 b1,.int .i64 b2,.bool b3,.int .i64 b4,.int .i64 b5,.int .u64 b6,.int .u64 b7,.int .i64 b8,.int .i64 b9,.val br,.val bc,.val bf,.str bl]],[]=>(match s.lay [] [] [] with
   | some s'=>some ([],.int .i64 (cmW a4 a7 a8 ac b4 b7 b8 bc),s')
   | none=>none)
 | _,_=>none
theorem cmG_ok:GOk prog 17 cmG:=by
 intro args s bs l s' hg hb hfr
 unfold cmG at hg
 split at hg
 ·rename_i a0 a1 a2 a3 a4 a5 a6 a7 a8 a9 ar ac af al b0 b1 b2 b3 b4 b5 b6 b7 b8 b9 br bc bf bl hgl
  split at hg
  ·rename_i s1 hs1
   simp only [Option.some.injEq,Prod.mk.injEq] at hg
   obtain⟨rfl,rfl,rfl⟩:=hg
   refine SFun.lay (bs:=[]) (args0:=[.agg [.int .i64 a0,.int .i64 a1,.int .i64 a2,.bool a3,.int .i64 a4,.int .i64 a5,.int .u64 a6,.int .u64 a7,.int .i64 a8,.int .i64 a9,.val ar,.val ac,.val af,.str al],.agg [.int .i64 b0,.int .i64 b1,.int .i64 b2,.bool b3,.int .i64 b4,.int .i64 b5,.int .u64 b6,.int .u64 b7,.int .i64 b8,.int .i64 b9,.val br,.val bc,.val bf,.str bl]]) (bs':=[]) (v0:=.int .i64 (cmW a4 a7 a8 ac b4 b7 b8 bc)) hfr hs1 (by simp)
    trivial (by(exact zTl)) ?_
    fun κ h1 h2=>⟨trivial,lw_int⟩
   rw [hgl]; exact(cm_ok a0 a1 a2 a3 a4 a5 a6 a7 a8 a9 ar ac af al b0 b1 b2 b3 b4 b5 b6 b7 b8 b9 br bc bf bl)
  ·cases hg
 ·cases hg
end
end Go.Lev
