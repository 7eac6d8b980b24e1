/- chapter 11: contracts of Lists and Same; trees of ArenaWords -/
import Derived.Test.YtkbaelndiimmpaaGreatDoorCW7
import Derived.Test.YtkbaelndiimmpaaGreatDoorLc
import Derived.Test.YtkbaelndiimmpaaGreatDoorChecked
import Derived.KernelRfl
namespace Go.Lev
set_option linter.unusedSimpArgs false
set_option linter.unusedVariables false
open Go.RowKit
open Go.Proofs.Tryz (prog)
set_option maxRecDepth 100000
noncomputable section
theorem bq_self (b:Bool):xbq b b=true:=by rw [wd_bq]; simp
def lgW (wc:List LV) (n:Nat):Bool:=@decide (∃ us:List Int,wc=encL (cI .u64) us∧n=us.length∧us.length≤100000∧inU us∧(lsAll us).isSome=true) (Classical.propDecidable _)
def lbW (wc:List LV) (n:Nat):Bool:=@decide (∃ us:List Int,wc=encL (cI .u64) us∧n=us.length∧us.length≤100000∧inU us∧lsAll us=none) (Classical.propDecidable _)
def lsD (wc:List LV):Row×Row×Row×Row:=(lsAll (decIu64 wc)).getD ([],[],[],[])
def lc1 (wc:List LV):List LV:=encL (cI .i64) (lsD wc).1
def ln1 (wc:List LV):Nat:=(lsD wc).1.length
def lc2 (wc:List LV):List LV:=encL (cI .i64) (lsD wc).2.1
def ln2 (wc:List LV):Nat:=(lsD wc).2.1.length
def lc3 (wc:List LV):List LV:=encL (cI .i64) (lsD wc).2.2.1
def ln3 (wc:List LV):Nat:=(lsD wc).2.2.1.length
def lc4 (wc:List LV):List LV:=encL (cI .i64) (lsD wc).2.2.2
def ln4 (wc:List LV):Nat:=(lsD wc).2.2.2.length
theorem lgW_iff {wc:List LV} {n:Nat}:lgW wc n=true↔∃ us:List Int,wc=encL (cI .u64) us∧n=us.length∧us.length≤100000∧inU us∧(lsAll us).isSome=true:=by simp only [lgW,decide_eq_true_eq]
theorem lbW_iff {wc:List LV} {n:Nat}:lbW wc n=true↔∃ us:List Int,wc=encL (cI .u64) us∧n=us.length∧us.length≤100000∧inU us∧lsAll us=none:=by simp only [lbW,decide_eq_true_eq]
theorem lg_no {wc:List LV} {n:Nat} (k:lgW wc n=true):noIds wc=true:=by obtain⟨_,e,_⟩:=lgW_iff.1 k; rw [e]; exact noIds_Iu64 _
theorem lb_no {wc:List LV} {n:Nat} (k:lbW wc n=true):noIds wc=true:=by obtain⟨_,e,_⟩:=lbW_iff.1 k; rw [e]; exact noIds_Iu64 _
abbrev lsR (wc:List LV):List LB:=[.ro wc,.cells [.slo 2 0 (ln1 wc) 0,.slo 3 0 (ln2 wc) 0,.slo 4 0 (ln3 wc) 0,.slo 5 0 (ln4 wc) 0] (some 1),.cells (lc1 wc) (some 1),.cells (lc2 wc) (some 1),.cells (lc3 wc) (some 1),.cells (lc4 wc) (some 1)]
theorem lsR_eq {us:Row} {a b c d:Row} (h:lsAll us=some (a,b,c,d)):lsR (encL (cI .u64) us)=rw5 us a b c d:=by
 simp only [lsR,ln1,ln2,ln3,ln4,lc1,lc2,lc3,lc4,lsD,decIu64_enc,h,Option.getD_some]
theorem li_g (wc:List LV) (n:Nat) (k1:lgW wc n=true):SFun prog 15 [.slo 0 0 n 0] (mkS [.ro wc]) fun l t=>l=.tup [.slo 1 0 4 0,.int .i64 0]∧t=mkS (lsR wc):=by
 obtain⟨us,rfl,rfl,h1,h2,h3⟩:=lgW_iff.1 k1
 refine SFun.mono (ls_ok us h2 h1) fun l t ⟨b,hb,ht⟩=>?_
 rcases hb with⟨q,_⟩ | ⟨r1,r2,r3,r4,q,q2,q3⟩
 ·rw [q] at h3; cases h3
 ·exact⟨q2,by rw [lsR_eq q,ht,q3]⟩
theorem li_b (wc:List LV) (n:Nat) (k1:lbW wc n=true):SFun prog 15 [.slo 0 0 n 0] (mkS [.ro wc]) fun l t=>l=.tup [.nils,.int .i64 12]∧t=mkS [.ro wc]:=by
 obtain⟨us,rfl,rfl,h1,h2,h3⟩:=lbW_iff.1 k1
 refine SFun.mono (ls_ok us h2 h1) fun l t ⟨b,hb,ht⟩=>?_
 rcases hb with⟨_,q2,q3⟩ | ⟨r1,r2,r3,r4,q,q2,q3⟩
 ·exact⟨q2,by rw [ht,q3]⟩
 ·rw [q] at h3; cases h3
theorem lo_g (wc:List LV) (n:Nat) (k1:lgW wc n=true):SFun prog 17 [.slo 0 0 n 0] (mkS [.ro wc]) fun l t=>l=.tup [.slo 1 0 4 0,.bool true]∧t=mkS (lsR wc):=by
 obtain⟨us,rfl,rfl,h1,h2,h3⟩:=lgW_iff.1 k1
 refine SFun.mono (oll_ok us h2 h1) fun l t ⟨b,hb,ht⟩=>?_
 rcases hb with⟨q,_⟩ | ⟨r1,r2,r3,r4,q,q2,q3⟩
 ·rw [q] at h3; cases h3
 ·exact⟨q2,by rw [lsR_eq q,ht,q3]⟩
theorem lo_b (wc:List LV) (n:Nat) (k1:lbW wc n=true):SFun prog 17 [.slo 0 0 n 0] (mkS [.ro wc]) fun l t=>l=.tup [.nils,.bool false]∧t=mkS [.ro wc]:=by
 obtain⟨us,rfl,rfl,h1,h2,h3⟩:=lbW_iff.1 k1
 refine SFun.mono (oll_ok us h2 h1) fun l t ⟨b,hb,ht⟩=>?_
 rcases hb with⟨_,q2,q3⟩ | ⟨r1,r2,r3,r4,q,q2,q3⟩
 ·exact⟨q2,by rw [ht,q3]⟩
 ·rw [q] at h3; cases h3
def ligG:Gc:=fun args s=>match args,s.g with
 | [.slo q 0 n 0],[]=>(match s.h.get q with
   | some (.ro wc)=>(match s.lay [q] [.ro wc] [.cells [.slo (Nat.succ s.n) 0 (ln1 wc) 0,.slo (Nat.succ (Nat.succ s.n)) 0 (ln2 wc) 0,.slo (Nat.succ (Nat.succ (Nat.succ s.n))) 0 (ln3 wc) 0,.slo (Nat.succ (Nat.succ (Nat.succ (Nat.succ s.n)))) 0 (ln4 wc) 0] (some 1),.cells (lc1 wc) (some 1),.cells (lc2 wc) (some 1),.cells (lc3 wc) (some 1),.cells (lc4 wc) (some 1)] with
     | some s'=>some ([lgW wc n],.tup [.slo s.n 0 4 0,.int .i64 0],s')
     | none=>none)
   | _=>none)
 | _,_=>none
theorem ligG_ok:GOk prog 15 ligG:=by
 intro args s bs l s' hg hb hfr
 unfold ligG at hg
 split at hg
 ·rename_i q n hgl
  split at hg
  ·rename_i wc hb0
   split at hg
   ·rename_i s1 hs1
    simp only [Option.some.injEq,Prod.mk.injEq] at hg
    obtain⟨rfl,rfl,rfl⟩:=hg
    simp only [allT_cons] at hb
    obtain⟨k1,_⟩:=hb
    have no:noIds wc=true:=lg_no k1
    refine SFun.lay (bs:=[.ro wc]) (args0:=[.slo 0 0 n 0]) (bs':=[.ro wc,.cells [.slo 2 0 (ln1 wc) 0,.slo 3 0 (ln2 wc) 0,.slo 4 0 (ln3 wc) 0,.slo 5 0 (ln4 wc) 0] (some 1),.cells (lc1 wc) (some 1),.cells (lc2 wc) (some 1),.cells (lc3 wc) (some 1),.cells (lc4 wc) (some 1)]) (v0:=.tup [.slo 1 0 4 0,.int .i64 0]) hfr hs1 (by simp)
     ⟨⟨there hfr hb0,_,hb0,lb_ro (by(exact zId)),fun κ hκ=>lb_ro (by(exact zId))⟩,trivial⟩ (by(exact zTl)) ?_
     fun κ h1 h2=>⟨⟨lb_ro (by(exact zId)),lb_cells (lws_cons (lw_slo (h2 1 (by simp))) (lws_cons (lw_slo (h2 2 (by simp))) (lws_cons (lw_slo (h2 3 (by simp))) (lws_cons (lw_slo (h2 4 (by simp))) lws_nil)))) (by simp),lb_same (noIds_Ii64 _),lb_same (noIds_Ii64 _),lb_same (noIds_Ii64 _),lb_same (noIds_Ii64 _),trivial⟩,(lw_tup (lws_cons (lw_slo (h2 0 (by simp))) (lws_cons (lw_int) lws_nil)))⟩
    rw [hgl]; exact(li_g wc n k1)
   ·cases hg
  ·cases hg
 ·cases hg
def logG:Gc:=fun args s=>match args,s.g with
 | [.slo q 0 n 0],[]=>(match s.h.get q with
   | some (.ro wc)=>(match s.lay [q] [.ro wc] [.cells [.slo (Nat.succ s.n) 0 (ln1 wc) 0,.slo (Nat.succ (Nat.succ s.n)) 0 (ln2 wc) 0,.slo (Nat.succ (Nat.succ (Nat.succ s.n))) 0 (ln3 wc) 0,.slo (Nat.succ (Nat.succ (Nat.succ (Nat.succ s.n)))) 0 (ln4 wc) 0] (some 1),.cells (lc1 wc) (some 1),.cells (lc2 wc) (some 1),.cells (lc3 wc) (some 1),.cells (lc4 wc) (some 1)] with
     | some s'=>some ([lgW wc n],.tup [.slo s.n 0 4 0,.bool true],s')
     | none=>none)
   | _=>none)
 | _,_=>none
theorem logG_ok:GOk prog 17 logG:=by
 intro args s bs l s' hg hb hfr
 unfold logG at hg
 split at hg
 ·rename_i q n hgl
  split at hg
  ·rename_i wc hb0
   split at hg
   ·rename_i s1 hs1
    simp only [Option.some.injEq,Prod.mk.injEq] at hg
    obtain⟨rfl,rfl,rfl⟩:=hg
    simp only [allT_cons] at hb
    obtain⟨k1,_⟩:=hb
    have no:noIds wc=true:=lg_no k1
    refine SFun.lay (bs:=[.ro wc]) (args0:=[.slo 0 0 n 0]) (bs':=[.ro wc,.cells [.slo 2 0 (ln1 wc) 0,.slo 3 0 (ln2 wc) 0,.slo 4 0 (ln3 wc) 0,.slo 5 0 (ln4 wc) 0] (some 1),.cells (lc1 wc) (some 1),.cells (lc2 wc) (some 1),.cells (lc3 wc) (some 1),.cells (lc4 wc) (some 1)]) (v0:=.tup [.slo 1 0 4 0,.bool true]) hfr hs1 (by simp)
     ⟨⟨there hfr hb0,_,hb0,lb_ro (by(exact zId)),fun κ hκ=>lb_ro (by(exact zId))⟩,trivial⟩ (by(exact zTl)) ?_
     fun κ h1 h2=>⟨⟨lb_ro (by(exact zId)),lb_cells (lws_cons (lw_slo (h2 1 (by simp))) (lws_cons (lw_slo (h2 2 (by simp))) (lws_cons (lw_slo (h2 3 (by simp))) (lws_cons (lw_slo (h2 4 (by simp))) lws_nil)))) (by simp),lb_same (noIds_Ii64 _),lb_same (noIds_Ii64 _),lb_same (noIds_Ii64 _),lb_same (noIds_Ii64 _),trivial⟩,(lw_tup (lws_cons (lw_slo (h2 0 (by simp))) (lws_cons (lw_bool) lws_nil)))⟩
    rw [hgl]; exact(lo_g wc n k1)
   ·cases hg
  ·cases hg
 ·cases hg
def libG:Gc:=fun args s=>match args,s.g with
 | [.slo q 0 n 0],[]=>(match s.h.get q with
   | some (.ro wc)=>(match s.lay [q] [.ro wc] [] with
     | some s'=>some ([lbW wc n],.tup [.nils,.int .i64 12],s')
     | none=>none)
   | _=>none)
 | _,_=>none
theorem libG_ok:GOk prog 15 libG:=by
 intro args s bs l s' hg hb hfr
 unfold libG at hg
 split at hg
 ·rename_i q n hgl
  split at hg
  ·rename_i wc hb0
   split at hg
   ·rename_i s1 hs1
    simp only [Option.some.injEq,Prod.mk.injEq] at hg
    obtain⟨rfl,rfl,rfl⟩:=hg
    simp only [allT_cons] at hb
    obtain⟨k1,_⟩:=hb
    have no:noIds wc=true:=lb_no k1
    refine SFun.lay (bs:=[.ro wc]) (args0:=[.slo 0 0 n 0]) (bs':=[.ro wc]) (v0:=.tup [.nils,.int .i64 12]) hfr hs1 (by simp)
     ⟨⟨there hfr hb0,_,hb0,lb_ro (by(exact zId)),fun κ hκ=>lb_ro (by(exact zId))⟩,trivial⟩ (by(exact zTl)) ?_
     fun κ h1 h2=>⟨⟨lb_ro (by(exact zId)),trivial⟩,lw_noid rfl⟩
    rw [hgl]; exact(li_b wc n k1)
   ·cases hg
  ·cases hg
 ·cases hg
def lobG:Gc:=fun args s=>match args,s.g with
 | [.slo q 0 n 0],[]=>(match s.h.get q with
   | some (.ro wc)=>(match s.lay [q] [.ro wc] [] with
     | some s'=>some ([lbW wc n],.tup [.nils,.bool false],s')
     | none=>none)
   | _=>none)
 | _,_=>none
theorem lobG_ok:GOk prog 17 lobG:=by
 intro args s bs l s' hg hb hfr
 unfold lobG at hg
 split at hg
 ·rename_i q n hgl
  split at hg
  ·rename_i wc hb0
   split at hg
   ·rename_i s1 hs1
    simp only [Option.some.injEq,Prod.mk.injEq] at hg
    obtain⟨rfl,rfl,rfl⟩:=hg
    simp only [allT_cons] at hb
    obtain⟨k1,_⟩:=hb
    have no:noIds wc=true:=lb_no k1
    refine SFun.lay (bs:=[.ro wc]) (args0:=[.slo 0 0 n 0]) (bs':=[.ro wc]) (v0:=.tup [.nils,.bool false]) hfr hs1 (by simp)
     ⟨⟨there hfr hb0,_,hb0,lb_ro (by(exact zId)),fun κ hκ=>lb_ro (by(exact zId))⟩,trivial⟩ (by(exact zTl)) ?_
     fun κ h1 h2=>⟨⟨lb_ro (by(exact zId)),trivial⟩,lw_noid rfl⟩
    rw [hgl]; exact(lo_b wc n k1)
   ·cases hg
  ·cases hg
 ·cases hg
end
end Go.Lev
