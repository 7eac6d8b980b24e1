/- chapter 11: contracts of Lists and Same; trees of ArenaWords -/
import Derived.Test.YtopbikapcboigaaCW7
import Derived.Test.YtopbikapcboigaaLc
import Derived.Test.YtopbikapcboigaaChecked
import Derived.KernelRfl
namespace Go.Lev
set_option linter.unusedSimpArgs false
set_option linter.unusedVariables false
open Go.RowKit
open Go.Proofs.Try (prog)
set_option maxRecDepth 100000
noncomputable section
theorem cmq (x:Int):xcm .eql x x=true:=t_eql rfl
theorem bq_self (b:Bool):xbq b b=true:=by rw [wd_bq]; simp
theorem an_tt:xand true true=true:=rfl
theorem sb_ok (xs:List Blk) (hn:xs.length≤1000000):SFun prog 33 [.slo 0 0 xs.length 0,.slo 1 0 xs.length 0] (mkS (sb_H (encL cB3 xs))) fun l s=>l=.bool true∧s=mkS (sb_H (encL cB3 xs)):=by
 refine SFun.mono (SFun.pieces (Q:=fun l b=>l=.bool true∧b=sb_H (encL cB3 xs)) 26 2 sb_L [4] (by kernel_rfl) rfl rfl rfl ?_) fun l s' ⟨b0,⟨h1,h2⟩,h3⟩=>⟨h1,by rw [h3,h2]⟩
 have nb:=noids_b3 xs; have lb:=b3_n xs
 refine SSp.to noCx_ok (n:=40) (g:=[]) 4 4 rfl (σ:=Unit) (fun _=>sb_T xs.length 0) (fun _=>sb_H (encL cB3 xs)) (mkS_le (Nat.le_refl _)) (by kernel_rfl) ?_ fun _=>?_
 ·rw [sb__a,f_neq rfl,cond_false]
  exact⟨rfl,(),[.id 0,.id 1],by(exact zC)⟩
 refine SSp.code_to (g:=[]) 5 rfl (σ:=Unit) (fun _=>[]) (fun _=>sb_H (encL cB3 xs)) (by kernel_rfl) ?_ fun _=>?_
 ·refine SCode.loop_vc noCx_ok (n:=40) (n0:=2) 0 (by kernel_rfl) (σ:={k:Nat // k≤xs.length}) (fun k=>sb_T xs.length k.1) (fun _=>sb_H (encL cB3 xs)) (fun k=>xs.length - k.1) (fun _=>Nat.le_refl _) (fun⟨k,hk⟩=>?_) ⟨0,Nat.zero_le _⟩
  dsimp only
  rw [sb__b,wd_lss]
  refine ite_way (fun h0=>?_) (fun h0=>⟨rfl,(),[.id 0,.id 1],by(exact zC)⟩)
  have e3:xar .add .i64 (k:Int) 1=((k+1:Nat):Int):=inc_i64 h0 (by omega)
  (refine zN8 (b3_0 h0) (b3_1 h0) (b3_2' h0) @lb @e3 @cmq @bq_self @an_tt ?_)
  (refine zR ?_)
  exact⟨rfl,⟨k+1,h0⟩,by simp only; omega,[.id 0,.id 1],by(exact zC)⟩
 refine SSp.last noCx_ok (n:=40) (mkS_le (Nat.le_refl _)) ?_
 rw [sb__z]
 exact⟨trivial,rfl,_,_,[.id 0,.id 1],⟨rfl,rfl⟩,by(exact zC)⟩
def okE3 (cs ds:List LV) (n m:Nat):Bool:=@decide (∃ xs:List Blk,cs=encL cB3 xs∧ds=cs∧n=xs.length∧m=n∧n≤1000000) (Classical.propDecidable _)
theorem okE3_iff {cs ds:List LV} {n m:Nat}:okE3 cs ds n m=true↔∃ xs:List Blk,cs=encL cB3 xs∧ds=cs∧n=xs.length∧m=n∧n≤1000000:=by simp only [okE3,decide_eq_true_eq]
theorem okE3_enc {xs:List Blk} (h:xs.length≤1000000):okE3 (encL cB3 xs) (encL cB3 xs) xs.length xs.length=true:=okE3_iff.2 ⟨xs,rfl,rfl,rfl,rfl,h⟩
theorem sb_c (cs ds:List LV) (n m:Nat) (k1:okE3 cs ds n m=true):SFun prog 33 [.slo 0 0 n 0,.slo 1 0 m 0] (mkS [.cells cs (some 3),.cells ds (some 3)]) fun l s=>l=.bool true∧s=mkS [.cells cs (some 3),.cells ds (some 3)]:=by
 obtain⟨xs,rfl,rfl,rfl,rfl,h⟩:=okE3_iff.1 k1
 exact sb_ok xs h
theorem okE3_no {cs ds:List LV} {n m:Nat} (k1:okE3 cs ds n m=true):noIds cs=true∧noIds ds=true:=by
 obtain⟨xs,rfl,rfl,rfl,rfl,h⟩:=okE3_iff.1 k1
 exact⟨noids_b3 _,noids_b3 _⟩
def sbG:Gc:=fun args s=>match args,s.g with
 | [.slo b 0 n 0,.slo c 0 m 0],[]=>(match s.h.get b with
   | some (.cells cs (some 3))=>(match s.h.get c with
     | some (.cells ds (some 3))=>cond (nodupB [b,c]) (match s.lay [b,c] [.cells cs (some 3),.cells ds (some 3)] [] with
       | some s'=>some ([okE3 cs ds n m],.bool true,s')
       | none=>none) none
     | _=>none)
   | _=>none)
 | _,_=>none
theorem sbG_ok:GOk prog 33 sbG:=by
 intro args s bs l s' hg hb hfr
 unfold sbG at hg
 split at hg
 ·rename_i b n c m hgl
  split at hg
  ·rename_i cs hb0
   split at hg
   ·rename_i ds hb1
    cases hbc:nodupB [b,c] with
    | false=>rw [hbc] at hg; cases hg
    | true =>
      rw [hbc] at hg
      simp only [cond_true] at hg
      split at hg
      ·rename_i s1 hs1
       simp only [Option.some.injEq,Prod.mk.injEq] at hg
       obtain⟨rfl,rfl,rfl⟩:=hg
       simp only [allT_cons] at hb
       obtain⟨k1,_⟩:=hb
       have no:=(okE3_no k1).1
       have no2:=(okE3_no k1).2
       refine SFun.lay (bs:=[.cells cs (some 3),.cells ds (some 3)]) (args0:=[.slo 0 0 n 0,.slo 1 0 m 0]) (bs':=[.cells cs (some 3),.cells ds (some 3)]) (v0:=.bool true) hfr hs1 (nodupB_nd hbc)
        ⟨⟨there hfr hb0,_,hb0,lb_same (by(exact zId)),fun κ hκ=>lb_same (by(exact zId))⟩,⟨there hfr hb1,_,hb1,lb_same (by(exact zId)),fun κ hκ=>lb_same (by(exact zId))⟩,trivial⟩ (by(exact zTl)) ?_
        fun κ h1 h2=>⟨⟨lb_same (by(exact zId)),lb_same (by(exact zId)),trivial⟩,lw_bool⟩
       rw [hgl]; exact(sb_c cs ds n m k1)
      ·cases hg
   ·cases hg
  ·cases hg
 ·cases hg
def lgW (wc:List LV) (n:Nat):Bool:=@decide (∃ us:List Int,wc=encL (cI .u64) us∧n=us.length∧us.length≤100000∧inU us∧(lsAll us).isSome=true) (Classical.propDecidable _)
def lbW (wc:List LV) (n:Nat):Bool:=@decide (∃ us:List Int,wc=encL (cI .u64) us∧n=us.length∧us.length≤100000∧inU us∧lsAll us=none) (Classical.propDecidable _)
def lsD (wc:List LV):Row×Row×Row×Row:=(lsAll (decIu64 wc)).getD ([],[],[],[])
def lc1 (wc:List LV):List LV:=encL (cI .i64) (lsD wc).1
def ln1 (wc:List LV):Nat:=(lsD wc).1.length
def lc2 (wc:List LV):List LV:=encL (cI .i64) (lsD wc).2.1
def ln2 (wc:List LV):Nat:=(lsD wc).2.1.length
def lc3 (wc:List LV):List LV:=encL (cI .i64) (lsD wc).2.2.1
def ln3 (wc:List LV):Nat:=(lsD wc).2.2.1.length
def lc4 (wc:List LV):List LV:=encL (cI .i64) (lsD wc).2.2.2
def ln4 (wc:List LV):Nat:=(lsD wc).2.2.2.length
theorem lgW_iff {wc:List LV} {n:Nat}:lgW wc n=true↔∃ us:List Int,wc=encL (cI .u64) us∧n=us.length∧us.length≤100000∧inU us∧(lsAll us).isSome=true:=by simp only [lgW,decide_eq_true_eq]
theorem lbW_iff {wc:List LV} {n:Nat}:lbW wc n=true↔∃ us:List Int,wc=encL (cI .u64) us∧n=us.length∧us.length≤100000∧inU us∧lsAll us=none:=by simp only [lbW,decide_eq_true_eq]
theorem lg_no {wc:List LV} {n:Nat} (k:lgW wc n=true):noIds wc=true:=by obtain⟨_,e,_⟩:=lgW_iff.1 k; rw [e]; exact noIds_Iu64 _
theorem lb_no {wc:List LV} {n:Nat} (k:lbW wc n=true):noIds wc=true:=by obtain⟨_,e,_⟩:=lbW_iff.1 k; rw [e]; exact noIds_Iu64 _
abbrev lsR (wc:List LV):List LB:=[.cells wc (some 1),.cells [.slo 2 0 (ln1 wc) 0,.slo 3 0 (ln2 wc) 0,.slo 4 0 (ln3 wc) 0,.slo 5 0 (ln4 wc) 0] (some 1),.cells (lc1 wc) (some 1),.cells (lc2 wc) (some 1),.cells (lc3 wc) (some 1),.cells (lc4 wc) (some 1)]
theorem lsR_eq {us:Row} {a b c d:Row} (h:lsAll us=some (a,b,c,d)):lsR (encL (cI .u64) us)=rw5 us a b c d:=by
 simp only [lsR,ln1,ln2,ln3,ln4,lc1,lc2,lc3,lc4,lsD,decIu64_enc,h,Option.getD_some]
theorem li_g (wc:List LV) (n:Nat) (k1:lgW wc n=true):SFun prog 31 [.slo 0 0 n 0] (mkS [.cells wc (some 1)]) fun l t=>l=.tup [.slo 1 0 4 0,.int .i64 0]∧t=mkS (lsR wc):=by
 obtain⟨us,rfl,rfl,h1,h2,h3⟩:=lgW_iff.1 k1
 refine SFun.mono (ls_ok us h2 h1) fun l t ⟨b,hb,ht⟩=>?_
 rcases hb with⟨q,_⟩ | ⟨r1,r2,r3,r4,q,q2,q3⟩
 ·rw [q] at h3; cases h3
 ·exact⟨q2,by rw [lsR_eq q,ht,q3]⟩
theorem li_b (wc:List LV) (n:Nat) (k1:lbW wc n=true):SFun prog 31 [.slo 0 0 n 0] (mkS [.cells wc (some 1)]) fun l t=>l=.tup [.nils,.int .i64 12]∧t=mkS [.cells wc (some 1)]:=by
 obtain⟨us,rfl,rfl,h1,h2,h3⟩:=lbW_iff.1 k1
 refine SFun.mono (ls_ok us h2 h1) fun l t ⟨b,hb,ht⟩=>?_
 rcases hb with⟨_,q2,q3⟩ | ⟨r1,r2,r3,r4,q,q2,q3⟩
 ·exact⟨q2,by rw [ht,q3]⟩
 ·rw [q] at h3; cases h3
theorem lo_g (wc:List LV) (n:Nat) (k1:lgW wc n=true):SFun prog 32 [.slo 0 0 n 0] (mkS [.cells wc (some 1)]) fun l t=>l=.tup [.slo 1 0 4 0,.bool true]∧t=mkS (lsR wc):=by
 obtain⟨us,rfl,rfl,h1,h2,h3⟩:=lgW_iff.1 k1
 refine SFun.mono (oll_ok us h2 h1) fun l t ⟨b,hb,ht⟩=>?_
 rcases hb with⟨q,_⟩ | ⟨r1,r2,r3,r4,q,q2,q3⟩
 ·rw [q] at h3; cases h3
 ·exact⟨q2,by rw [lsR_eq q,ht,q3]⟩
theorem lo_b (wc:List LV) (n:Nat) (k1:lbW wc n=true):SFun prog 32 [.slo 0 0 n 0] (mkS [.cells wc (some 1)]) fun l t=>l=.tup [.nils,.bool false]∧t=mkS [.cells wc (some 1)]:=by
 obtain⟨us,rfl,rfl,h1,h2,h3⟩:=lbW_iff.1 k1
 refine SFun.mono (oll_ok us h2 h1) fun l t ⟨b,hb,ht⟩=>?_
 rcases hb with⟨_,q2,q3⟩ | ⟨r1,r2,r3,r4,q,q2,q3⟩
 ·exact⟨q2,by rw [ht,q3]⟩
 ·rw [q] at h3; cases h3
def ligG:Gc:=fun args s=>match args,s.g with
 | [.slo q 0 n 0],[]=>(match s.h.get q with
   | some (.cells wc (some 1))=>(match s.lay [q] [.cells wc (some 1)] [.cells [.slo (Nat.succ s.n) 0 (ln1 wc) 0,.slo (Nat.succ (Nat.succ s.n)) 0 (ln2 wc) 0,.slo (Nat.succ (Nat.succ (Nat.succ s.n))) 0 (ln3 wc) 0,.slo (Nat.succ (Nat.succ (Nat.succ (Nat.succ s.n)))) 0 (ln4 wc) 0] (some 1),.cells (lc1 wc) (some 1),.cells (lc2 wc) (some 1),.cells (lc3 wc) (some 1),.cells (lc4 wc) (some 1)] with
     | some s'=>some ([lgW wc n],.tup [.slo s.n 0 4 0,.int .i64 0],s')
     | none=>none)
   | _=>none)
 | _,_=>none
theorem ligG_ok:GOk prog 31 ligG:=by
 intro args s bs l s' hg hb hfr
 unfold ligG at hg
 split at hg
 ·rename_i q n hgl
  split at hg
  ·rename_i wc hb0
   split at hg
   ·rename_i s1 hs1
    simp only [Option.some.injEq,Prod.mk.injEq] at hg
    obtain⟨rfl,rfl,rfl⟩:=hg
    simp only [allT_cons] at hb
    obtain⟨k1,_⟩:=hb
    have no:noIds wc=true:=lg_no k1
    refine SFun.lay (bs:=[.cells wc (some 1)]) (args0:=[.slo 0 0 n 0]) (bs':=[.cells wc (some 1),.cells [.slo 2 0 (ln1 wc) 0,.slo 3 0 (ln2 wc) 0,.slo 4 0 (ln3 wc) 0,.slo 5 0 (ln4 wc) 0] (some 1),.cells (lc1 wc) (some 1),.cells (lc2 wc) (some 1),.cells (lc3 wc) (some 1),.cells (lc4 wc) (some 1)]) (v0:=.tup [.slo 1 0 4 0,.int .i64 0]) hfr hs1 (by simp)
     ⟨⟨there hfr hb0,_,hb0,lb_same (by(exact zId)),fun κ hκ=>lb_same (by(exact zId))⟩,trivial⟩ (by(exact zTl)) ?_
     fun κ h1 h2=>⟨⟨lb_same (by(exact zId)),lb_cells (lws_cons (lw_slo (h2 1 (by simp))) (lws_cons (lw_slo (h2 2 (by simp))) (lws_cons (lw_slo (h2 3 (by simp))) (lws_cons (lw_slo (h2 4 (by simp))) lws_nil)))) (by simp),lb_same (noIds_Ii64 _),lb_same (noIds_Ii64 _),lb_same (noIds_Ii64 _),lb_same (noIds_Ii64 _),trivial⟩,(lw_tup (lws_cons (lw_slo (h2 0 (by simp))) (lws_cons (lw_int) lws_nil)))⟩
    rw [hgl]; exact(li_g wc n k1)
   ·cases hg
  ·cases hg
 ·cases hg
def logG:Gc:=fun args s=>match args,s.g with
 | [.slo q 0 n 0],[]=>(match s.h.get q with
   | some (.cells wc (some 1))=>(match s.lay [q] [.cells wc (some 1)] [.cells [.slo (Nat.succ s.n) 0 (ln1 wc) 0,.slo (Nat.succ (Nat.succ s.n)) 0 (ln2 wc) 0,.slo (Nat.succ (Nat.succ (Nat.succ s.n))) 0 (ln3 wc) 0,.slo (Nat.succ (Nat.succ (Nat.succ (Nat.succ s.n)))) 0 (ln4 wc) 0] (some 1),.cells (lc1 wc) (some 1),.cells (lc2 wc) (some 1),.cells (lc3 wc) (some 1),.cells (lc4 wc) (some 1)] with
     | some s'=>some ([lgW wc n],.tup [.slo s.n 0 4 0,.bool true],s')
     | none=>none)
   | _=>none)
 | _,_=>none
theorem logG_ok:GOk prog 32 logG:=by
 intro args s bs l s' hg hb hfr
 unfold logG at hg
 split at hg
 ·rename_i q n hgl
  split at hg
  ·rename_i wc hb0
   split at hg
   ·rename_i s1 hs1
    simp only [Option.some.injEq,Prod.mk.injEq] at hg
    obtain⟨rfl,rfl,rfl⟩:=hg
    simp only [allT_cons] at hb
    obtain⟨k1,_⟩:=hb
    have no:noIds wc=true:=lg_no k1
    refine SFun.lay (bs:=[.cells wc (some 1)]) (args0:=[.slo 0 0 n 0]) (bs':=[.cells wc (some 1),.cells [.slo 2 0 (ln1 wc) 0,.slo 3 0 (ln2 wc) 0,.slo 4 0 (ln3 wc) 0,.slo 5 0 (ln4 wc) 0] (some 1),.cells (lc1 wc) (some 1),.cells (lc2 wc) (some 1),.cells (lc3 wc) (some 1),.cells (lc4 wc) (some 1)]) (v0:=.tup [.slo 1 0 4 0,.bool true]) hfr hs1 (by simp)
     ⟨⟨there hfr hb0,_,hb0,lb_same (by(exact zId)),fun κ hκ=>lb_same (by(exact zId))⟩,trivial⟩ (by(exact zTl)) ?_
     fun κ h1 h2=>⟨⟨lb_same (by(exact zId)),lb_cells (lws_cons (lw_slo (h2 1 (by simp))) (lws_cons (lw_slo (h2 2 (by simp))) (lws_cons (lw_slo (h2 3 (by simp))) (lws_cons (lw_slo (h2 4 (by simp))) lws_nil)))) (by simp),lb_same (noIds_Ii64 _),lb_same (noIds_Ii64 _),lb_same (noIds_Ii64 _),lb_same (noIds_Ii64 _),trivial⟩,(lw_tup (lws_cons (lw_slo (h2 0 (by simp))) (lws_cons (lw_bool) lws_nil)))⟩
    rw [hgl]; exact(lo_g wc n k1)
   ·cases hg
  ·cases hg
 ·cases hg
def libG:Gc:=fun args s=>match args,s.g with
 | [.slo q 0 n 0],[]=>(match s.h.get q with
   | some (.cells wc (some 1))=>(match s.lay [q] [.cells wc (some 1)] [] with
     | some s'=>some ([lbW wc n],.tup [.nils,.int .i64 12],s')
     | none=>none)
   | _=>none)
 | _,_=>none
theorem libG_ok:GOk prog 31 libG:=by
 intro args s bs l s' hg hb hfr
 unfold libG at hg
 split at hg
 ·rename_i q n hgl
  split at hg
  ·rename_i wc hb0
   split at hg
   ·rename_i s1 hs1
    simp only [Option.some.injEq,Prod.mk.injEq] at hg
    obtain⟨rfl,rfl,rfl⟩:=hg
    simp only [allT_cons] at hb
    obtain⟨k1,_⟩:=hb
    have no:noIds wc=true:=lb_no k1
    refine SFun.lay (bs:=[.cells wc (some 1)]) (args0:=[.slo 0 0 n 0]) (bs':=[.cells wc (some 1)]) (v0:=.tup [.nils,.int .i64 12]) hfr hs1 (by simp)
     ⟨⟨there hfr hb0,_,hb0,lb_same (by(exact zId)),fun κ hκ=>lb_same (by(exact zId))⟩,trivial⟩ (by(exact zTl)) ?_
     fun κ h1 h2=>⟨⟨lb_same (by(exact zId)),trivial⟩,lw_noid rfl⟩
    rw [hgl]; exact(li_b wc n k1)
   ·cases hg
  ·cases hg
 ·cases hg
def lobG:Gc:=fun args s=>match args,s.g with
 | [.slo q 0 n 0],[]=>(match s.h.get q with
   | some (.cells wc (some 1))=>(match s.lay [q] [.cells wc (some 1)] [] with
     | some s'=>some ([lbW wc n],.tup [.nils,.bool false],s')
     | none=>none)
   | _=>none)
 | _,_=>none
theorem lobG_ok:GOk prog 32 lobG:=by
 intro args s bs l s' hg hb hfr
 unfold lobG at hg
 split at hg
 ·rename_i q n hgl
  split at hg
  ·rename_i wc hb0
   split at hg
   ·rename_i s1 hs1
    simp only [Option.some.injEq,Prod.mk.injEq] at hg
    obtain⟨rfl,rfl,rfl⟩:=hg
    simp only [allT_cons] at hb
    obtain⟨k1,_⟩:=hb
    have no:noIds wc=true:=lb_no k1
    refine SFun.lay (bs:=[.cells wc (some 1)]) (args0:=[.slo 0 0 n 0]) (bs':=[.cells wc (some 1)]) (v0:=.tup [.nils,.bool false]) hfr hs1 (by simp)
     ⟨⟨there hfr hb0,_,hb0,lb_same (by(exact zId)),fun κ hκ=>lb_same (by(exact zId))⟩,trivial⟩ (by(exact zTl)) ?_
     fun κ h1 h2=>⟨⟨lb_same (by(exact zId)),trivial⟩,lw_noid rfl⟩
    rw [hgl]; exact(lo_b wc n k1)
   ·cases hg
  ·cases hg
 ·cases hg
def cxw:Cx:=cxl [(3,runG)]
def cxG:Cx:=cxl [(29,blkG),(30,olkG),(31,ligG),(32,logG),(33,sbG),(34,sameIi64G)]
def cxB:Cx:=cxl [(29,blkG),(30,olkG),(31,libG),(32,lobG),(33,sbG)]
abbrev awL:List Nat:=[1,2,8,9,10,11,12,13,14,15,16,17,18,19,20,29,137]
abbrev awS:List Code:=sp prog 6
abbrev awE:List Code:=spineL (condT (nthC awS 7))
abbrev awT (b:Int) (n2 n:Nat) (q:Bool):List (Nat×LV):=[(1,.int .u16 b),(2,.slo 1 0 n2 0),(9,.slo 2 0 n 0),(29,.bool q)]
abbrev awU (b:Int) (n2 n i:Nat):List (Nat×LV):=[(1,.int .u16 b),(2,.slo 1 0 n2 0),(9,.slo 2 0 n 0),(10,.int .i64 i)]
abbrev awV (n2 n i:Nat):List (Nat×LV):=[(2,.slo 1 0 n2 0),(9,.slo 2 0 n 0),(11,.int .i64 i)]
abbrev awW (n:Nat):List (Nat×LV):=[(9,.slo 2 0 n 0)]
abbrev awH (wx hx wc:List LV):List LB:=[.ro wx,.ro hx,.cells wc (some 1)]
abbrev awX (i:Int):List (Nat×LV):=[(16,.slo 2 0 4 0),(18,.slo 7 0 4 0),(20,.int .i64 i)]
abbrev awY (wx hx:List LV) (n1 n2 n3 n4:Nat) (r1 r2 r3 r4:List LV):List LB:=[.ro wx,.ro hx,.cells [.slo 3 0 n1 0,.slo 4 0 n2 0,.slo 5 0 n3 0,.slo 6 0 n4 0] (some 1),.cells r1 (some 1),.cells r2 (some 1),.cells r3 (some 1),.cells r4 (some 1),.cells [.slo 8 0 n1 0,.slo 9 0 n2 0,.slo 10 0 n3 0,.slo 11 0 n4 0] (some 1),.cells r1 (some 1),.cells r2 (some 1),.cells r3 (some 1),.cells r4 (some 1)]
abbrev awZ:List (Nat×LV):=[(16,.nils),(18,.nils),(20,.int .i64 0)]
theorem xw_a (b:Int) (q:Bool) (n0 n2:Nat) (wx hx:List LV) (K:Pk):(xsp prog cxw 40 154 (seg awS 0 7) (tm0 [.slo 0 0 n0 0,.int .u16 b,.slo 1 0 n2 0,.bool q]) (mkS [.ro wx,.ro hx]) (vK awL K))=(
 bif xcm .gtr (↑n0) 300 then(
 K .ret [.int .u16 b,.slo 1 0 n2 0,.bool true,.tup [],.tup [],.tup [],.tup [],.tup [],.tup [],.tup [],.tup [],.tup [],.tup [],.tup [],.tup [],.tup [],.tup []] [some (.ro wx),some (.ro hx)] [])
 else(
 ck (xle (xadd 0 (xmul n0 1)) (xln wx)) <|
 ck (xle (xmul n0 8) 140737488355328) <|
 ck (xle n0 140737488355328) <|
 K .normal [.int .u16 b,.slo 1 0 n2 0,.bool false,.slo 2 0 n0 0,.tup [],.tup [],.tup [],.tup [],.tup [],.tup [],.tup [],.tup [],.tup [],.tup [],.tup [],.bool (xnot q),.tup []] [some (.ro wx),some (.ro hx),sC (xcut wx 0 (xmul n0 1)) 1] [])):=by kernel_rfl
theorem xw_n (b:Int) (q:Bool) (n2 n:Nat) (wx hx wc:List LV) (K:Pk):(xcode prog cxw 40 154 (condF (nthC awS 7)) (mkTm 154 (awT b n2 n q)) (mkS (awH wx hx wc)) (vK awL K))=(
 K .normal [.int .u16 b,.slo 1 0 n2 0,.any,.slo 2 0 n 0,.any,.any,.any,.any,.any,.any,.any,.any,.any,.any,.any,.bool q,.any] [some (.ro wx),some (.ro hx),sC wc 1] []):=by kernel_rfl
theorem xw_b (b:Int) (q:Bool) (n2 n:Nat) (wx hx wc:List LV) (K:Pk):(xcode prog cxw 40 154 (loopOf (nthC awE 0)) (mkTm 154 (awT b n2 n q)) (mkS (awH wx hx wc)) (vK awL K))=(
 bif xcm .lss (↑n) 64 then(
 ck (xle (xadd n 1) 1000000) <|
 ck (xle (xadd 0 (xmul n 1)) (xln wc)) <|
 K .normal [.int .u16 b,.slo 1 0 n2 0,.any,.slo 4 0 (xadd n 1) 0,.any,.any,.any,.any,.any,.any,.any,.any,.any,.any,.any,.bool q,.any] [some (.ro wx),some (.ro hx),sD,sN [.int .u64 (xwr .u64 (xar .rem .i64 (↑n) 5))],sC (xcat (xcut wc 0 (xmul n 1)) [.int .u64 (xwr .u64 (xar .rem .i64 (↑n) 5))]) 1] [])
 else(
 K (.exit 0) [.int .u16 b,.slo 1 0 n2 0,.any,.slo 2 0 n 0,.any,.any,.any,.any,.any,.any,.any,.any,.any,.any,.any,.bool q,.any] [some (.ro wx),some (.ro hx),sC wc 1] [])):=by kernel_rfl
theorem xw_c (b:Int) (q:Bool) (n2 n:Nat) (wx hx wc:List LV) (K:Pk):(xsp prog cxw 40 154 (seg awE 1 1) (mkTm 154 (awT b n2 n q)) (mkS (awH wx hx wc)) (vK awL K))=(
 K .normal [.int .u16 b,.slo 1 0 n2 0,.any,.slo 2 0 n 0,.int .i64 0,.any,.any,.any,.any,.any,.any,.any,.any,.any,.any,.bool q,.any] [some (.ro wx),some (.ro hx),sC wc 1] []):=by kernel_rfl
theorem xw_d (b:Int) (n2 n i:Nat) (wx hx wc:List LV) (K:Pk):(xcode prog cxw 40 154 (loopOf (nthC awE 2)) (mkTm 154 (awU b n2 n i)) (mkS (awH wx hx wc)) (vK awL K))=(
 bif xcm .lss ↑i ↑n then(
 ck (xle (xadd (xnat ↑i) 1) n) <|
 ck (xle (xadd (xix 0 (xnat ↑i) 1) 1) (xln wc)) <|
 ck (isI .u64 (nthD wc (xix 0 (xnat ↑i) 1))) <|
 ck (xle (xadd (xnat ↑i) 1) n) <|
 ck (xle (xadd (xix 0 (xnat ↑i) 1) 1) (xln wc)) <|
 K .normal [.int .u16 b,.slo 1 0 n2 0,.any,.slo 2 0 n 0,.int .i64 (xar .add .i64 (↑i) 1),.any,.any,.any,.any,.any,.any,.any,.any,.any,.any,.any,.any] [some (.ro wx),some (.ro hx),sC (xlay wc (xix 0 (xnat ↑i) 1) [.int .u64 (xar .rem .u64 (asI (nthD wc (xix 0 (xnat ↑i) 1))) 14)]) 1] [])
 else(
 K (.exit 2) [.int .u16 b,.slo 1 0 n2 0,.any,.slo 2 0 n 0,.int .i64 ↑i,.any,.any,.any,.any,.any,.any,.any,.any,.any,.any,.any,.any] [some (.ro wx),some (.ro hx),sC wc 1] [])):=by kernel_rfl
theorem xw_e (b:Int) (n2 n i:Nat) (wx hx wc:List LV) (K:Pk):(xsp prog cxw 40 154 (seg awE 3 2) (mkTm 154 (awU b n2 n i)) (mkS (awH wx hx wc)) (vK awL K))=(
 ck (xle 6 n) <|
 ck (xle 6 (xln wc)) <|
 K .normal [.int .u16 b,.slo 1 0 n2 0,.any,.slo 2 0 n 0,.int .i64 ↑i,.int .i64 0,.any,.any,.any,.any,.any,.any,.any,.any,.any,.any,.any] [some (.ro wx),some (.ro hx),sC (xlay wc 5 [.int .u64 (xwr .u64 (xar .rem .u16 b 70))]) 1] []):=by kernel_rfl
theorem xw_f (n2 n i:Nat) (wx hx wc:List LV) (K:Pk):(xcode prog cxw 40 154 (loopOf (nthC awE 5)) (mkTm 154 (awV n2 n i)) (mkS (awH wx hx wc)) (vK awL K))=(
 bif xcm .lss ↑i ↑n2 then(
 bif xcm .lss (↑i) 4 then(
 ck (xle (xadd (xnat ↑i) 1) n2) <|
 ck (xle (xadd (xix 0 (xnat ↑i) 1) 1) (xln hx)) <|
 ck (isI .u8 (nthD hx (xix 0 (xnat ↑i) 1))) <|
 ck (xnn (xar .add .i64 1 ↑i)) <|
 ck (xle (xadd (xnat (xar .add .i64 1 ↑i)) 1) n) <|
 ck (xle (xadd (xix 0 (xnat (xar .add .i64 1 ↑i)) 1) 1) (xln wc)) <|
 K .normal [.any,.slo 1 0 n2 0,.any,.slo 2 0 n 0,.any,.int .i64 (xar .add .i64 (↑i) 1),.any,.any,.any,.any,.any,.any,.any,.any,.any,.any,.any] [some (.ro wx),some (.ro hx),sC (xlay wc (xix 0 (xnat (xar .add .i64 1 ↑i)) 1) [.int .u64 (xwr .u64 (xar .rem .u8 (asI (nthD hx (xix 0 (xnat ↑i) 1))) 70))]) 1] [])
 else(
 K (.exit 4) [.any,.slo 1 0 n2 0,.any,.slo 2 0 n 0,.any,.int .i64 ↑i,.any,.any,.any,.any,.any,.any,.any,.any,.any,.any,.any] [some (.ro wx),some (.ro hx),sC wc 1] []))
 else(
 K (.exit 4) [.any,.slo 1 0 n2 0,.any,.slo 2 0 n 0,.any,.int .i64 ↑i,.any,.any,.any,.any,.any,.any,.any,.any,.any,.any,.any] [some (.ro wx),some (.ro hx),sC wc 1] [])):=by kernel_rfl
abbrev xw_g_b1 (wx:List LV) (hx:List LV) (wc:List LV):List (Option LB):=[some (.ro wx),some (.ro hx),sC wc 1,sC (bkC wc) 3,sC (bkC wc) 3,sC [.slo 6 0 (ln1 wc) 0,.slo 7 0 (ln2 wc) 0,.slo 8 0 (ln3 wc) 0,.slo 9 0 (ln4 wc) 0] 1,sC (lc1 wc) 1,sC (lc2 wc) 1,sC (lc3 wc) 1,sC (lc4 wc) 1,sC [.slo 11 0 (ln1 wc) 0,.slo 12 0 (ln2 wc) 0,.slo 13 0 (ln3 wc) 0,.slo 14 0 (ln4 wc) 0] 1,sC (lc1 wc) 1,sC (lc2 wc) 1,sC (lc3 wc) 1,sC (lc4 wc) 1]
theorem xw_g (n:Nat) (wx hx wc:List LV) (K:Pk):(xsp prog cxG 40 154 (seg awS 8 7) (mkTm 154 (awW n)) (mkS (awH wx hx wc)) (vK awL K))=(
 ck (okU wc n) <|
 ck (okU wc n) <|
 ck (lgW wc n) <|
 ck (lgW wc n) <|
 bif xnot (xbq (xcm .eql (bkE wc) 0) (bkO wc)) then(
 K .ret [.any,.any,.bool false,.slo 2 0 n 0,.any,.any,.slo 3 0 (bkN wc) 0,.int .i64 (bkE wc),.slo 4 0 (bkN wc) 0,.bool (bkO wc),.slo 5 0 4 0,.int .i64 0,.slo 10 0 4 0,.bool true,.any,.any,.bool true] (xw_g_b1 wx hx wc) [])
 else(
 bif xnot (bkO wc) then(
 bif xcm .neq (bkE wc) 12 then(
 K .ret [.any,.any,.bool false,.slo 2 0 n 0,.any,.any,.slo 3 0 (bkN wc) 0,.int .i64 (bkE wc),.slo 4 0 (bkN wc) 0,.bool (bkO wc),.slo 5 0 4 0,.int .i64 0,.slo 10 0 4 0,.bool true,.any,.any,.bool true] (xw_g_b1 wx hx wc) [])
 else(
 ck (okE3 (bkC wc) (bkC wc) (bkN wc) (bkN wc)) <|
 K .normal [.any,.any,.any,.slo 2 0 n 0,.any,.any,.slo 3 0 (bkN wc) 0,.int .i64 (bkE wc),.slo 4 0 (bkN wc) 0,.bool (bkO wc),.slo 5 0 4 0,.int .i64 0,.slo 10 0 4 0,.bool true,.int .i64 0,.any,.bool false] (xw_g_b1 wx hx wc) []))
 else(
 ck (okE3 (bkC wc) (bkC wc) (bkN wc) (bkN wc)) <|
 K .normal [.any,.any,.any,.slo 2 0 n 0,.any,.any,.slo 3 0 (bkN wc) 0,.int .i64 (bkE wc),.slo 4 0 (bkN wc) 0,.bool (bkO wc),.slo 5 0 4 0,.int .i64 0,.slo 10 0 4 0,.bool true,.int .i64 0,.any,.bool false] (xw_g_b1 wx hx wc) []))):=by kernel_rfl
theorem xw_h (n:Nat) (wx hx wc:List LV) (K:Pk):(xsp prog cxB 40 154 (seg awS 8 7) (mkTm 154 (awW n)) (mkS (awH wx hx wc)) (vK awL K))=(
 ck (okU wc n) <|
 ck (okU wc n) <|
 ck (lbW wc n) <|
 ck (lbW wc n) <|
 bif xnot (xbq (xcm .eql (bkE wc) 0) (bkO wc)) then(
 K .ret [.any,.any,.bool false,.slo 2 0 n 0,.any,.any,.slo 3 0 (bkN wc) 0,.int .i64 (bkE wc),.slo 4 0 (bkN wc) 0,.bool (bkO wc),.nils,.int .i64 12,.nils,.bool false,.any,.any,.bool true] [some (.ro wx),some (.ro hx),sC wc 1,sC (bkC wc) 3,sC (bkC wc) 3] [])
 else(
 bif xnot (bkO wc) then(
 bif xcm .neq (bkE wc) 12 then(
 K .ret [.any,.any,.bool false,.slo 2 0 n 0,.any,.any,.slo 3 0 (bkN wc) 0,.int .i64 (bkE wc),.slo 4 0 (bkN wc) 0,.bool (bkO wc),.nils,.int .i64 12,.nils,.bool false,.any,.any,.bool true] [some (.ro wx),some (.ro hx),sC wc 1,sC (bkC wc) 3,sC (bkC wc) 3] [])
 else(
 ck (okE3 (bkC wc) (bkC wc) (bkN wc) (bkN wc)) <|
 K .normal [.any,.any,.any,.slo 2 0 n 0,.any,.any,.slo 3 0 (bkN wc) 0,.int .i64 (bkE wc),.slo 4 0 (bkN wc) 0,.bool (bkO wc),.nils,.int .i64 12,.nils,.bool false,.int .i64 0,.any,.bool false] [some (.ro wx),some (.ro hx),sC wc 1,sC (bkC wc) 3,sC (bkC wc) 3] []))
 else(
 ck (okE3 (bkC wc) (bkC wc) (bkN wc) (bkN wc)) <|
 K .normal [.any,.any,.any,.slo 2 0 n 0,.any,.any,.slo 3 0 (bkN wc) 0,.int .i64 (bkE wc),.slo 4 0 (bkN wc) 0,.bool (bkO wc),.nils,.int .i64 12,.nils,.bool false,.int .i64 0,.any,.bool false] [some (.ro wx),some (.ro hx),sC wc 1,sC (bkC wc) 3,sC (bkC wc) 3] []))):=by kernel_rfl
theorem xw_i (wx hx:List LV) (K:Pk):(xcode prog cxB 40 154 (loopOf (nthC awS 15)) (mkTm 154 awZ) (mkS [.ro wx,.ro hx]) (vK awL K))=(
 K (.exit 6) [.any,.any,.any,.any,.any,.any,.any,.any,.any,.any,.nils,.any,.nils,.any,.int .i64 0,.any,.any] [some (.ro wx),some (.ro hx)] []):=by kernel_rfl
abbrev xw_l0_b1 (n1:Nat) (n2:Nat) (n3:Nat) (n4:Nat) (wx:List LV) (hx:List LV) (r1:List LV) (r2:List LV) (r3:List LV) (r4:List LV):List (Option LB):=[some (.ro wx),some (.ro hx),sC [.slo 3 0 n1 0,.slo 4 0 n2 0,.slo 5 0 n3 0,.slo 6 0 n4 0] 1,sC r1 1,sC r2 1,sC r3 1,sC r4 1,sC [.slo 8 0 n1 0,.slo 9 0 n2 0,.slo 10 0 n3 0,.slo 11 0 n4 0] 1,sC r1 1,sC r2 1,sC r3 1,sC r4 1]
theorem xw_l0 (n1 n2 n3 n4:Nat) (wx hx r1 r2 r3 r4:List LV) (K:Pk):(xcode prog cxG 40 154 (loopOf (nthC awS 15)) (mkTm 154 (awX 0)) (mkS (awY wx hx n1 n2 n3 n4 r1 r2 r3 r4)) (vK awL K))=(
 ck (okIi64 r1 n1) <|
 ck (okIi64 r1 n1) <|
 bif xnot (sameIi64 n1 n1 r1 r1) then(
 K .ret [.any,.any,.bool false,.any,.any,.any,.any,.any,.any,.any,.slo 2 0 4 0,.any,.slo 7 0 4 0,.any,.int .i64 0,.any,.any] (xw_l0_b1 n1 n2 n3 n4 wx hx r1 r2 r3 r4) [])
 else(
 K .normal [.any,.any,.any,.any,.any,.any,.any,.any,.any,.any,.slo 2 0 4 0,.any,.slo 7 0 4 0,.any,.int .i64 1,.any,.any] (xw_l0_b1 n1 n2 n3 n4 wx hx r1 r2 r3 r4) [])):=by kernel_rfl
abbrev xw_l1_b1 (n1:Nat) (n2:Nat) (n3:Nat) (n4:Nat) (wx:List LV) (hx:List LV) (r1:List LV) (r2:List LV) (r3:List LV) (r4:List LV):List (Option LB):=[some (.ro wx),some (.ro hx),sC [.slo 3 0 n1 0,.slo 4 0 n2 0,.slo 5 0 n3 0,.slo 6 0 n4 0] 1,sC r1 1,sC r2 1,sC r3 1,sC r4 1,sC [.slo 8 0 n1 0,.slo 9 0 n2 0,.slo 10 0 n3 0,.slo 11 0 n4 0] 1,sC r1 1,sC r2 1,sC r3 1,sC r4 1]
theorem xw_l1 (n1 n2 n3 n4:Nat) (wx hx r1 r2 r3 r4:List LV) (K:Pk):(xcode prog cxG 40 154 (loopOf (nthC awS 15)) (mkTm 154 (awX 1)) (mkS (awY wx hx n1 n2 n3 n4 r1 r2 r3 r4)) (vK awL K))=(
 ck (okIi64 r2 n2) <|
 ck (okIi64 r2 n2) <|
 bif xnot (sameIi64 n2 n2 r2 r2) then(
 K .ret [.any,.any,.bool false,.any,.any,.any,.any,.any,.any,.any,.slo 2 0 4 0,.any,.slo 7 0 4 0,.any,.int .i64 1,.any,.any] (xw_l1_b1 n1 n2 n3 n4 wx hx r1 r2 r3 r4) [])
 else(
 K .normal [.any,.any,.any,.any,.any,.any,.any,.any,.any,.any,.slo 2 0 4 0,.any,.slo 7 0 4 0,.any,.int .i64 2,.any,.any] (xw_l1_b1 n1 n2 n3 n4 wx hx r1 r2 r3 r4) [])):=by kernel_rfl
abbrev xw_l2_b1 (n1:Nat) (n2:Nat) (n3:Nat) (n4:Nat) (wx:List LV) (hx:List LV) (r1:List LV) (r2:List LV) (r3:List LV) (r4:List LV):List (Option LB):=[some (.ro wx),some (.ro hx),sC [.slo 3 0 n1 0,.slo 4 0 n2 0,.slo 5 0 n3 0,.slo 6 0 n4 0] 1,sC r1 1,sC r2 1,sC r3 1,sC r4 1,sC [.slo 8 0 n1 0,.slo 9 0 n2 0,.slo 10 0 n3 0,.slo 11 0 n4 0] 1,sC r1 1,sC r2 1,sC r3 1,sC r4 1]
theorem xw_l2 (n1 n2 n3 n4:Nat) (wx hx r1 r2 r3 r4:List LV) (K:Pk):(xcode prog cxG 40 154 (loopOf (nthC awS 15)) (mkTm 154 (awX 2)) (mkS (awY wx hx n1 n2 n3 n4 r1 r2 r3 r4)) (vK awL K))=(
 ck (okIi64 r3 n3) <|
 ck (okIi64 r3 n3) <|
 bif xnot (sameIi64 n3 n3 r3 r3) then(
 K .ret [.any,.any,.bool false,.any,.any,.any,.any,.any,.any,.any,.slo 2 0 4 0,.any,.slo 7 0 4 0,.any,.int .i64 2,.any,.any] (xw_l2_b1 n1 n2 n3 n4 wx hx r1 r2 r3 r4) [])
 else(
 K .normal [.any,.any,.any,.any,.any,.any,.any,.any,.any,.any,.slo 2 0 4 0,.any,.slo 7 0 4 0,.any,.int .i64 3,.any,.any] (xw_l2_b1 n1 n2 n3 n4 wx hx r1 r2 r3 r4) [])):=by kernel_rfl
abbrev xw_l3_b1 (n1:Nat) (n2:Nat) (n3:Nat) (n4:Nat) (wx:List LV) (hx:List LV) (r1:List LV) (r2:List LV) (r3:List LV) (r4:List LV):List (Option LB):=[some (.ro wx),some (.ro hx),sC [.slo 3 0 n1 0,.slo 4 0 n2 0,.slo 5 0 n3 0,.slo 6 0 n4 0] 1,sC r1 1,sC r2 1,sC r3 1,sC r4 1,sC [.slo 8 0 n1 0,.slo 9 0 n2 0,.slo 10 0 n3 0,.slo 11 0 n4 0] 1,sC r1 1,sC r2 1,sC r3 1,sC r4 1]
theorem xw_l3 (n1 n2 n3 n4:Nat) (wx hx r1 r2 r3 r4:List LV) (K:Pk):(xcode prog cxG 40 154 (loopOf (nthC awS 15)) (mkTm 154 (awX 3)) (mkS (awY wx hx n1 n2 n3 n4 r1 r2 r3 r4)) (vK awL K))=(
 ck (okIi64 r4 n4) <|
 ck (okIi64 r4 n4) <|
 bif xnot (sameIi64 n4 n4 r4 r4) then(
 K .ret [.any,.any,.bool false,.any,.any,.any,.any,.any,.any,.any,.slo 2 0 4 0,.any,.slo 7 0 4 0,.any,.int .i64 3,.any,.any] (xw_l3_b1 n1 n2 n3 n4 wx hx r1 r2 r3 r4) [])
 else(
 K .normal [.any,.any,.any,.any,.any,.any,.any,.any,.any,.any,.slo 2 0 4 0,.any,.slo 7 0 4 0,.any,.int .i64 4,.any,.any] (xw_l3_b1 n1 n2 n3 n4 wx hx r1 r2 r3 r4) [])):=by kernel_rfl
theorem xw_l4 (n1 n2 n3 n4:Nat) (wx hx r1 r2 r3 r4:List LV) (K:Pk):(xcode prog cxG 40 154 (loopOf (nthC awS 15)) (mkTm 154 (awX 4)) (mkS (awY wx hx n1 n2 n3 n4 r1 r2 r3 r4)) (vK awL K))=(
 K (.exit 6) [.any,.any,.any,.any,.any,.any,.any,.any,.any,.any,.slo 2 0 4 0,.any,.slo 7 0 4 0,.any,.int .i64 4,.any,.any] [some (.ro wx),some (.ro hx),sC [.slo 3 0 n1 0,.slo 4 0 n2 0,.slo 5 0 n3 0,.slo 6 0 n4 0] 1,sC r1 1,sC r2 1,sC r3 1,sC r4 1,sC [.slo 8 0 n1 0,.slo 9 0 n2 0,.slo 10 0 n3 0,.slo 11 0 n4 0] 1,sC r1 1,sC r2 1,sC r3 1,sC r4 1] []):=by kernel_rfl
theorem xw_z (wx hx:List LV) (K:Pk):(xsp prog cxG 40 154 (awS.drop 16) (mkTm 154 []) (mkS [.ro wx,.ro hx]) (vK awL K))=(
 K .ret [.any,.any,.bool true,.any,.any,.any,.any,.any,.any,.any,.any,.any,.any,.any,.any,.any,.any] [some (.ro wx),some (.ro hx)] []):=by kernel_rfl
end
end Go.Lev
