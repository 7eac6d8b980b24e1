/- chapter 9: the reference's levels: Open, Drop, New; contracts -/
import Derived.Test.YtopbikapcboigaaCW15
import Derived.Test.YtopbikapcboigaaLc
import Derived.Test.YtopbikapcboigaaChecked
import Derived.KernelRfl
namespace Go.Lev
set_option linter.unusedSimpArgs false
set_option linter.unusedVariables false
open Go.RowKit
open Go.Proofs.Try (prog)
set_option maxRecDepth 100000
noncomputable section
theorem oget_ok (most a:Int) (ls:List Lv):SFun prog 94 [.ptr 0 0,.int .i64 a] (mkS (orS most ls.length (encLs ls) [])) fun l t=>l=.tup [.int .u64 ((getL ls a).getD 0),.bool (getL ls a).isSome]∧t=mkS (orS' most ls.length (encLs ls) []):=by
 refine or_meth (nt:=42) (L:=[4,5]) (ts:=[4,5]) (by kernel_rfl) rfl rfl (by kernel_rfl) own3_nil (Nat.le_refl _) (fun ρ _=>lw_noid rfl) fun h=>Ls.cases h ?_ ?_ ?_ ?_ ?_ ?_
 ·intro x0 e; subst e; exact oget_1 most a x0 h
 ·intro x0 x1 e; subst e; exact oget_2 most a x0 x1 h
 ·intro x0 x1 x2 e; subst e; exact oget_3 most a x0 x1 x2 h
 ·intro x0 x1 x2 x3 e; subst e; exact oget_4 most a x0 x1 x2 x3 h
 ·intro x0 x1 x2 x3 x4 e; subst e; exact oget_5 most a x0 x1 x2 x3 x4 h
 ·intro x0 x1 x2 x3 x4 x5 e; subst e; exact oget_6 most a x0 x1 x2 x3 x4 x5 h
theorem oputl_ok (most a v:Int) (ls:List Lv) (hm:(totC ls:Int)≤most) (hm2:most≤96):SFun prog 98 [.ptr 0 0,.int .i64 a,.int .u64 v] (mkS (orS most ls.length (encLs ls) [])) fun l t=>l=.int .i64 (tkE most ls [(a,v)])∧t=mkS (orS' most (tkC most ls [(a,v)]).length (encLs (tkC most ls [(a,v)])) []):=by
 refine or_meth (nt:=54) (L:=[6]) (ts:=[6]) (by kernel_rfl) rfl rfl (by kernel_rfl) own3_nil (Nat.le_refl _) (fun ρ _=>lw_noid rfl) fun h=>Ls.cases h ?_ ?_ ?_ ?_ ?_ ?_
 ·intro x0 e; subst e; exact oputl_1 most a v x0 hm hm2 h
 ·intro x0 x1 e; subst e; exact oputl_2 most a v x0 x1 hm hm2 h
 ·intro x0 x1 x2 e; subst e; exact oputl_3 most a v x0 x1 x2 hm hm2 h
 ·intro x0 x1 x2 x3 e; subst e; exact oputl_4 most a v x0 x1 x2 x3 hm hm2 h
 ·intro x0 x1 x2 x3 x4 e; subst e; exact oputl_5 most a v x0 x1 x2 x3 x4 hm hm2 h
 ·intro x0 x1 x2 x3 x4 x5 e; subst e; exact oputl_6 most a v x0 x1 x2 x3 x4 x5 hm hm2 h
theorem onew_ok (m:Int):SFun prog 63 [.int .i64 m] (mkS []) fun l t=>l=.ptr 0 0∧t=mkS [.cells [.int .i64 (xmn (xmx m 0) 96),.slo 1 0 1 0] none,.obj orF (encLs [([],[])]) 2,.dead]:=by
 have key:=SFun.shut (P:=prog) (f:=63) (args:=[.int .i64 m]) (K:=orK) (bs:=[]) (B:=[.cells [.int .i64 (xmn (xmx m 0) 96),.slo 1 0 1 0] none,.dead]) (cs:=encLs [([],[])]) (l:=.ptr 0 0) (g:=[]) orK_ok 1 (by simp) (by simp) (fun ρ h=>⟨bk_cons (lb_cells (lws_cons lw_int (lws_cons (lw_slo (h 1 (by simp))) lws_nil)) (by simp)) (bk_cons lb_dead bk_nil),lw_ptr (h 0 (by simp))⟩) ?_
 ·exact key
 refine SFun.pieces (Q:=fun l1 b=>l1=.ptr 0 0∧∃ v:orK.σ,orK.enc v=encLs [([],[])]∧b=[.cells [.int .i64 (xmn (xmx m 0) 96),.slo 1 0 1 0] none,(orK.sh v 1 2).1]++(orK.sh v 1 2).2) 8 0 [2] [2] (by kernel_rfl) rfl rfl rfl ?_
 refine zE cxo1_ok ?_
 rw [on_x]
 by_cases c1:m < 0
 ·have e:xmn (xmx m 0) 96=0:=by simp only [wd_mn,wd_mx]; split <;> (try split) <;> omega
  (refine zR ?_)
  exact⟨trivial,rfl,.ptr 0 0,[.cells [.int .i64 0,.slo 1 0 1 0] none,.cells [.slo 2 0 0 0,.slo 3 0 0 0] (some 2),.cells [] (some 2),.cells [] (some 1)],[.id 1,.cap 0 0 1,.none,.none],⟨rfl,⟨_,ok1⟩,rfl,by rw [e]; rfl⟩,by(exact zD)⟩
 by_cases c2:96 < m
 ·have e:xmn (xmx m 0) 96=96:=by simp only [wd_mn,wd_mx]; split <;> (try split) <;> omega
  (refine zR ?_)
  exact⟨trivial,rfl,.ptr 0 0,[.cells [.int .i64 96,.slo 1 0 1 0] none,.cells [.slo 2 0 0 0,.slo 3 0 0 0] (some 2),.cells [] (some 2),.cells [] (some 1)],[.id 1,.cap 0 0 1,.none,.none],⟨rfl,⟨_,ok1⟩,rfl,by rw [e]; rfl⟩,by(exact zD)⟩
 ·have e:xmn (xmx m 0) 96=m:=by simp only [wd_mn,wd_mx]; split <;> (try split) <;> omega
  (refine zR ?_)
  exact⟨trivial,rfl,.ptr 0 0,[.cells [.int .i64 m,.slo 1 0 1 0] none,.cells [.slo 2 0 0 0,.slo 3 0 0 0] (some 2),.cells [] (some 2),.cells [] (some 1)],[.id 1,.cap 0 0 1,.none,.none],⟨rfl,⟨_,ok1⟩,rfl,by rw [e]; rfl⟩,by(exact zD)⟩
theorem oget_c (most a:Int) (d:Nat) (cs:List LV) (k1:okR most cs d=true):SFun prog 94 [.ptr 0 0,.int .i64 a] (mkS (orS most d cs [])) fun l t=>l=.tup [.int .u64 (lgV cs a),.bool (lgB cs a)]∧t=mkS (orS' most d cs []):=by
 obtain⟨ls,rfl,rfl,h,_⟩:=okR_iff.1 k1
 simp only [lgV,lgB,decLs_enc]
 exact oget_ok most a ls
theorem oputl_c (most a v:Int) (d:Nat) (cs:List LV) (k1:okR most cs d=true):SFun prog 98 [.ptr 0 0,.int .i64 a,.int .u64 v] (mkS (orS most d cs [])) fun l t=>l=.int .i64 (lpE most cs a v)∧t=mkS (orS' most (lpD most cs a v) (lpC most cs a v) []):=by
 obtain⟨ls,rfl,rfl,h,h1,h2⟩:=okR_iff.1 k1
 simp only [lpE,lpD,lpC,decLs_enc]
 exact oputl_ok most a v ls h1 h2
def ogetG:Gc:=fun args s=>match args,s.g with
 | [.ptr b 0,.int .i64 a],[]=>(match s.h.get b with
   | some (.cells [.int .i64 most,.slo o 0 d 0] none)=>(match s.h.get o with
     | some (.obj F_o cs e)=>(match s.h.get e with
       | some (.dead)=>cond (nodupB [b,o,e]) (match s.lay [b,o,e] [.cells [.int .i64 most,.slo o 0 d 0] none,.obj orF cs s.n,.dead] [.dead] with
         | some s'=>some ([okR most cs d,isF F_o orF],.tup [.int .u64 (lgV cs a),.bool (lgB cs a)],s')
         | none=>none) none
       | _=>none)
     | _=>none)
   | _=>none)
 | _,_=>none
theorem ogetG_ok:GOk prog 94 ogetG:=by
 intro args s bs l s' hg hb hfr
 unfold ogetG at hg
 split at hg
 ·rename_i b a hgl
  split at hg
  ·rename_i most o d hb0
   split at hg
   ·rename_i F_o cs e hb1
    split at hg
    ·rename_i  hb2
     cases hbc:nodupB [b,o,e] with
     | false=>rw [hbc] at hg; cases hg
     | true =>
       rw [hbc] at hg
       simp only [cond_true] at hg
       split at hg
       ·rename_i s1 hs1
        simp only [Option.some.injEq,Prod.mk.injEq] at hg
        obtain⟨rfl,rfl,rfl⟩:=hg
        simp only [allT_cons] at hb
        obtain⟨k1,k2,_⟩:=hb
        have e_o:=isF_eq k2
        subst e_o
        refine SFun.lay (bs:=[.cells [.int .i64 most,.slo 1 0 d 0] none,.obj orF cs 2,.dead]) (args0:=[.ptr 0 0,.int .i64 a]) (bs':=[.cells [.int .i64 most,.slo 1 0 d 0] none,.obj orF cs 3,.dead,.dead]) (v0:=.tup [.int .u64 (lgV cs a),.bool (lgB cs a)]) hfr hs1 (nodupB_nd hbc)
         ⟨⟨there hfr hb0,_,hb0,by first | exact lb_same rfl | exact lb_cells (lws_cons (lw_int) (lws_cons (lw_slo rfl) lws_nil)) (by simp),fun κ hκ=>lb_cells (lws_cons (lw_int) (lws_cons (lw_slo (hκ 1 o rfl)) lws_nil)) (by simp)⟩,⟨there hfr hb1,_,hb1,lb_obj rfl,fun κ hκ=>lb_obj (hκ 2 e rfl)⟩,⟨there hfr hb2,_,hb2,lb_dead,fun κ hκ=>lb_dead⟩,trivial⟩ (by(exact zTl)) ?_
         fun κ h1 h2=>⟨⟨lb_cells (lws_cons (lw_int) (lws_cons (lw_slo (h1 1 o rfl)) lws_nil)) (by simp),lb_obj (h2 0 (by simp)),lb_dead,lb_dead,trivial⟩,lw_noid rfl⟩
        rw [hgl]; exact(oget_c most a d cs k1)
       ·cases hg
    ·cases hg
   ·cases hg
  ·cases hg
 ·cases hg
def oputlG:Gc:=fun args s=>match args,s.g with
 | [.ptr b 0,.int .i64 a,.int .u64 v],[]=>(match s.h.get b with
   | some (.cells [.int .i64 most,.slo o 0 d 0] none)=>(match s.h.get o with
     | some (.obj F_o cs e)=>(match s.h.get e with
       | some (.dead)=>cond (nodupB [b,o,e]) (match s.lay [b,o,e] [.cells [.int .i64 most,.slo o 0 (lpD most cs a v) 0] none,.obj orF (lpC most cs a v) s.n,.dead] [.dead] with
         | some s'=>some ([okR most cs d,isF F_o orF],.int .i64 (lpE most cs a v),s')
         | none=>none) none
       | _=>none)
     | _=>none)
   | _=>none)
 | _,_=>none
theorem oputlG_ok:GOk prog 98 oputlG:=by
 intro args s bs l s' hg hb hfr
 unfold oputlG at hg
 split at hg
 ·rename_i b a v hgl
  split at hg
  ·rename_i most o d hb0
   split at hg
   ·rename_i F_o cs e hb1
    split at hg
    ·rename_i  hb2
     cases hbc:nodupB [b,o,e] with
     | false=>rw [hbc] at hg; cases hg
     | true =>
       rw [hbc] at hg
       simp only [cond_true] at hg
       split at hg
       ·rename_i s1 hs1
        simp only [Option.some.injEq,Prod.mk.injEq] at hg
        obtain⟨rfl,rfl,rfl⟩:=hg
        simp only [allT_cons] at hb
        obtain⟨k1,k2,_⟩:=hb
        have e_o:=isF_eq k2
        subst e_o
        refine SFun.lay (bs:=[.cells [.int .i64 most,.slo 1 0 d 0] none,.obj orF cs 2,.dead]) (args0:=[.ptr 0 0,.int .i64 a,.int .u64 v]) (bs':=[.cells [.int .i64 most,.slo 1 0 (lpD most cs a v) 0] none,.obj orF (lpC most cs a v) 3,.dead,.dead]) (v0:=.int .i64 (lpE most cs a v)) hfr hs1 (nodupB_nd hbc)
         ⟨⟨there hfr hb0,_,hb0,by first | exact lb_same rfl | exact lb_cells (lws_cons (lw_int) (lws_cons (lw_slo rfl) lws_nil)) (by simp),fun κ hκ=>lb_cells (lws_cons (lw_int) (lws_cons (lw_slo (hκ 1 o rfl)) lws_nil)) (by simp)⟩,⟨there hfr hb1,_,hb1,lb_obj rfl,fun κ hκ=>lb_obj (hκ 2 e rfl)⟩,⟨there hfr hb2,_,hb2,lb_dead,fun κ hκ=>lb_dead⟩,trivial⟩ (by(exact zTl)) ?_
         fun κ h1 h2=>⟨⟨lb_cells (lws_cons (lw_int) (lws_cons (lw_slo (h1 1 o rfl)) lws_nil)) (by simp),lb_obj (h2 0 (by simp)),lb_dead,lb_dead,trivial⟩,lw_int⟩
        rw [hgl]; exact(oputl_c most a v d cs k1)
       ·cases hg
    ·cases hg
   ·cases hg
  ·cases hg
 ·cases hg
def onewG:Gc:=fun args s=>match args,s.g with
 | [.int .i64 m],[]=>(match s.lay [] [] [.cells [.int .i64 (xmn (xmx m 0) 96),.slo (Nat.succ s.n) 0 1 0] none,.obj orF newC (Nat.succ (Nat.succ s.n)),.dead] with
   | some s'=>some ([],.ptr s.n 0,s')
   | none=>none)
 | _,_=>none
theorem onewG_ok:GOk prog 63 onewG:=by
 intro args s bs l s' hg hb hfr
 unfold onewG at hg
 split at hg
 ·rename_i m hgl
  split at hg
  ·rename_i s1 hs1
   simp only [Option.some.injEq,Prod.mk.injEq] at hg
   obtain⟨rfl,rfl,rfl⟩:=hg
   refine SFun.lay (bs:=[]) (args0:=[.int .i64 m]) (bs':=[.cells [.int .i64 (xmn (xmx m 0) 96),.slo 1 0 1 0] none,.obj orF newC 2,.dead]) (v0:=.ptr 0 0) hfr hs1 (by simp)
    trivial (by(exact zTl)) ?_
    fun κ h1 h2=>⟨⟨lb_cells (lws_cons (lw_int) (lws_cons (lw_slo (h2 1 (by simp))) lws_nil)) (by simp),lb_obj (h2 2 (by simp)),lb_dead,trivial⟩,lw_ptr (h2 0 (by simp))⟩
   rw [hgl]; exact(onew_ok m)
  ·cases hg
 ·cases hg
end
end Go.Lev
