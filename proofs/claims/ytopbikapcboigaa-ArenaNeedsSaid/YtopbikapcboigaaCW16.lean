/- chapter 9: the reference's levels: Open, Drop, New; contracts -/
import Derived.Test.YtopbikapcboigaaCW15
import Derived.Test.YtopbikapcboigaaLc
import Derived.Test.YtopbikapcboigaaChecked
import Derived.KernelRfl
namespace Go.Lev
set_option linter.unusedSimpArgs false
set_option linter.unusedVariables false
open Go.RowKit
open Go.Proofs.Try (prog)
set_option maxRecDepth 100000
noncomputable section
abbrev orX1 (most:Int) (n0 m0:Nat) (q0 f0:List LV):List LB:=[.cells [.int .i64 most,.slo 3 0 1 0] none,.dead,.dead,.cells [.slo 4 0 n0 0,.slo 5 0 m0 0] (some 2),.cells q0 (some 2),.cells f0 (some 1)]
abbrev orX2 (most:Int) (n0 m0 n1 m1:Nat) (q0 f0 q1 f1:List LV):List LB:=[.cells [.int .i64 most,.slo 3 0 2 0] none,.dead,.dead,.cells [.slo 6 0 n1 0,.slo 7 0 m1 0,.slo 4 0 n0 0,.slo 5 0 m0 0] (some 2),.cells q0 (some 2),.cells f0 (some 1),.cells q1 (some 2),.cells f1 (some 1)]
abbrev orX3 (most:Int) (n0 m0 n1 m1 n2 m2:Nat) (q0 f0 q1 f1 q2 f2:List LV):List LB:=[.cells [.int .i64 most,.slo 3 0 3 0] none,.dead,.dead,.cells [.slo 8 0 n2 0,.slo 9 0 m2 0,.slo 6 0 n1 0,.slo 7 0 m1 0,.slo 4 0 n0 0,.slo 5 0 m0 0] (some 2),.cells q0 (some 2),.cells f0 (some 1),.cells q1 (some 2),.cells f1 (some 1),.cells q2 (some 2),.cells f2 (some 1)]
abbrev orX4 (most:Int) (n0 m0 n1 m1 n2 m2 n3 m3:Nat) (q0 f0 q1 f1 q2 f2 q3 f3:List LV):List LB:=[.cells [.int .i64 most,.slo 3 0 4 0] none,.dead,.dead,.cells [.slo 10 0 n3 0,.slo 11 0 m3 0,.slo 8 0 n2 0,.slo 9 0 m2 0,.slo 6 0 n1 0,.slo 7 0 m1 0,.slo 4 0 n0 0,.slo 5 0 m0 0] (some 2),.cells q0 (some 2),.cells f0 (some 1),.cells q1 (some 2),.cells f1 (some 1),.cells q2 (some 2),.cells f2 (some 1),.cells q3 (some 2),.cells f3 (some 1)]
abbrev orX5 (most:Int) (n0 m0 n1 m1 n2 m2 n3 m3 n4 m4:Nat) (q0 f0 q1 f1 q2 f2 q3 f3 q4 f4:List LV):List LB:=[.cells [.int .i64 most,.slo 3 0 5 0] none,.dead,.dead,.cells [.slo 12 0 n4 0,.slo 13 0 m4 0,.slo 10 0 n3 0,.slo 11 0 m3 0,.slo 8 0 n2 0,.slo 9 0 m2 0,.slo 6 0 n1 0,.slo 7 0 m1 0,.slo 4 0 n0 0,.slo 5 0 m0 0] (some 2),.cells q0 (some 2),.cells f0 (some 1),.cells q1 (some 2),.cells f1 (some 1),.cells q2 (some 2),.cells f2 (some 1),.cells q3 (some 2),.cells f3 (some 1),.cells q4 (some 2),.cells f4 (some 1)]
abbrev orX6 (most:Int) (n0 m0 n1 m1 n2 m2 n3 m3 n4 m4 n5 m5:Nat) (q0 f0 q1 f1 q2 f2 q3 f3 q4 f4 q5 f5:List LV):List LB:=[.cells [.int .i64 most,.slo 3 0 6 0] none,.dead,.dead,.cells [.slo 14 0 n5 0,.slo 15 0 m5 0,.slo 12 0 n4 0,.slo 13 0 m4 0,.slo 10 0 n3 0,.slo 11 0 m3 0,.slo 8 0 n2 0,.slo 9 0 m2 0,.slo 6 0 n1 0,.slo 7 0 m1 0,.slo 4 0 n0 0,.slo 5 0 m0 0] (some 2),.cells q0 (some 2),.cells f0 (some 1),.cells q1 (some 2),.cells f1 (some 1),.cells q2 (some 2),.cells f2 (some 1),.cells q3 (some 2),.cells f3 (some 1),.cells q4 (some 2),.cells f4 (some 1),.cells q5 (some 2),.cells f5 (some 1)]
theorem oopen_1 (most:Int) (x0:Lv) (h:OkLs [x0]):SSp prog 19 ((sp prog 53).drop 0) 3 (tm0 [.ptr 0 0]) (mkS (orU most [x0] [])) (vK [2] (endK 3 [2] [2] [] (orP most (opL [x0]) (.int .i64 (opE [x0]))))):=by
 have hr:=(opL_ok h).1
 refine zE cxo1_ok ?_
 show xsp _ _ _ _ _ _ (mkS (at1 (orH1 most) x0)) _
 rw [oo_1]
 exact⟨trivial,rfl,.int .i64 0,orX2 most 0 0 x0.1.length x0.2.length [] [] (encL cell x0.1) (encL (cI .i64) x0.2),[.id 0,.id 1,.id 2,.id 6,.none,.none,.id 3,.id 4],⟨rfl,hr,rfl⟩,by(exact zC)⟩
theorem odrop_1 (most:Int) (x0:Lv) (h:OkLs [x0]):SSp prog 23 ((sp prog 57).drop 0) 3 (tm0 [.ptr 0 0]) (mkS (orU most [x0] [])) (vK [2] (endK 3 [2] [2] [] (orP most (drL [x0]) (.int .i64 (clE [x0]))))):=by
 have hr:=(drL_ok h).1
 refine zE cxo1_ok ?_
 show xsp _ _ _ _ _ _ (mkS (at1 (orH1 most) x0)) _
 rw [od_1]
 exact⟨trivial,rfl,.int .i64 10,at1 (orX1 most) x0,[.id 0,.id 1,.id 2,.id 1,.id 3,.id 4],⟨rfl,hr,rfl⟩,by(exact zC)⟩
theorem oopen_2 (most:Int) (x0 x1:Lv) (h:OkLs [x0,x1]):SSp prog 19 ((sp prog 53).drop 0) 3 (tm0 [.ptr 0 0]) (mkS (orU most [x0,x1] [])) (vK [2] (endK 3 [2] [2] [] (orP most (opL [x0,x1]) (.int .i64 (opE [x0,x1]))))):=by
 have hr:=(opL_ok h).1
 refine zE cxo1_ok ?_
 show xsp _ _ _ _ _ _ (mkS (at2 (orH2 most) x0 x1)) _
 rw [oo_2]
 exact⟨trivial,rfl,.int .i64 0,orX3 most 0 0 x0.1.length x0.2.length x1.1.length x1.2.length [] [] (encL cell x0.1) (encL (cI .i64) x0.2) (encL cell x1.1) (encL (cI .i64) x1.2),[.id 0,.id 1,.id 2,.id 8,.none,.none,.id 3,.id 4,.id 5,.id 6],⟨rfl,hr,rfl⟩,by(exact zC)⟩
theorem odrop_2 (most:Int) (x0 x1:Lv) (h:OkLs [x0,x1]):SSp prog 23 ((sp prog 57).drop 0) 3 (tm0 [.ptr 0 0]) (mkS (orU most [x0,x1] [])) (vK [2] (endK 3 [2] [2] [] (orP most (drL [x0,x1]) (.int .i64 (clE [x0,x1]))))):=by
 have hr:=(drL_ok h).1
 refine zE cxo1_ok ?_
 show xsp _ _ _ _ _ _ (mkS (at2 (orH2 most) x0 x1)) _
 rw [od_2]
 exact⟨trivial,rfl,.int .i64 0,at1 (orX1 most) x1,[.id 0,.id 1,.id 2,.drop 1 0 0,.id 5,.id 6],⟨rfl,hr,rfl⟩,by(exact zD)⟩
theorem oopen_3 (most:Int) (x0 x1 x2:Lv) (h:OkLs [x0,x1,x2]):SSp prog 19 ((sp prog 53).drop 0) 3 (tm0 [.ptr 0 0]) (mkS (orU most [x0,x1,x2] [])) (vK [2] (endK 3 [2] [2] [] (orP most (opL [x0,x1,x2]) (.int .i64 (opE [x0,x1,x2]))))):=by
 have hr:=(opL_ok h).1
 refine zE cxo1_ok ?_
 show xsp _ _ _ _ _ _ (mkS (at3 (orH3 most) x0 x1 x2)) _
 rw [oo_3]
 exact⟨trivial,rfl,.int .i64 0,orX4 most 0 0 x0.1.length x0.2.length x1.1.length x1.2.length x2.1.length x2.2.length [] [] (encL cell x0.1) (encL (cI .i64) x0.2) (encL cell x1.1) (encL (cI .i64) x1.2) (encL cell x2.1) (encL (cI .i64) x2.2),[.id 0,.id 1,.id 2,.id 10,.none,.none,.id 3,.id 4,.id 5,.id 6,.id 7,.id 8],⟨rfl,hr,rfl⟩,by(exact zC)⟩
theorem odrop_3 (most:Int) (x0 x1 x2:Lv) (h:OkLs [x0,x1,x2]):SSp prog 23 ((sp prog 57).drop 0) 3 (tm0 [.ptr 0 0]) (mkS (orU most [x0,x1,x2] [])) (vK [2] (endK 3 [2] [2] [] (orP most (drL [x0,x1,x2]) (.int .i64 (clE [x0,x1,x2]))))):=by
 have hr:=(drL_ok h).1
 refine zE cxo1_ok ?_
 show xsp _ _ _ _ _ _ (mkS (at3 (orH3 most) x0 x1 x2)) _
 rw [od_3]
 exact⟨trivial,rfl,.int .i64 0,at2 (orX2 most) x1 x2,[.id 0,.id 1,.id 2,.drop 1 0 0,.id 5,.id 6,.id 7,.id 8],⟨rfl,hr,rfl⟩,by(exact zD)⟩
theorem oopen_4 (most:Int) (x0 x1 x2 x3:Lv) (h:OkLs [x0,x1,x2,x3]):SSp prog 19 ((sp prog 53).drop 0) 3 (tm0 [.ptr 0 0]) (mkS (orU most [x0,x1,x2,x3] [])) (vK [2] (endK 3 [2] [2] [] (orP most (opL [x0,x1,x2,x3]) (.int .i64 (opE [x0,x1,x2,x3]))))):=by
 have hr:=(opL_ok h).1
 refine zE cxo1_ok ?_
 show xsp _ _ _ _ _ _ (mkS (at4 (orH4 most) x0 x1 x2 x3)) _
 rw [oo_4]
 exact⟨trivial,rfl,.int .i64 0,orX5 most 0 0 x0.1.length x0.2.length x1.1.length x1.2.length x2.1.length x2.2.length x3.1.length x3.2.length [] [] (encL cell x0.1) (encL (cI .i64) x0.2) (encL cell x1.1) (encL (cI .i64) x1.2) (encL cell x2.1) (encL (cI .i64) x2.2) (encL cell x3.1) (encL (cI .i64) x3.2),[.id 0,.id 1,.id 2,.id 12,.none,.none,.id 3,.id 4,.id 5,.id 6,.id 7,.id 8,.id 9,.id 10],⟨rfl,hr,rfl⟩,by(exact zC)⟩
theorem odrop_4 (most:Int) (x0 x1 x2 x3:Lv) (h:OkLs [x0,x1,x2,x3]):SSp prog 23 ((sp prog 57).drop 0) 3 (tm0 [.ptr 0 0]) (mkS (orU most [x0,x1,x2,x3] [])) (vK [2] (endK 3 [2] [2] [] (orP most (drL [x0,x1,x2,x3]) (.int .i64 (clE [x0,x1,x2,x3]))))):=by
 have hr:=(drL_ok h).1
 refine zE cxo1_ok ?_
 show xsp _ _ _ _ _ _ (mkS (at4 (orH4 most) x0 x1 x2 x3)) _
 rw [od_4]
 exact⟨trivial,rfl,.int .i64 0,at3 (orX3 most) x1 x2 x3,[.id 0,.id 1,.id 2,.drop 1 0 0,.id 5,.id 6,.id 7,.id 8,.id 9,.id 10],⟨rfl,hr,rfl⟩,by(exact zD)⟩
theorem oopen_5 (most:Int) (x0 x1 x2 x3 x4:Lv) (h:OkLs [x0,x1,x2,x3,x4]):SSp prog 19 ((sp prog 53).drop 0) 3 (tm0 [.ptr 0 0]) (mkS (orU most [x0,x1,x2,x3,x4] [])) (vK [2] (endK 3 [2] [2] [] (orP most (opL [x0,x1,x2,x3,x4]) (.int .i64 (opE [x0,x1,x2,x3,x4]))))):=by
 have hr:=(opL_ok h).1
 refine zE cxo1_ok ?_
 show xsp _ _ _ _ _ _ (mkS (at5 (orH5 most) x0 x1 x2 x3 x4)) _
 rw [oo_5]
 exact⟨trivial,rfl,.int .i64 0,orX6 most 0 0 x0.1.length x0.2.length x1.1.length x1.2.length x2.1.length x2.2.length x3.1.length x3.2.length x4.1.length x4.2.length [] [] (encL cell x0.1) (encL (cI .i64) x0.2) (encL cell x1.1) (encL (cI .i64) x1.2) (encL cell x2.1) (encL (cI .i64) x2.2) (encL cell x3.1) (encL (cI .i64) x3.2) (encL cell x4.1) (encL (cI .i64) x4.2),[.id 0,.id 1,.id 2,.id 14,.none,.none,.id 3,.id 4,.id 5,.id 6,.id 7,.id 8,.id 9,.id 10,.id 11,.id 12],⟨rfl,hr,rfl⟩,by(exact zC)⟩
theorem odrop_5 (most:Int) (x0 x1 x2 x3 x4:Lv) (h:OkLs [x0,x1,x2,x3,x4]):SSp prog 23 ((sp prog 57).drop 0) 3 (tm0 [.ptr 0 0]) (mkS (orU most [x0,x1,x2,x3,x4] [])) (vK [2] (endK 3 [2] [2] [] (orP most (drL [x0,x1,x2,x3,x4]) (.int .i64 (clE [x0,x1,x2,x3,x4]))))):=by
 have hr:=(drL_ok h).1
 refine zE cxo1_ok ?_
 show xsp _ _ _ _ _ _ (mkS (at5 (orH5 most) x0 x1 x2 x3 x4)) _
 rw [od_5]
 exact⟨trivial,rfl,.int .i64 0,at4 (orX4 most) x1 x2 x3 x4,[.id 0,.id 1,.id 2,.drop 1 0 0,.id 5,.id 6,.id 7,.id 8,.id 9,.id 10,.id 11,.id 12],⟨rfl,hr,rfl⟩,by(exact zD)⟩
theorem oopen_6 (most:Int) (x0 x1 x2 x3 x4 x5:Lv) (h:OkLs [x0,x1,x2,x3,x4,x5]):SSp prog 19 ((sp prog 53).drop 0) 3 (tm0 [.ptr 0 0]) (mkS (orU most [x0,x1,x2,x3,x4,x5] [])) (vK [2] (endK 3 [2] [2] [] (orP most (opL [x0,x1,x2,x3,x4,x5]) (.int .i64 (opE [x0,x1,x2,x3,x4,x5]))))):=by
 have hr:=(opL_ok h).1
 refine zE cxo1_ok ?_
 show xsp _ _ _ _ _ _ (mkS (at6 (orH6 most) x0 x1 x2 x3 x4 x5)) _
 rw [oo_6]
 exact⟨trivial,rfl,.int .i64 9,at6 (orX6 most) x0 x1 x2 x3 x4 x5,[.id 0,.id 1,.id 2,.id 1,.id 3,.id 4,.id 5,.id 6,.id 7,.id 8,.id 9,.id 10,.id 11,.id 12,.id 13,.id 14],⟨rfl,hr,rfl⟩,by(exact zC)⟩
theorem odrop_6 (most:Int) (x0 x1 x2 x3 x4 x5:Lv) (h:OkLs [x0,x1,x2,x3,x4,x5]):SSp prog 23 ((sp prog 57).drop 0) 3 (tm0 [.ptr 0 0]) (mkS (orU most [x0,x1,x2,x3,x4,x5] [])) (vK [2] (endK 3 [2] [2] [] (orP most (drL [x0,x1,x2,x3,x4,x5]) (.int .i64 (clE [x0,x1,x2,x3,x4,x5]))))):=by
 have hr:=(drL_ok h).1
 refine zE cxo1_ok ?_
 show xsp _ _ _ _ _ _ (mkS (at6 (orH6 most) x0 x1 x2 x3 x4 x5)) _
 rw [od_6]
 exact⟨trivial,rfl,.int .i64 0,at5 (orX5 most) x1 x2 x3 x4 x5,[.id 0,.id 1,.id 2,.drop 1 0 0,.id 5,.id 6,.id 7,.id 8,.id 9,.id 10,.id 11,.id 12,.id 13,.id 14],⟨rfl,hr,rfl⟩,by(exact zD)⟩
theorem oopen_ok (most:Int) (ls:List Lv):SFun prog 53 [.ptr 0 0] (mkS (orS most ls.length (encLs ls) [])) fun l t=>l=.int .i64 (opE ls)∧t=mkS (orN most (opL ls).length (encLs (opL ls))):=by
 refine or_move (nt:=19) (L:=[2]) (ts:=[2]) (by kernel_rfl) rfl rfl (by kernel_rfl) rfl fun h=>Ls.cases h ?_ ?_ ?_ ?_ ?_ ?_
 ·intro x0 e; subst e; exact oopen_1 most x0 h
 ·intro x0 x1 e; subst e; exact oopen_2 most x0 x1 h
 ·intro x0 x1 x2 e; subst e; exact oopen_3 most x0 x1 x2 h
 ·intro x0 x1 x2 x3 e; subst e; exact oopen_4 most x0 x1 x2 x3 h
 ·intro x0 x1 x2 x3 x4 e; subst e; exact oopen_5 most x0 x1 x2 x3 x4 h
 ·intro x0 x1 x2 x3 x4 x5 e; subst e; exact oopen_6 most x0 x1 x2 x3 x4 x5 h
theorem oopen_c (most:Int) (d:Nat) (cs:List LV) (k1:okR most cs d=true):SFun prog 53 [.ptr 0 0] (mkS (orS most d cs [])) fun l t=>l=.int .i64 (lopenE cs)∧t=mkS (orN most (lopenD cs) (lopenC cs)):=by
 obtain⟨ls,rfl,rfl,h,h1,h2⟩:=okR_iff.1 k1
 simp only [lopenE,lopenD,lopenC,decLs_enc]
 exact oopen_ok most ls
def oopenG:Gc:=fun args s=>match args,s.g with
 | [.ptr b 0],[]=>(match s.h.get b with
   | some (.cells [.int .i64 most,.slo o 0 d 0] none)=>(match s.h.get o with
     | some (.obj F_o cs e)=>(match s.h.get e with
       | some (.dead)=>cond (nodupB [b,o,e]) (match s.lay [b,o,e] [.cells [.int .i64 most,.slo s.n 0 (lopenD cs) 0] none,.dead,.dead] [.obj orF (lopenC cs) (Nat.succ s.n),.dead] with
         | some s'=>some ([okR most cs d,isF F_o orF],.int .i64 (lopenE cs),s')
         | none=>none) none
       | _=>none)
     | _=>none)
   | _=>none)
 | _,_=>none
theorem oopenG_ok:GOk prog 53 oopenG:=by
 intro args s bs l s' hg hb hfr
 unfold oopenG at hg
 split at hg
 ·rename_i b hgl
  split at hg
  ·rename_i most o d hb0
   split at hg
   ·rename_i F_o cs e hb1
    split at hg
    ·rename_i  hb2
     cases hbc:nodupB [b,o,e] with
     | false=>rw [hbc] at hg; cases hg
     | true =>
       rw [hbc] at hg
       simp only [cond_true] at hg
       split at hg
       ·rename_i s1 hs1
        simp only [Option.some.injEq,Prod.mk.injEq] at hg
        obtain⟨rfl,rfl,rfl⟩:=hg
        simp only [allT_cons] at hb
        obtain⟨k1,k2,_⟩:=hb
        have e_o:=isF_eq k2
        subst e_o
        refine SFun.lay (bs:=[.cells [.int .i64 most,.slo 1 0 d 0] none,.obj orF cs 2,.dead]) (args0:=[.ptr 0 0]) (bs':=[.cells [.int .i64 most,.slo 3 0 (lopenD cs) 0] none,.dead,.dead,.obj orF (lopenC cs) 4,.dead]) (v0:=.int .i64 (lopenE cs)) hfr hs1 (nodupB_nd hbc)
         ⟨⟨there hfr hb0,_,hb0,by first | exact lb_same rfl | exact lb_cells (lws_cons (lw_int) (lws_cons (lw_slo rfl) lws_nil)) (by simp),fun κ hκ=>lb_cells (lws_cons (lw_int) (lws_cons (lw_slo (hκ 1 o rfl)) lws_nil)) (by simp)⟩,⟨there hfr hb1,_,hb1,lb_obj rfl,fun κ hκ=>lb_obj (hκ 2 e rfl)⟩,⟨there hfr hb2,_,hb2,lb_dead,fun κ hκ=>lb_dead⟩,trivial⟩ (by(exact zTl)) ?_
         fun κ h1 h2=>⟨⟨lb_cells (lws_cons (lw_int) (lws_cons (lw_slo (h2 0 (by simp))) lws_nil)) (by simp),lb_dead,lb_dead,lb_obj (h2 1 (by simp)),lb_dead,trivial⟩,lw_int⟩
        rw [hgl]; exact(oopen_c most d cs k1)
       ·cases hg
    ·cases hg
   ·cases hg
  ·cases hg
 ·cases hg
theorem odrop_ok (most:Int) (ls:List Lv):SFun prog 57 [.ptr 0 0] (mkS (orS most ls.length (encLs ls) [])) fun l t=>l=.int .i64 (clE ls)∧t=mkS (orN most (drL ls).length (encLs (drL ls))):=by
 refine or_move (nt:=23) (L:=[2]) (ts:=[2]) (by kernel_rfl) rfl rfl (by kernel_rfl) rfl fun h=>Ls.cases h ?_ ?_ ?_ ?_ ?_ ?_
 ·intro x0 e; subst e; exact odrop_1 most x0 h
 ·intro x0 x1 e; subst e; exact odrop_2 most x0 x1 h
 ·intro x0 x1 x2 e; subst e; exact odrop_3 most x0 x1 x2 h
 ·intro x0 x1 x2 x3 e; subst e; exact odrop_4 most x0 x1 x2 x3 h
 ·intro x0 x1 x2 x3 x4 e; subst e; exact odrop_5 most x0 x1 x2 x3 x4 h
 ·intro x0 x1 x2 x3 x4 x5 e; subst e; exact odrop_6 most x0 x1 x2 x3 x4 x5 h
theorem odrop_c (most:Int) (d:Nat) (cs:List LV) (k1:okR most cs d=true):SFun prog 57 [.ptr 0 0] (mkS (orS most d cs [])) fun l t=>l=.int .i64 (ldropE cs)∧t=mkS (orN most (ldropD cs) (ldropC cs)):=by
 obtain⟨ls,rfl,rfl,h,h1,h2⟩:=okR_iff.1 k1
 simp only [ldropE,ldropD,ldropC,decLs_enc]
 exact odrop_ok most ls
def odropG:Gc:=fun args s=>match args,s.g with
 | [.ptr b 0],[]=>(match s.h.get b with
   | some (.cells [.int .i64 most,.slo o 0 d 0] none)=>(match s.h.get o with
     | some (.obj F_o cs e)=>(match s.h.get e with
       | some (.dead)=>cond (nodupB [b,o,e]) (match s.lay [b,o,e] [.cells [.int .i64 most,.slo s.n 0 (ldropD cs) 0] none,.dead,.dead] [.obj orF (ldropC cs) (Nat.succ s.n),.dead] with
         | some s'=>some ([okR most cs d,isF F_o orF],.int .i64 (ldropE cs),s')
         | none=>none) none
       | _=>none)
     | _=>none)
   | _=>none)
 | _,_=>none
theorem odropG_ok:GOk prog 57 odropG:=by
 intro args s bs l s' hg hb hfr
 unfold odropG at hg
 split at hg
 ·rename_i b hgl
  split at hg
  ·rename_i most o d hb0
   split at hg
   ·rename_i F_o cs e hb1
    split at hg
    ·rename_i  hb2
     cases hbc:nodupB [b,o,e] with
     | false=>rw [hbc] at hg; cases hg
     | true =>
       rw [hbc] at hg
       simp only [cond_true] at hg
       split at hg
       ·rename_i s1 hs1
        simp only [Option.some.injEq,Prod.mk.injEq] at hg
        obtain⟨rfl,rfl,rfl⟩:=hg
        simp only [allT_cons] at hb
        obtain⟨k1,k2,_⟩:=hb
        have e_o:=isF_eq k2
        subst e_o
        refine SFun.lay (bs:=[.cells [.int .i64 most,.slo 1 0 d 0] none,.obj orF cs 2,.dead]) (args0:=[.ptr 0 0]) (bs':=[.cells [.int .i64 most,.slo 3 0 (ldropD cs) 0] none,.dead,.dead,.obj orF (ldropC cs) 4,.dead]) (v0:=.int .i64 (ldropE cs)) hfr hs1 (nodupB_nd hbc)
         ⟨⟨there hfr hb0,_,hb0,by first | exact lb_same rfl | exact lb_cells (lws_cons (lw_int) (lws_cons (lw_slo rfl) lws_nil)) (by simp),fun κ hκ=>lb_cells (lws_cons (lw_int) (lws_cons (lw_slo (hκ 1 o rfl)) lws_nil)) (by simp)⟩,⟨there hfr hb1,_,hb1,lb_obj rfl,fun κ hκ=>lb_obj (hκ 2 e rfl)⟩,⟨there hfr hb2,_,hb2,lb_dead,fun κ hκ=>lb_dead⟩,trivial⟩ (by(exact zTl)) ?_
         fun κ h1 h2=>⟨⟨lb_cells (lws_cons (lw_int) (lws_cons (lw_slo (h2 0 (by simp))) lws_nil)) (by simp),lb_dead,lb_dead,lb_obj (h2 1 (by simp)),lb_dead,trivial⟩,lw_int⟩
        rw [hgl]; exact(odrop_c most d cs k1)
       ·cases hg
    ·cases hg
   ·cases hg
  ·cases hg
 ·cases hg
theorem oget_ok (most a:Int) (ls:List Lv):SFun prog 94 [.ptr 0 0,.int .i64 a] (mkS (orS most ls.length (encLs ls) [])) fun l t=>l=.tup [.int .u64 ((getL ls a).getD 0),.bool (getL ls a).isSome]∧t=mkS (orS' most ls.length (encLs ls) []):=by
 refine or_meth (nt:=42) (L:=[4,5]) (ts:=[4,5]) (by kernel_rfl) rfl rfl (by kernel_rfl) own3_nil (Nat.le_refl _) (fun ρ _=>lw_noid rfl) fun h=>Ls.cases h ?_ ?_ ?_ ?_ ?_ ?_
 ·intro x0 e; subst e; exact oget_1 most a x0 h
 ·intro x0 x1 e; subst e; exact oget_2 most a x0 x1 h
 ·intro x0 x1 x2 e; subst e; exact oget_3 most a x0 x1 x2 h
 ·intro x0 x1 x2 x3 e; subst e; exact oget_4 most a x0 x1 x2 x3 h
 ·intro x0 x1 x2 x3 x4 e; subst e; exact oget_5 most a x0 x1 x2 x3 x4 h
 ·intro x0 x1 x2 x3 x4 x5 e; subst e; exact oget_6 most a x0 x1 x2 x3 x4 x5 h
theorem oputl_ok (most a v:Int) (ls:List Lv) (hm:(totC ls:Int)≤most) (hm2:most≤96):SFun prog 98 [.ptr 0 0,.int .i64 a,.int .u64 v] (mkS (orS most ls.length (encLs ls) [])) fun l t=>l=.int .i64 (tkE most ls [(a,v)])∧t=mkS (orS' most (tkC most ls [(a,v)]).length (encLs (tkC most ls [(a,v)])) []):=by
 refine or_meth (nt:=54) (L:=[6]) (ts:=[6]) (by kernel_rfl) rfl rfl (by kernel_rfl) own3_nil (Nat.le_refl _) (fun ρ _=>lw_noid rfl) fun h=>Ls.cases h ?_ ?_ ?_ ?_ ?_ ?_
 ·intro x0 e; subst e; exact oputl_1 most a v x0 hm hm2 h
 ·intro x0 x1 e; subst e; exact oputl_2 most a v x0 x1 hm hm2 h
 ·intro x0 x1 x2 e; subst e; exact oputl_3 most a v x0 x1 x2 hm hm2 h
 ·intro x0 x1 x2 x3 e; subst e; exact oputl_4 most a v x0 x1 x2 x3 hm hm2 h
 ·intro x0 x1 x2 x3 x4 e; subst e; exact oputl_5 most a v x0 x1 x2 x3 x4 hm hm2 h
 ·intro x0 x1 x2 x3 x4 x5 e; subst e; exact oputl_6 most a v x0 x1 x2 x3 x4 x5 hm hm2 h
theorem ofree_ok (most b:Int) (ls:List Lv) (hf:totF ls < 100000):SFun prog 76 [.ptr 0 0,.int .i64 b] (mkS (orS most ls.length (encLs ls) [])) fun l t=>l=.tup []∧t=mkS (orS' most (frC ls b).length (encLs (frC ls b)) []):=by
 refine or_meth (nt:=30) (L:=[]) (ts:=[]) (by kernel_rfl) rfl rfl (by kernel_rfl) own3_nil (Nat.le_refl _) (fun ρ _=>lw_noid rfl) fun h=>Ls.cases h ?_ ?_ ?_ ?_ ?_ ?_
 ·intro x0 e; subst e; exact ofree_1 most b x0 hf h
 ·intro x0 x1 e; subst e; exact ofree_2 most b x0 x1 hf h
 ·intro x0 x1 x2 e; subst e; exact ofree_3 most b x0 x1 x2 hf h
 ·intro x0 x1 x2 x3 e; subst e; exact ofree_4 most b x0 x1 x2 x3 hf h
 ·intro x0 x1 x2 x3 x4 e; subst e; exact ofree_5 most b x0 x1 x2 x3 x4 hf h
 ·intro x0 x1 x2 x3 x4 x5 e; subst e; exact ofree_6 most b x0 x1 x2 x3 x4 x5 hf h
theorem onew_ok (m:Int):SFun prog 63 [.int .i64 m] (mkS []) fun l t=>l=.ptr 0 0∧t=mkS [.cells [.int .i64 (xmn (xmx m 0) 96),.slo 1 0 1 0] none,.obj orF (encLs [([],[])]) 2,.dead]:=by
 have key:=SFun.shut (P:=prog) (f:=63) (args:=[.int .i64 m]) (K:=orK) (bs:=[]) (B:=[.cells [.int .i64 (xmn (xmx m 0) 96),.slo 1 0 1 0] none,.dead]) (cs:=encLs [([],[])]) (l:=.ptr 0 0) (g:=[]) orK_ok 1 (by simp) (by simp) (fun ρ h=>⟨bk_cons (lb_cells (lws_cons lw_int (lws_cons (lw_slo (h 1 (by simp))) lws_nil)) (by simp)) (bk_cons lb_dead bk_nil),lw_ptr (h 0 (by simp))⟩) ?_
 ·exact key
 refine SFun.pieces (Q:=fun l1 b=>l1=.ptr 0 0∧∃ v:orK.σ,orK.enc v=encLs [([],[])]∧b=[.cells [.int .i64 (xmn (xmx m 0) 96),.slo 1 0 1 0] none,(orK.sh v 1 2).1]++(orK.sh v 1 2).2) 8 0 [2] [2] (by kernel_rfl) rfl rfl rfl ?_
 refine zE cxo1_ok ?_
 rw [on_x]
 by_cases c1:m < 0
 ·have e:xmn (xmx m 0) 96=0:=by simp only [wd_mn,wd_mx]; split <;> (try split) <;> omega
  (refine zR ?_)
  exact⟨trivial,rfl,.ptr 0 0,[.cells [.int .i64 0,.slo 1 0 1 0] none,.cells [.slo 2 0 0 0,.slo 3 0 0 0] (some 2),.cells [] (some 2),.cells [] (some 1)],[.id 1,.cap 0 0 1,.none,.none],⟨rfl,⟨_,ok1⟩,rfl,by rw [e]; rfl⟩,by(exact zD)⟩
 by_cases c2:96 < m
 ·have e:xmn (xmx m 0) 96=96:=by simp only [wd_mn,wd_mx]; split <;> (try split) <;> omega
  (refine zR ?_)
  exact⟨trivial,rfl,.ptr 0 0,[.cells [.int .i64 96,.slo 1 0 1 0] none,.cells [.slo 2 0 0 0,.slo 3 0 0 0] (some 2),.cells [] (some 2),.cells [] (some 1)],[.id 1,.cap 0 0 1,.none,.none],⟨rfl,⟨_,ok1⟩,rfl,by rw [e]; rfl⟩,by(exact zD)⟩
 ·have e:xmn (xmx m 0) 96=m:=by simp only [wd_mn,wd_mx]; split <;> (try split) <;> omega
  (refine zR ?_)
  exact⟨trivial,rfl,.ptr 0 0,[.cells [.int .i64 m,.slo 1 0 1 0] none,.cells [.slo 2 0 0 0,.slo 3 0 0 0] (some 2),.cells [] (some 2),.cells [] (some 1)],[.id 1,.cap 0 0 1,.none,.none],⟨rfl,⟨_,ok1⟩,rfl,by rw [e]; rfl⟩,by(exact zD)⟩
theorem oget_c (most a:Int) (d:Nat) (cs:List LV) (k1:okR most cs d=true):SFun prog 94 [.ptr 0 0,.int .i64 a] (mkS (orS most d cs [])) fun l t=>l=.tup [.int .u64 (lgV cs a),.bool (lgB cs a)]∧t=mkS (orS' most d cs []):=by
 obtain⟨ls,rfl,rfl,h,_⟩:=okR_iff.1 k1
 simp only [lgV,lgB,decLs_enc]
 exact oget_ok most a ls
theorem oputl_c (most a v:Int) (d:Nat) (cs:List LV) (k1:okR most cs d=true):SFun prog 98 [.ptr 0 0,.int .i64 a,.int .u64 v] (mkS (orS most d cs [])) fun l t=>l=.int .i64 (lpE most cs a v)∧t=mkS (orS' most (lpD most cs a v) (lpC most cs a v) []):=by
 obtain⟨ls,rfl,rfl,h,h1,h2⟩:=okR_iff.1 k1
 simp only [lpE,lpD,lpC,decLs_enc]
 exact oputl_ok most a v ls h1 h2
theorem ofree_c (most a:Int) (d:Nat) (cs:List LV) (k1:okR most cs d=true) (k2:okF cs=true):SFun prog 76 [.ptr 0 0,.int .i64 a] (mkS (orS most d cs [])) fun l t=>l=.tup []∧t=mkS (orS' most (lfD cs a) (lfC cs a) []):=by
 obtain⟨ls,rfl,rfl,h,h1,h2⟩:=okR_iff.1 k1
 simp only [okF,decLs_enc,decide_eq_true_eq] at k2
 simp only [lfD,lfC,decLs_enc]
 exact ofree_ok most a ls k2
def ogetG:Gc:=fun args s=>match args,s.g with
 | [.ptr b 0,.int .i64 a],[]=>(match s.h.get b with
   | some (.cells [.int .i64 most,.slo o 0 d 0] none)=>(match s.h.get o with
     | some (.obj F_o cs e)=>(match s.h.get e with
       | some (.dead)=>cond (nodupB [b,o,e]) (match s.lay [b,o,e] [.cells [.int .i64 most,.slo o 0 d 0] none,.obj orF cs s.n,.dead] [.dead] with
         | some s'=>some ([okR most cs d,isF F_o orF],.tup [.int .u64 (lgV cs a),.bool (lgB cs a)],s')
         | none=>none) none
       | _=>none)
     | _=>none)
   | _=>none)
 | _,_=>none
theorem ogetG_ok:GOk prog 94 ogetG:=by
 intro args s bs l s' hg hb hfr
 unfold ogetG at hg
 split at hg
 ·rename_i b a hgl
  split at hg
  ·rename_i most o d hb0
   split at hg
   ·rename_i F_o cs e hb1
    split at hg
    ·rename_i  hb2
     cases hbc:nodupB [b,o,e] with
     | false=>rw [hbc] at hg; cases hg
     | true =>
       rw [hbc] at hg
       simp only [cond_true] at hg
       split at hg
       ·rename_i s1 hs1
        simp only [Option.some.injEq,Prod.mk.injEq] at hg
        obtain⟨rfl,rfl,rfl⟩:=hg
        simp only [allT_cons] at hb
        obtain⟨k1,k2,_⟩:=hb
        have e_o:=isF_eq k2
        subst e_o
        refine SFun.lay (bs:=[.cells [.int .i64 most,.slo 1 0 d 0] none,.obj orF cs 2,.dead]) (args0:=[.ptr 0 0,.int .i64 a]) (bs':=[.cells [.int .i64 most,.slo 1 0 d 0] none,.obj orF cs 3,.dead,.dead]) (v0:=.tup [.int .u64 (lgV cs a),.bool (lgB cs a)]) hfr hs1 (nodupB_nd hbc)
         ⟨⟨there hfr hb0,_,hb0,by first | exact lb_same rfl | exact lb_cells (lws_cons (lw_int) (lws_cons (lw_slo rfl) lws_nil)) (by simp),fun κ hκ=>lb_cells (lws_cons (lw_int) (lws_cons (lw_slo (hκ 1 o rfl)) lws_nil)) (by simp)⟩,⟨there hfr hb1,_,hb1,lb_obj rfl,fun κ hκ=>lb_obj (hκ 2 e rfl)⟩,⟨there hfr hb2,_,hb2,lb_dead,fun κ hκ=>lb_dead⟩,trivial⟩ (by(exact zTl)) ?_
         fun κ h1 h2=>⟨⟨lb_cells (lws_cons (lw_int) (lws_cons (lw_slo (h1 1 o rfl)) lws_nil)) (by simp),lb_obj (h2 0 (by simp)),lb_dead,lb_dead,trivial⟩,lw_noid rfl⟩
        rw [hgl]; exact(oget_c most a d cs k1)
       ·cases hg
    ·cases hg
   ·cases hg
  ·cases hg
 ·cases hg
def oputlG:Gc:=fun args s=>match args,s.g with
 | [.ptr b 0,.int .i64 a,.int .u64 v],[]=>(match s.h.get b with
   | some (.cells [.int .i64 most,.slo o 0 d 0] none)=>(match s.h.get o with
     | some (.obj F_o cs e)=>(match s.h.get e with
       | some (.dead)=>cond (nodupB [b,o,e]) (match s.lay [b,o,e] [.cells [.int .i64 most,.slo o 0 (lpD most cs a v) 0] none,.obj orF (lpC most cs a v) s.n,.dead] [.dead] with
         | some s'=>some ([okR most cs d,isF F_o orF],.int .i64 (lpE most cs a v),s')
         | none=>none) none
       | _=>none)
     | _=>none)
   | _=>none)
 | _,_=>none
theorem oputlG_ok:GOk prog 98 oputlG:=by
 intro args s bs l s' hg hb hfr
 unfold oputlG at hg
 split at hg
 ·rename_i b a v hgl
  split at hg
  ·rename_i most o d hb0
   split at hg
   ·rename_i F_o cs e hb1
    split at hg
    ·rename_i  hb2
     cases hbc:nodupB [b,o,e] with
     | false=>rw [hbc] at hg; cases hg
     | true =>
       rw [hbc] at hg
       simp only [cond_true] at hg
       split at hg
       ·rename_i s1 hs1
        simp only [Option.some.injEq,Prod.mk.injEq] at hg
        obtain⟨rfl,rfl,rfl⟩:=hg
        simp only [allT_cons] at hb
        obtain⟨k1,k2,_⟩:=hb
        have e_o:=isF_eq k2
        subst e_o
        refine SFun.lay (bs:=[.cells [.int .i64 most,.slo 1 0 d 0] none,.obj orF cs 2,.dead]) (args0:=[.ptr 0 0,.int .i64 a,.int .u64 v]) (bs':=[.cells [.int .i64 most,.slo 1 0 (lpD most cs a v) 0] none,.obj orF (lpC most cs a v) 3,.dead,.dead]) (v0:=.int .i64 (lpE most cs a v)) hfr hs1 (nodupB_nd hbc)
         ⟨⟨there hfr hb0,_,hb0,by first | exact lb_same rfl | exact lb_cells (lws_cons (lw_int) (lws_cons (lw_slo rfl) lws_nil)) (by simp),fun κ hκ=>lb_cells (lws_cons (lw_int) (lws_cons (lw_slo (hκ 1 o rfl)) lws_nil)) (by simp)⟩,⟨there hfr hb1,_,hb1,lb_obj rfl,fun κ hκ=>lb_obj (hκ 2 e rfl)⟩,⟨there hfr hb2,_,hb2,lb_dead,fun κ hκ=>lb_dead⟩,trivial⟩ (by(exact zTl)) ?_
         fun κ h1 h2=>⟨⟨lb_cells (lws_cons (lw_int) (lws_cons (lw_slo (h1 1 o rfl)) lws_nil)) (by simp),lb_obj (h2 0 (by simp)),lb_dead,lb_dead,trivial⟩,lw_int⟩
        rw [hgl]; exact(oputl_c most a v d cs k1)
       ·cases hg
    ·cases hg
   ·cases hg
  ·cases hg
 ·cases hg
def ofreeG:Gc:=fun args s=>match args,s.g with
 | [.ptr b 0,.int .i64 a],[]=>(match s.h.get b with
   | some (.cells [.int .i64 most,.slo o 0 d 0] none)=>(match s.h.get o with
     | some (.obj F_o cs e)=>(match s.h.get e with
       | some (.dead)=>cond (nodupB [b,o,e]) (match s.lay [b,o,e] [.cells [.int .i64 most,.slo o 0 (lfD cs a) 0] none,.obj orF (lfC cs a) s.n,.dead] [.dead] with
         | some s'=>some ([okR most cs d,okF cs,isF F_o orF],.tup [],s')
         | none=>none) none
       | _=>none)
     | _=>none)
   | _=>none)
 | _,_=>none
theorem ofreeG_ok:GOk prog 76 ofreeG:=by
 intro args s bs l s' hg hb hfr
 unfold ofreeG at hg
 split at hg
 ·rename_i b a hgl
  split at hg
  ·rename_i most o d hb0
   split at hg
   ·rename_i F_o cs e hb1
    split at hg
    ·rename_i  hb2
     cases hbc:nodupB [b,o,e] with
     | false=>rw [hbc] at hg; cases hg
     | true =>
       rw [hbc] at hg
       simp only [cond_true] at hg
       split at hg
       ·rename_i s1 hs1
        simp only [Option.some.injEq,Prod.mk.injEq] at hg
        obtain⟨rfl,rfl,rfl⟩:=hg
        simp only [allT_cons] at hb
        obtain⟨k1,k2,k3,_⟩:=hb
        have e_o:=isF_eq k3
        subst e_o
        refine SFun.lay (bs:=[.cells [.int .i64 most,.slo 1 0 d 0] none,.obj orF cs 2,.dead]) (args0:=[.ptr 0 0,.int .i64 a]) (bs':=[.cells [.int .i64 most,.slo 1 0 (lfD cs a) 0] none,.obj orF (lfC cs a) 3,.dead,.dead]) (v0:=.tup []) hfr hs1 (nodupB_nd hbc)
         ⟨⟨there hfr hb0,_,hb0,by first | exact lb_same rfl | exact lb_cells (lws_cons (lw_int) (lws_cons (lw_slo rfl) lws_nil)) (by simp),fun κ hκ=>lb_cells (lws_cons (lw_int) (lws_cons (lw_slo (hκ 1 o rfl)) lws_nil)) (by simp)⟩,⟨there hfr hb1,_,hb1,lb_obj rfl,fun κ hκ=>lb_obj (hκ 2 e rfl)⟩,⟨there hfr hb2,_,hb2,lb_dead,fun κ hκ=>lb_dead⟩,trivial⟩ (by(exact zTl)) ?_
         fun κ h1 h2=>⟨⟨lb_cells (lws_cons (lw_int) (lws_cons (lw_slo (h1 1 o rfl)) lws_nil)) (by simp),lb_obj (h2 0 (by simp)),lb_dead,lb_dead,trivial⟩,lw_noid rfl⟩
        rw [hgl]; exact(ofree_c most a d cs k1 k2)
       ·cases hg
    ·cases hg
   ·cases hg
  ·cases hg
 ·cases hg
def onewG:Gc:=fun args s=>match args,s.g with
 | [.int .i64 m],[]=>(match s.lay [] [] [.cells [.int .i64 (xmn (xmx m 0) 96),.slo (Nat.succ s.n) 0 1 0] none,.obj orF newC (Nat.succ (Nat.succ s.n)),.dead] with
   | some s'=>some ([],.ptr s.n 0,s')
   | none=>none)
 | _,_=>none
theorem onewG_ok:GOk prog 63 onewG:=by
 intro args s bs l s' hg hb hfr
 unfold onewG at hg
 split at hg
 ·rename_i m hgl
  split at hg
  ·rename_i s1 hs1
   simp only [Option.some.injEq,Prod.mk.injEq] at hg
   obtain⟨rfl,rfl,rfl⟩:=hg
   refine SFun.lay (bs:=[]) (args0:=[.int .i64 m]) (bs':=[.cells [.int .i64 (xmn (xmx m 0) 96),.slo 1 0 1 0] none,.obj orF newC 2,.dead]) (v0:=.ptr 0 0) hfr hs1 (by simp)
    trivial (by(exact zTl)) ?_
    fun κ h1 h2=>⟨⟨lb_cells (lws_cons (lw_int) (lws_cons (lw_slo (h2 1 (by simp))) lws_nil)) (by simp),lb_obj (h2 2 (by simp)),lb_dead,trivial⟩,lw_ptr (h2 0 (by simp))⟩
   rw [hgl]; exact(onew_ok m)
  ·cases hg
 ·cases hg
end
end Go.Lev
