/- chapter 9: the code's levels: Put, Free -/
import Derived.Test.YtopbikapcboigaaCW9
import Derived.Test.YtopbikapcboigaaLc
import Derived.Test.YtopbikapcboigaaChecked
import Derived.KernelRfl
namespace Go.Lev
set_option linter.unusedSimpArgs false
set_option linter.unusedVariables false
open Go.RowKit
open Go.Proofs.Try (prog)
set_option maxRecDepth 100000
noncomputable section
theorem wT1e (m:Int) (xs:CL) (a v:Int):(wTk m xs [(a,v)]).1=wPe m xs a:=by
 rw [wTk]; split
 ·rename_i h; exact h.symm
 ·rfl
theorem wT1c (m:Int) (xs:CL) (a v:Int):wTc m xs [(a,v)]=wPc m xs a v:=by
 rw [wTc,wT1e,wPc]
 by_cases h:wPe m xs a=0
 ·rw [if_pos h,if_pos h,wTk,if_pos h]; rfl
 ·rw [if_neg h,if_neg h]
def frC (ls:List Lv) (b:Int):List Lv:=((inm ls).1,(inm ls).2++[b])::outs ls
theorem frC_ok {x:Lv} {r:List Lv} (h:OkLs (x::r)) (hf:totF (x::r) < 100000) (b:Int):OkLs (frC (x::r) b):=by
 obtain⟨u,k⟩:=h.uq x (by simp)
 have hc:=h.c
 simp only [totC] at hc; simp only [totF] at hf
 exact h.inmost u k (by simpa [inm,outs] using hc) (by simp only [inm,outs,List.length_append,List.length_singleton]; omega)
theorem lfree_1 (most b:Int) (x0:Lv) (hf:totF [x0] < 100000) (h:OkLs [x0]):SSp prog 17 ((sp prog 73).drop 0) 3 (tm0 [.ptr 0 0,.int .i64 b]) (mkS (lvU most [x0] [])) (vK [] (endK 3 [] [] [] (lvQ most (frC [x0] b) [] (.tup [])))):=by
 have hr:=frC_ok h hf b
 simp only [totF] at hf
 have nw:=noIds_Ii64 (x0.2++[b])
 have lw:(x0.2++[b]).length=x0.2.length+1:=by simp
 refine zE noCx_ok ?_
 show xsp _ _ _ _ _ _ (mkS (at1 (lvH1 most) x0)) _
 rw [lf_1]
 (refine zN2 @encIi64_push @encIi64_len ?_)
 (refine zR ?_)
 exact⟨trivial,rfl,.tup [],lvH1 most x0.1.length (x0.2++[b]).length (encL cell x0.1) (encL (cI .i64) (x0.2++[b])),[.id 0,.id 1,.id 2,.id 3,.id 4,.id 5,.id 8],⟨rfl,hr,rfl⟩,by rw [lw]; (exact zC)⟩
theorem lfree_2 (most b:Int) (x0 x1:Lv) (hf:totF [x0,x1] < 100000) (h:OkLs [x0,x1]):SSp prog 17 ((sp prog 73).drop 0) 3 (tm0 [.ptr 0 0,.int .i64 b]) (mkS (lvU most [x0,x1] [])) (vK [] (endK 3 [] [] [] (lvQ most (frC [x0,x1] b) [] (.tup [])))):=by
 have hr:=frC_ok h hf b
 simp only [totF] at hf
 have nw:=noIds_Ii64 (x0.2++[b])
 have lw:(x0.2++[b]).length=x0.2.length+1:=by simp
 refine zE noCx_ok ?_
 show xsp _ _ _ _ _ _ (mkS (at2 (lvH2 most) x0 x1)) _
 rw [lf_2]
 (refine zN2 @encIi64_push @encIi64_len ?_)
 (refine zR ?_)
 exact⟨trivial,rfl,.tup [],lvH2 most x0.1.length (x0.2++[b]).length x1.1.length x1.2.length (encL cell x0.1) (encL (cI .i64) (x0.2++[b])) (encL cell x1.1) (encL (cI .i64) x1.2),[.id 0,.id 1,.id 2,.id 3,.id 4,.id 5,.id 12,.id 7,.id 8,.id 9,.id 10],⟨rfl,hr,rfl⟩,by rw [lw]; (exact zC)⟩
theorem lfree_3 (most b:Int) (x0 x1 x2:Lv) (hf:totF [x0,x1,x2] < 100000) (h:OkLs [x0,x1,x2]):SSp prog 17 ((sp prog 73).drop 0) 3 (tm0 [.ptr 0 0,.int .i64 b]) (mkS (lvU most [x0,x1,x2] [])) (vK [] (endK 3 [] [] [] (lvQ most (frC [x0,x1,x2] b) [] (.tup [])))):=by
 have hr:=frC_ok h hf b
 simp only [totF] at hf
 have nw:=noIds_Ii64 (x0.2++[b])
 have lw:(x0.2++[b]).length=x0.2.length+1:=by simp
 refine zE noCx_ok ?_
 show xsp _ _ _ _ _ _ (mkS (at3 (lvH3 most) x0 x1 x2)) _
 rw [lf_3]
 (refine zN2 @encIi64_push @encIi64_len ?_)
 (refine zR ?_)
 exact⟨trivial,rfl,.tup [],lvH3 most x0.1.length (x0.2++[b]).length x1.1.length x1.2.length x2.1.length x2.2.length (encL cell x0.1) (encL (cI .i64) (x0.2++[b])) (encL cell x1.1) (encL (cI .i64) x1.2) (encL cell x2.1) (encL (cI .i64) x2.2),[.id 0,.id 1,.id 2,.id 3,.id 4,.id 5,.id 16,.id 7,.id 8,.id 9,.id 10,.id 11,.id 12,.id 13,.id 14],⟨rfl,hr,rfl⟩,by rw [lw]; (exact zC)⟩
theorem lfree_4 (most b:Int) (x0 x1 x2 x3:Lv) (hf:totF [x0,x1,x2,x3] < 100000) (h:OkLs [x0,x1,x2,x3]):SSp prog 17 ((sp prog 73).drop 0) 3 (tm0 [.ptr 0 0,.int .i64 b]) (mkS (lvU most [x0,x1,x2,x3] [])) (vK [] (endK 3 [] [] [] (lvQ most (frC [x0,x1,x2,x3] b) [] (.tup [])))):=by
 have hr:=frC_ok h hf b
 simp only [totF] at hf
 have nw:=noIds_Ii64 (x0.2++[b])
 have lw:(x0.2++[b]).length=x0.2.length+1:=by simp
 refine zE noCx_ok ?_
 show xsp _ _ _ _ _ _ (mkS (at4 (lvH4 most) x0 x1 x2 x3)) _
 rw [lf_4]
 (refine zN2 @encIi64_push @encIi64_len ?_)
 (refine zR ?_)
 exact⟨trivial,rfl,.tup [],lvH4 most x0.1.length (x0.2++[b]).length x1.1.length x1.2.length x2.1.length x2.2.length x3.1.length x3.2.length (encL cell x0.1) (encL (cI .i64) (x0.2++[b])) (encL cell x1.1) (encL (cI .i64) x1.2) (encL cell x2.1) (encL (cI .i64) x2.2) (encL cell x3.1) (encL (cI .i64) x3.2),[.id 0,.id 1,.id 2,.id 3,.id 4,.id 5,.id 20,.id 7,.id 8,.id 9,.id 10,.id 11,.id 12,.id 13,.id 14,.id 15,.id 16,.id 17,.id 18],⟨rfl,hr,rfl⟩,by rw [lw]; (exact zC)⟩
theorem lfree_5 (most b:Int) (x0 x1 x2 x3 x4:Lv) (hf:totF [x0,x1,x2,x3,x4] < 100000) (h:OkLs [x0,x1,x2,x3,x4]):SSp prog 17 ((sp prog 73).drop 0) 3 (tm0 [.ptr 0 0,.int .i64 b]) (mkS (lvU most [x0,x1,x2,x3,x4] [])) (vK [] (endK 3 [] [] [] (lvQ most (frC [x0,x1,x2,x3,x4] b) [] (.tup [])))):=by
 have hr:=frC_ok h hf b
 simp only [totF] at hf
 have nw:=noIds_Ii64 (x0.2++[b])
 have lw:(x0.2++[b]).length=x0.2.length+1:=by simp
 refine zE noCx_ok ?_
 show xsp _ _ _ _ _ _ (mkS (at5 (lvH5 most) x0 x1 x2 x3 x4)) _
 rw [lf_5]
 (refine zN2 @encIi64_push @encIi64_len ?_)
 (refine zR ?_)
 exact⟨trivial,rfl,.tup [],lvH5 most x0.1.length (x0.2++[b]).length x1.1.length x1.2.length x2.1.length x2.2.length x3.1.length x3.2.length x4.1.length x4.2.length (encL cell x0.1) (encL (cI .i64) (x0.2++[b])) (encL cell x1.1) (encL (cI .i64) x1.2) (encL cell x2.1) (encL (cI .i64) x2.2) (encL cell x3.1) (encL (cI .i64) x3.2) (encL cell x4.1) (encL (cI .i64) x4.2),[.id 0,.id 1,.id 2,.id 3,.id 4,.id 5,.id 24,.id 7,.id 8,.id 9,.id 10,.id 11,.id 12,.id 13,.id 14,.id 15,.id 16,.id 17,.id 18,.id 19,.id 20,.id 21,.id 22],⟨rfl,hr,rfl⟩,by rw [lw]; (exact zC)⟩
theorem lfree_6 (most b:Int) (x0 x1 x2 x3 x4 x5:Lv) (hf:totF [x0,x1,x2,x3,x4,x5] < 100000) (h:OkLs [x0,x1,x2,x3,x4,x5]):SSp prog 17 ((sp prog 73).drop 0) 3 (tm0 [.ptr 0 0,.int .i64 b]) (mkS (lvU most [x0,x1,x2,x3,x4,x5] [])) (vK [] (endK 3 [] [] [] (lvQ most (frC [x0,x1,x2,x3,x4,x5] b) [] (.tup [])))):=by
 have hr:=frC_ok h hf b
 simp only [totF] at hf
 have nw:=noIds_Ii64 (x0.2++[b])
 have lw:(x0.2++[b]).length=x0.2.length+1:=by simp
 refine zE noCx_ok ?_
 show xsp _ _ _ _ _ _ (mkS (at6 (lvH6 most) x0 x1 x2 x3 x4 x5)) _
 rw [lf_6]
 (refine zN2 @encIi64_push @encIi64_len ?_)
 (refine zR ?_)
 exact⟨trivial,rfl,.tup [],lvH6 most x0.1.length (x0.2++[b]).length x1.1.length x1.2.length x2.1.length x2.2.length x3.1.length x3.2.length x4.1.length x4.2.length x5.1.length x5.2.length (encL cell x0.1) (encL (cI .i64) (x0.2++[b])) (encL cell x1.1) (encL (cI .i64) x1.2) (encL cell x2.1) (encL (cI .i64) x2.2) (encL cell x3.1) (encL (cI .i64) x3.2) (encL cell x4.1) (encL (cI .i64) x4.2) (encL cell x5.1) (encL (cI .i64) x5.2),[.id 0,.id 1,.id 2,.id 3,.id 4,.id 5,.id 28,.id 7,.id 8,.id 9,.id 10,.id 11,.id 12,.id 13,.id 14,.id 15,.id 16,.id 17,.id 18,.id 19,.id 20,.id 21,.id 22,.id 23,.id 24,.id 25,.id 26],⟨rfl,hr,rfl⟩,by rw [lw]; (exact zC)⟩
theorem lfree_ok (most b:Int) (ls:List Lv) (hf:totF ls < 100000):SFun prog 73 [.ptr 0 0,.int .i64 b] (mkS (lvS most ls.length (encLs ls) [])) fun l t=>l=.tup []∧t=mkS (lvS' most (frC ls b).length (encLs (frC ls b)) []):=by
 refine lv_meth (nt:=17) (L:=[]) (ts:=[]) (by kernel_rfl) rfl rfl (by kernel_rfl) own3_nil (Nat.le_refl _) (fun ρ _=>lw_noid rfl) fun h=>Ls.cases h ?_ ?_ ?_ ?_ ?_ ?_
 ·intro x0 e; subst e; exact lfree_1 most b x0 hf h
 ·intro x0 x1 e; subst e; exact lfree_2 most b x0 x1 hf h
 ·intro x0 x1 x2 e; subst e; exact lfree_3 most b x0 x1 x2 hf h
 ·intro x0 x1 x2 x3 e; subst e; exact lfree_4 most b x0 x1 x2 x3 hf h
 ·intro x0 x1 x2 x3 x4 e; subst e; exact lfree_5 most b x0 x1 x2 x3 x4 hf h
 ·intro x0 x1 x2 x3 x4 x5 e; subst e; exact lfree_6 most b x0 x1 x2 x3 x4 x5 hf h
def lpE (most:Int) (cs:List LV) (a v:Int):Int:=tkE most (decLs cs) [(a,v)]
def lpD (most:Int) (cs:List LV) (a v:Int):Nat:=(tkC most (decLs cs) [(a,v)]).length
def lpC (most:Int) (cs:List LV) (a v:Int):List LV:=encLs (tkC most (decLs cs) [(a,v)])
def lfD (cs:List LV) (b:Int):Nat:=(frC (decLs cs) b).length
def lfC (cs:List LV) (b:Int):List LV:=encLs (frC (decLs cs) b)
def okF (cs:List LV):Bool:=decide (totF (decLs cs) < 100000)
theorem lfree_c (most a:Int) (d:Nat) (cs:List LV) (k1:okR most cs d=true) (k2:okF cs=true):SFun prog 73 [.ptr 0 0,.int .i64 a] (mkS (lvS most d cs [])) fun l t=>l=.tup []∧t=mkS (lvS' most (lfD cs a) (lfC cs a) []):=by
 obtain⟨ls,rfl,rfl,h,h1,h2⟩:=okR_iff.1 k1
 simp only [okF,decLs_enc,decide_eq_true_eq] at k2
 simp only [lfD,lfC,decLs_enc]
 exact lfree_ok most a ls k2
def lfreeG:Gc:=fun args s=>match args,s.g with
 | [.ptr b 0,.int .i64 a],[]=>(match s.h.get b with
   | some (.cells [.int .i64 most,.slo o 0 d 0] none)=>(match s.h.get o with
     | some (.obj F_o cs e)=>(match s.h.get e with
       | some (.dead)=>cond (nodupB [b,o,e]) (match s.lay [b,o,e] [.cells [.int .i64 most,.slo o 0 (lfD cs a) 0] none,.obj lvF (lfC cs a) s.n,.dead] [.dead] with
         | some s'=>some ([okR most cs d,okF cs,isF F_o lvF],.tup [],s')
         | none=>none) none
       | _=>none)
     | _=>none)
   | _=>none)
 | _,_=>none
theorem lfreeG_ok:GOk prog 73 lfreeG:=by
 intro args s bs l s' hg hb hfr
 unfold lfreeG at hg
 split at hg
 ·rename_i b a hgl
  split at hg
  ·rename_i most o d hb0
   split at hg
   ·rename_i F_o cs e hb1
    split at hg
    ·rename_i  hb2
     cases hbc:nodupB [b,o,e] with
     | false=>rw [hbc] at hg; cases hg
     | true =>
       rw [hbc] at hg
       simp only [cond_true] at hg
       split at hg
       ·rename_i s1 hs1
        simp only [Option.some.injEq,Prod.mk.injEq] at hg
        obtain⟨rfl,rfl,rfl⟩:=hg
        simp only [allT_cons] at hb
        obtain⟨k1,k2,k3,_⟩:=hb
        have e_o:=isF_eq k3
        subst e_o
        refine SFun.lay (bs:=[.cells [.int .i64 most,.slo 1 0 d 0] none,.obj lvF cs 2,.dead]) (args0:=[.ptr 0 0,.int .i64 a]) (bs':=[.cells [.int .i64 most,.slo 1 0 (lfD cs a) 0] none,.obj lvF (lfC cs a) 3,.dead,.dead]) (v0:=.tup []) hfr hs1 (nodupB_nd hbc)
         ⟨⟨there hfr hb0,_,hb0,by first | exact lb_same rfl | exact lb_cells (lws_cons (lw_int) (lws_cons (lw_slo rfl) lws_nil)) (by simp),fun κ hκ=>lb_cells (lws_cons (lw_int) (lws_cons (lw_slo (hκ 1 o rfl)) lws_nil)) (by simp)⟩,⟨there hfr hb1,_,hb1,lb_obj rfl,fun κ hκ=>lb_obj (hκ 2 e rfl)⟩,⟨there hfr hb2,_,hb2,lb_dead,fun κ hκ=>lb_dead⟩,trivial⟩ (by(exact zTl)) ?_
         fun κ h1 h2=>⟨⟨lb_cells (lws_cons (lw_int) (lws_cons (lw_slo (h1 1 o rfl)) lws_nil)) (by simp),lb_obj (h2 0 (by simp)),lb_dead,lb_dead,trivial⟩,lw_noid rfl⟩
        rw [hgl]; exact(lfree_c most a d cs k1 k2)
       ·cases hg
    ·cases hg
   ·cases hg
  ·cases hg
 ·cases hg
end
end Go.Lev
