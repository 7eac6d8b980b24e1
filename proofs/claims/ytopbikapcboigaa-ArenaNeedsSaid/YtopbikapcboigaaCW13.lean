/- chapter 9: the code's levels: Frees, New -/
import Derived.Test.YtopbikapcboigaaCW12
import Derived.Test.YtopbikapcboigaaLc
import Derived.Test.YtopbikapcboigaaChecked
import Derived.KernelRfl
namespace Go.Lev
set_option linter.unusedSimpArgs false
set_option linter.unusedVariables false
open Go.RowKit
open Go.Proofs.Try (prog)
set_option maxRecDepth 100000
noncomputable section
theorem freL_le:∀ (ls:List Lv),(freL ls).length=totF ls
 | []=>rfl
 | x::r=>by simp only [freL,totF,List.length_append,freL_le r]; omega
theorem lapp {xs ys:List Int}:(xs++ys).length=xs.length+ys.length:=List.length_append
theorem lrefl {n:Nat}:n≤n:=Nat.le_refl n
theorem lfrees_1 (most:Int) (x0:Lv) (h:OkLs [x0]):SSp prog 23 ((sp prog 49).drop 0) 3 (tm0 [.ptr 0 0]) (mkS (lvU most [x0] [])) (vK [2] (endK 3 [2] [2] [] (lvQ most [x0] [.cells (encL (cI .i64) (freL [x0])) (some 1)] (.slo 3 0 (freL [x0]).length 0)))):=by
 have hc:=h.c; have hf:=h.f; simp only [totC] at hc; simp only [totF] at hf
 have hn:freL [x0]=x0.2:=by simp only [freL,List.nil_append]
 have hl:(freL [x0]).length=x0.2.length:=by simp only [hn,List.length_append]
 refine zE noCx_ok ?_
 show xsp _ _ _ _ _ _ (mkS (at1 (lvH1 most) x0)) _
 rw [lfr_1]
 (refine zN5 @encIi64_len @ints_all @ints_cat2 @lapp @lrefl ?_)
 (refine zR ?_)
 exact⟨trivial,rfl,.slo 3 0 (freL [x0]).length 0,at1 (lvF1 most (encL (cI .i64) (freL [x0]))) x0,[.id 0,.id 1,.id 2,.id 7,.id 3,.id 4,.id 5,.id 6],⟨rfl,h,rfl⟩,by rw [hl,hn]; (exact zC)⟩
theorem lfrees_2 (most:Int) (x0 x1:Lv) (h:OkLs [x0,x1]):SSp prog 23 ((sp prog 49).drop 0) 3 (tm0 [.ptr 0 0]) (mkS (lvU most [x0,x1] [])) (vK [2] (endK 3 [2] [2] [] (lvQ most [x0,x1] [.cells (encL (cI .i64) (freL [x0,x1])) (some 1)] (.slo 3 0 (freL [x0,x1]).length 0)))):=by
 have hc:=h.c; have hf:=h.f; simp only [totC] at hc; simp only [totF] at hf
 have hn:freL [x0,x1]=x1.2++x0.2:=by simp only [freL,List.nil_append]
 have hl:(freL [x0,x1]).length=x1.2.length+x0.2.length:=by simp only [hn,List.length_append]
 refine zE noCx_ok ?_
 show xsp _ _ _ _ _ _ (mkS (at2 (lvH2 most) x0 x1)) _
 rw [lfr_2]
 (refine zN5 @encIi64_len @ints_all @ints_cat2 @lapp @lrefl ?_)
 (refine zR ?_)
 exact⟨trivial,rfl,.slo 3 0 (freL [x0,x1]).length 0,at2 (lvF2 most (encL (cI .i64) (freL [x0,x1]))) x0 x1,[.id 0,.id 1,.id 2,.id 12,.id 3,.id 4,.id 5,.id 6,.id 7,.id 8,.id 9,.id 10],⟨rfl,h,rfl⟩,by rw [hl,hn]; (exact zC)⟩
theorem lfrees_3 (most:Int) (x0 x1 x2:Lv) (h:OkLs [x0,x1,x2]):SSp prog 23 ((sp prog 49).drop 0) 3 (tm0 [.ptr 0 0]) (mkS (lvU most [x0,x1,x2] [])) (vK [2] (endK 3 [2] [2] [] (lvQ most [x0,x1,x2] [.cells (encL (cI .i64) (freL [x0,x1,x2])) (some 1)] (.slo 3 0 (freL [x0,x1,x2]).length 0)))):=by
 have hc:=h.c; have hf:=h.f; simp only [totC] at hc; simp only [totF] at hf
 have hn:freL [x0,x1,x2]=x2.2++x1.2++x0.2:=by simp only [freL,List.nil_append]
 have hl:(freL [x0,x1,x2]).length=x2.2.length+x1.2.length+x0.2.length:=by simp only [hn,List.length_append]
 refine zE noCx_ok ?_
 show xsp _ _ _ _ _ _ (mkS (at3 (lvH3 most) x0 x1 x2)) _
 rw [lfr_3]
 (refine zN5 @encIi64_len @ints_all @ints_cat2 @lapp @lrefl ?_)
 (refine zR ?_)
 exact⟨trivial,rfl,.slo 3 0 (freL [x0,x1,x2]).length 0,at3 (lvF3 most (encL (cI .i64) (freL [x0,x1,x2]))) x0 x1 x2,[.id 0,.id 1,.id 2,.id 17,.id 3,.id 4,.id 5,.id 6,.id 7,.id 8,.id 9,.id 10,.id 11,.id 12,.id 13,.id 14],⟨rfl,h,rfl⟩,by rw [hl,hn]; (exact zC)⟩
theorem lfrees_4 (most:Int) (x0 x1 x2 x3:Lv) (h:OkLs [x0,x1,x2,x3]):SSp prog 23 ((sp prog 49).drop 0) 3 (tm0 [.ptr 0 0]) (mkS (lvU most [x0,x1,x2,x3] [])) (vK [2] (endK 3 [2] [2] [] (lvQ most [x0,x1,x2,x3] [.cells (encL (cI .i64) (freL [x0,x1,x2,x3])) (some 1)] (.slo 3 0 (freL [x0,x1,x2,x3]).length 0)))):=by
 have hc:=h.c; have hf:=h.f; simp only [totC] at hc; simp only [totF] at hf
 have hn:freL [x0,x1,x2,x3]=x3.2++x2.2++x1.2++x0.2:=by simp only [freL,List.nil_append]
 have hl:(freL [x0,x1,x2,x3]).length=x3.2.length+x2.2.length+x1.2.length+x0.2.length:=by simp only [hn,List.length_append]
 refine zE noCx_ok ?_
 show xsp _ _ _ _ _ _ (mkS (at4 (lvH4 most) x0 x1 x2 x3)) _
 rw [lfr_4]
 (refine zN5 @encIi64_len @ints_all @ints_cat2 @lapp @lrefl ?_)
 (refine zR ?_)
 exact⟨trivial,rfl,.slo 3 0 (freL [x0,x1,x2,x3]).length 0,at4 (lvF4 most (encL (cI .i64) (freL [x0,x1,x2,x3]))) x0 x1 x2 x3,[.id 0,.id 1,.id 2,.id 22,.id 3,.id 4,.id 5,.id 6,.id 7,.id 8,.id 9,.id 10,.id 11,.id 12,.id 13,.id 14,.id 15,.id 16,.id 17,.id 18],⟨rfl,h,rfl⟩,by rw [hl,hn]; (exact zC)⟩
theorem lfrees_5 (most:Int) (x0 x1 x2 x3 x4:Lv) (h:OkLs [x0,x1,x2,x3,x4]):SSp prog 23 ((sp prog 49).drop 0) 3 (tm0 [.ptr 0 0]) (mkS (lvU most [x0,x1,x2,x3,x4] [])) (vK [2] (endK 3 [2] [2] [] (lvQ most [x0,x1,x2,x3,x4] [.cells (encL (cI .i64) (freL [x0,x1,x2,x3,x4])) (some 1)] (.slo 3 0 (freL [x0,x1,x2,x3,x4]).length 0)))):=by
 have hc:=h.c; have hf:=h.f; simp only [totC] at hc; simp only [totF] at hf
 have hn:freL [x0,x1,x2,x3,x4]=x4.2++x3.2++x2.2++x1.2++x0.2:=by simp only [freL,List.nil_append]
 have hl:(freL [x0,x1,x2,x3,x4]).length=x4.2.length+x3.2.length+x2.2.length+x1.2.length+x0.2.length:=by simp only [hn,List.length_append]
 refine zE noCx_ok ?_
 show xsp _ _ _ _ _ _ (mkS (at5 (lvH5 most) x0 x1 x2 x3 x4)) _
 rw [lfr_5]
 (refine zN5 @encIi64_len @ints_all @ints_cat2 @lapp @lrefl ?_)
 (refine zR ?_)
 exact⟨trivial,rfl,.slo 3 0 (freL [x0,x1,x2,x3,x4]).length 0,at5 (lvF5 most (encL (cI .i64) (freL [x0,x1,x2,x3,x4]))) x0 x1 x2 x3 x4,[.id 0,.id 1,.id 2,.id 27,.id 3,.id 4,.id 5,.id 6,.id 7,.id 8,.id 9,.id 10,.id 11,.id 12,.id 13,.id 14,.id 15,.id 16,.id 17,.id 18,.id 19,.id 20,.id 21,.id 22],⟨rfl,h,rfl⟩,by rw [hl,hn]; (exact zC)⟩
theorem lfrees_6 (most:Int) (x0 x1 x2 x3 x4 x5:Lv) (h:OkLs [x0,x1,x2,x3,x4,x5]):SSp prog 23 ((sp prog 49).drop 0) 3 (tm0 [.ptr 0 0]) (mkS (lvU most [x0,x1,x2,x3,x4,x5] [])) (vK [2] (endK 3 [2] [2] [] (lvQ most [x0,x1,x2,x3,x4,x5] [.cells (encL (cI .i64) (freL [x0,x1,x2,x3,x4,x5])) (some 1)] (.slo 3 0 (freL [x0,x1,x2,x3,x4,x5]).length 0)))):=by
 have hc:=h.c; have hf:=h.f; simp only [totC] at hc; simp only [totF] at hf
 have hn:freL [x0,x1,x2,x3,x4,x5]=x5.2++x4.2++x3.2++x2.2++x1.2++x0.2:=by simp only [freL,List.nil_append]
 have hl:(freL [x0,x1,x2,x3,x4,x5]).length=x5.2.length+x4.2.length+x3.2.length+x2.2.length+x1.2.length+x0.2.length:=by simp only [hn,List.length_append]
 refine zE noCx_ok ?_
 show xsp _ _ _ _ _ _ (mkS (at6 (lvH6 most) x0 x1 x2 x3 x4 x5)) _
 rw [lfr_6]
 (refine zN5 @encIi64_len @ints_all @ints_cat2 @lapp @lrefl ?_)
 (refine zR ?_)
 exact⟨trivial,rfl,.slo 3 0 (freL [x0,x1,x2,x3,x4,x5]).length 0,at6 (lvF6 most (encL (cI .i64) (freL [x0,x1,x2,x3,x4,x5]))) x0 x1 x2 x3 x4 x5,[.id 0,.id 1,.id 2,.id 32,.id 3,.id 4,.id 5,.id 6,.id 7,.id 8,.id 9,.id 10,.id 11,.id 12,.id 13,.id 14,.id 15,.id 16,.id 17,.id 18,.id 19,.id 20,.id 21,.id 22,.id 23,.id 24,.id 25,.id 26],⟨rfl,h,rfl⟩,by rw [hl,hn]; (exact zC)⟩
theorem lfrees_ok (most:Int) (ls:List Lv):SFun prog 49 [.ptr 0 0] (mkS (lvS most ls.length (encLs ls) [])) fun l t=>l=.slo 3 0 (freL ls).length 0∧t=mkS (lvS' most ls.length (encLs ls) [.cells (encL (cI .i64) (freL ls)) (some 1)]):=by
 refine lv_meth (nt:=23) (L:=[2]) (ts:=[2]) (A:=[]) (by kernel_rfl) rfl rfl (by kernel_rfl) (own3_ints _) (by simp) (fun ρ h=>lw_slo (h 3 (by simp))) fun h=>Ls.cases h ?_ ?_ ?_ ?_ ?_ ?_
 ·intro x0 e; subst e; exact lfrees_1 most x0 h
 ·intro x0 x1 e; subst e; exact lfrees_2 most x0 x1 h
 ·intro x0 x1 x2 e; subst e; exact lfrees_3 most x0 x1 x2 h
 ·intro x0 x1 x2 x3 e; subst e; exact lfrees_4 most x0 x1 x2 x3 h
 ·intro x0 x1 x2 x3 x4 e; subst e; exact lfrees_5 most x0 x1 x2 x3 x4 h
 ·intro x0 x1 x2 x3 x4 x5 e; subst e; exact lfrees_6 most x0 x1 x2 x3 x4 x5 h
theorem ok1:OkLs [([],[])]:=⟨by simp,by simp,fun x hx=>by simp at hx; subst hx; exact⟨trivial,fun c hc=>by cases hc⟩,by simp [totC],by simp [totF]⟩
theorem lnew_ok (m:Int):SFun prog 62 [.int .i64 m] (mkS []) fun l t=>l=.ptr 0 0∧t=mkS [.cells [.int .i64 (xmn (xmx m 0) 96),.slo 1 0 1 0] none,.obj lvF (encLs [([],[])]) 2,.dead]:=by
 have key:=SFun.shut (P:=prog) (f:=62) (args:=[.int .i64 m]) (K:=lvK) (bs:=[]) (B:=[.cells [.int .i64 (xmn (xmx m 0) 96),.slo 1 0 1 0] none,.dead]) (cs:=encLs [([],[])]) (l:=.ptr 0 0) (g:=[]) lvK_ok 1 (by simp) (by simp) (fun ρ h=>⟨bk_cons (lb_cells (lws_cons lw_int (lws_cons (lw_slo (h 1 (by simp))) lws_nil)) (by simp)) (bk_cons lb_dead bk_nil),lw_ptr (h 0 (by simp))⟩) ?_
 ·exact key
 refine SFun.pieces (Q:=fun l1 b=>l1=.ptr 0 0∧∃ v:lvK.σ,lvK.enc v=encLs [([],[])]∧b=[.cells [.int .i64 (xmn (xmx m 0) 96),.slo 1 0 1 0] none,(lvK.sh v 1 2).1]++(lvK.sh v 1 2).2) 10 0 [2] [2] (by kernel_rfl) rfl rfl rfl ?_
 refine zE cxl4_ok ?_
 rw [ln_x]
 exact⟨trivial,rfl,.ptr 0 0,[.cells [.int .i64 (xmn (xmx m 0) 96),.slo 1 0 1 0] none,.cells [.ptr 2 0] (some 1),.cells [.ptr 3 0,.slo 5 0 0 0] none,.cells [.int .i64 96,.slo 4 0 0 0] none,.cells [] (some 2),.cells [] (some 1)],[.id 4,.cap 3 0 1,.id 2,.id 0,.id 1,.none],⟨rfl,⟨_,ok1⟩,rfl,rfl⟩,by(exact zD)⟩
def newC:List LV:=encLs [([],[])]
def lcC (cs:List LV):List LV:=encL cell (celL (decLs cs))
def lcN (cs:List LV):Nat:=(celL (decLs cs)).length
def lwC (cs:List LV):List LV:=encL (cI .i64) (freL (decLs cs))
def lwN (cs:List LV):Nat:=(freL (decLs cs)).length
theorem lcells_c (most:Int) (d:Nat) (cs:List LV) (k1:okR most cs d=true):SFun prog 64 [.ptr 0 0] (mkS (lvS most d cs [])) fun l t=>l=.slo 3 0 (lcN cs) 0∧t=mkS (lvS' most d cs [.cells (lcC cs) (some 2)]):=by
 obtain⟨ls,rfl,rfl,h,h1,h2⟩:=okR_iff.1 k1
 simp only [lcC,lcN,decLs_enc]
 exact lcells_ok most ls
theorem lfrees_c (most:Int) (d:Nat) (cs:List LV) (k1:okR most cs d=true):SFun prog 49 [.ptr 0 0] (mkS (lvS most d cs [])) fun l t=>l=.slo 3 0 (lwN cs) 0∧t=mkS (lvS' most d cs [.cells (lwC cs) (some 1)]):=by
 obtain⟨ls,rfl,rfl,h,h1,h2⟩:=okR_iff.1 k1
 simp only [lwC,lwN,decLs_enc]
 exact lfrees_ok most ls
def lcellsG:Gc:=fun args s=>match args,s.g with
 | [.ptr b 0],[]=>(match s.h.get b with
   | some (.cells [.int .i64 most,.slo o 0 d 0] none)=>(match s.h.get o with
     | some (.obj F_o cs e)=>(match s.h.get e with
       | some (.dead)=>cond (nodupB [b,o,e]) (match s.lay [b,o,e] [.cells [.int .i64 most,.slo o 0 d 0] none,.obj lvF cs (Nat.succ s.n),.dead] [.cells (lcC cs) (some 2),.dead] with
         | some s'=>some ([okR most cs d,isF F_o lvF],.slo s.n 0 (lcN cs) 0,s')
         | none=>none) none
       | _=>none)
     | _=>none)
   | _=>none)
 | _,_=>none
theorem lcellsG_ok:GOk prog 64 lcellsG:=by
 intro args s bs l s' hg hb hfr
 unfold lcellsG at hg
 split at hg
 ·rename_i b hgl
  split at hg
  ·rename_i most o d hb0
   split at hg
   ·rename_i F_o cs e hb1
    split at hg
    ·rename_i  hb2
     cases hbc:nodupB [b,o,e] with
     | false=>rw [hbc] at hg; cases hg
     | true =>
       rw [hbc] at hg
       simp only [cond_true] at hg
       split at hg
       ·rename_i s1 hs1
        simp only [Option.some.injEq,Prod.mk.injEq] at hg
        obtain⟨rfl,rfl,rfl⟩:=hg
        simp only [allT_cons] at hb
        obtain⟨k1,k2,_⟩:=hb
        have e_o:=isF_eq k2
        subst e_o
        refine SFun.lay (bs:=[.cells [.int .i64 most,.slo 1 0 d 0] none,.obj lvF cs 2,.dead]) (args0:=[.ptr 0 0]) (bs':=[.cells [.int .i64 most,.slo 1 0 d 0] none,.obj lvF cs 4,.dead,.cells (lcC cs) (some 2),.dead]) (v0:=.slo 3 0 (lcN cs) 0) hfr hs1 (nodupB_nd hbc)
         ⟨⟨there hfr hb0,_,hb0,by first | exact lb_same rfl | exact lb_cells (lws_cons (lw_int) (lws_cons (lw_slo rfl) lws_nil)) (by simp),fun κ hκ=>lb_cells (lws_cons (lw_int) (lws_cons (lw_slo (hκ 1 o rfl)) lws_nil)) (by simp)⟩,⟨there hfr hb1,_,hb1,lb_obj rfl,fun κ hκ=>lb_obj (hκ 2 e rfl)⟩,⟨there hfr hb2,_,hb2,lb_dead,fun κ hκ=>lb_dead⟩,trivial⟩ (by(exact zTl)) ?_
         fun κ h1 h2=>⟨⟨lb_cells (lws_cons (lw_int) (lws_cons (lw_slo (h1 1 o rfl)) lws_nil)) (by simp),lb_obj (h2 1 (by simp)),lb_dead,lb_same (noids_c _),lb_dead,trivial⟩,lw_slo (h2 0 (by simp))⟩
        rw [hgl]; exact(lcells_c most d cs k1)
       ·cases hg
    ·cases hg
   ·cases hg
  ·cases hg
 ·cases hg
def lfreesG:Gc:=fun args s=>match args,s.g with
 | [.ptr b 0],[]=>(match s.h.get b with
   | some (.cells [.int .i64 most,.slo o 0 d 0] none)=>(match s.h.get o with
     | some (.obj F_o cs e)=>(match s.h.get e with
       | some (.dead)=>cond (nodupB [b,o,e]) (match s.lay [b,o,e] [.cells [.int .i64 most,.slo o 0 d 0] none,.obj lvF cs (Nat.succ s.n),.dead] [.cells (lwC cs) (some 1),.dead] with
         | some s'=>some ([okR most cs d,isF F_o lvF],.slo s.n 0 (lwN cs) 0,s')
         | none=>none) none
       | _=>none)
     | _=>none)
   | _=>none)
 | _,_=>none
theorem lfreesG_ok:GOk prog 49 lfreesG:=by
 intro args s bs l s' hg hb hfr
 unfold lfreesG at hg
 split at hg
 ·rename_i b hgl
  split at hg
  ·rename_i most o d hb0
   split at hg
   ·rename_i F_o cs e hb1
    split at hg
    ·rename_i  hb2
     cases hbc:nodupB [b,o,e] with
     | false=>rw [hbc] at hg; cases hg
     | true =>
       rw [hbc] at hg
       simp only [cond_true] at hg
       split at hg
       ·rename_i s1 hs1
        simp only [Option.some.injEq,Prod.mk.injEq] at hg
        obtain⟨rfl,rfl,rfl⟩:=hg
        simp only [allT_cons] at hb
        obtain⟨k1,k2,_⟩:=hb
        have e_o:=isF_eq k2
        subst e_o
        refine SFun.lay (bs:=[.cells [.int .i64 most,.slo 1 0 d 0] none,.obj lvF cs 2,.dead]) (args0:=[.ptr 0 0]) (bs':=[.cells [.int .i64 most,.slo 1 0 d 0] none,.obj lvF cs 4,.dead,.cells (lwC cs) (some 1),.dead]) (v0:=.slo 3 0 (lwN cs) 0) hfr hs1 (nodupB_nd hbc)
         ⟨⟨there hfr hb0,_,hb0,by first | exact lb_same rfl | exact lb_cells (lws_cons (lw_int) (lws_cons (lw_slo rfl) lws_nil)) (by simp),fun κ hκ=>lb_cells (lws_cons (lw_int) (lws_cons (lw_slo (hκ 1 o rfl)) lws_nil)) (by simp)⟩,⟨there hfr hb1,_,hb1,lb_obj rfl,fun κ hκ=>lb_obj (hκ 2 e rfl)⟩,⟨there hfr hb2,_,hb2,lb_dead,fun κ hκ=>lb_dead⟩,trivial⟩ (by(exact zTl)) ?_
         fun κ h1 h2=>⟨⟨lb_cells (lws_cons (lw_int) (lws_cons (lw_slo (h1 1 o rfl)) lws_nil)) (by simp),lb_obj (h2 1 (by simp)),lb_dead,lb_same (noIds_Ii64 _),lb_dead,trivial⟩,lw_slo (h2 0 (by simp))⟩
        rw [hgl]; exact(lfrees_c most d cs k1)
       ·cases hg
    ·cases hg
   ·cases hg
  ·cases hg
 ·cases hg
def lnewG:Gc:=fun args s=>match args,s.g with
 | [.int .i64 m],[]=>(match s.lay [] [] [.cells [.int .i64 (xmn (xmx m 0) 96),.slo (Nat.succ s.n) 0 1 0] none,.obj lvF newC (Nat.succ (Nat.succ s.n)),.dead] with
   | some s'=>some ([],.ptr s.n 0,s')
   | none=>none)
 | _,_=>none
theorem lnewG_ok:GOk prog 62 lnewG:=by
 intro args s bs l s' hg hb hfr
 unfold lnewG at hg
 split at hg
 ·rename_i m hgl
  split at hg
  ·rename_i s1 hs1
   simp only [Option.some.injEq,Prod.mk.injEq] at hg
   obtain⟨rfl,rfl,rfl⟩:=hg
   refine SFun.lay (bs:=[]) (args0:=[.int .i64 m]) (bs':=[.cells [.int .i64 (xmn (xmx m 0) 96),.slo 1 0 1 0] none,.obj lvF newC 2,.dead]) (v0:=.ptr 0 0) hfr hs1 (by simp)
    trivial (by(exact zTl)) ?_
    fun κ h1 h2=>⟨⟨lb_cells (lws_cons (lw_int) (lws_cons (lw_slo (h2 1 (by simp))) lws_nil)) (by simp),lb_obj (h2 2 (by simp)),lb_dead,trivial⟩,lw_ptr (h2 0 (by simp))⟩
   rw [hgl]; exact(lnew_ok m)
  ·cases hg
 ·cases hg
end
end Go.Lev
