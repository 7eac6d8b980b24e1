/- chapter 9: the code's levels: Frees, New -/
import Derived.Test.YtopbikapcboigaaCW12
import Derived.Test.YtopbikapcboigaaLc
import Derived.Test.YtopbikapcboigaaChecked
import Derived.KernelRfl
namespace Go.Lev
set_option linter.unusedSimpArgs false
set_option linter.unusedVariables false
open Go.RowKit
open Go.Proofs.Try (prog)
set_option maxRecDepth 100000
noncomputable section
theorem ok1:OkLs [([],[])]:=⟨by simp,by simp,fun x hx=>by simp at hx; subst hx; exact⟨trivial,fun c hc=>by cases hc⟩,by simp [totC],by simp [totF]⟩
theorem lnew_ok (m:Int):SFun prog 62 [.int .i64 m] (mkS []) fun l t=>l=.ptr 0 0∧t=mkS [.cells [.int .i64 (xmn (xmx m 0) 96),.slo 1 0 1 0] none,.obj lvF (encLs [([],[])]) 2,.dead]:=by
 have key:=SFun.shut (P:=prog) (f:=62) (args:=[.int .i64 m]) (K:=lvK) (bs:=[]) (B:=[.cells [.int .i64 (xmn (xmx m 0) 96),.slo 1 0 1 0] none,.dead]) (cs:=encLs [([],[])]) (l:=.ptr 0 0) (g:=[]) lvK_ok 1 (by simp) (by simp) (fun ρ h=>⟨bk_cons (lb_cells (lws_cons lw_int (lws_cons (lw_slo (h 1 (by simp))) lws_nil)) (by simp)) (bk_cons lb_dead bk_nil),lw_ptr (h 0 (by simp))⟩) ?_
 ·exact key
 refine SFun.pieces (Q:=fun l1 b=>l1=.ptr 0 0∧∃ v:lvK.σ,lvK.enc v=encLs [([],[])]∧b=[.cells [.int .i64 (xmn (xmx m 0) 96),.slo 1 0 1 0] none,(lvK.sh v 1 2).1]++(lvK.sh v 1 2).2) 10 0 [2] [2] (by kernel_rfl) rfl rfl rfl ?_
 refine zE cxl4_ok ?_
 rw [ln_x]
 exact⟨trivial,rfl,.ptr 0 0,[.cells [.int .i64 (xmn (xmx m 0) 96),.slo 1 0 1 0] none,.cells [.ptr 2 0] (some 1),.cells [.ptr 3 0,.slo 5 0 0 0] none,.cells [.int .i64 96,.slo 4 0 0 0] none,.cells [] (some 2),.cells [] (some 1)],[.id 4,.cap 3 0 1,.id 2,.id 0,.id 1,.none],⟨rfl,⟨_,ok1⟩,rfl,rfl⟩,by(exact zD)⟩
def newC:List LV:=encLs [([],[])]
def lcC (cs:List LV):List LV:=encL cell (celL (decLs cs))
def lcN (cs:List LV):Nat:=(celL (decLs cs)).length
theorem lcells_c (most:Int) (d:Nat) (cs:List LV) (k1:okR most cs d=true):SFun prog 64 [.ptr 0 0] (mkS (lvS most d cs [])) fun l t=>l=.slo 3 0 (lcN cs) 0∧t=mkS (lvS' most d cs [.cells (lcC cs) (some 2)]):=by
 obtain⟨ls,rfl,rfl,h,h1,h2⟩:=okR_iff.1 k1
 simp only [lcC,lcN,decLs_enc]
 exact lcells_ok most ls
def lcellsG:Gc:=fun args s=>match args,s.g with
 | [.ptr b 0],[]=>(match s.h.get b with
   | some (.cells [.int .i64 most,.slo o 0 d 0] none)=>(match s.h.get o with
     | some (.obj F_o cs e)=>(match s.h.get e with
       | some (.dead)=>cond (nodupB [b,o,e]) (match s.lay [b,o,e] [.cells [.int .i64 most,.slo o 0 d 0] none,.obj lvF cs (Nat.succ s.n),.dead] [.cells (lcC cs) (some 2),.dead] with
         | some s'=>some ([okR most cs d,isF F_o lvF],.slo s.n 0 (lcN cs) 0,s')
         | none=>none) none
       | _=>none)
     | _=>none)
   | _=>none)
 | _,_=>none
theorem lcellsG_ok:GOk prog 64 lcellsG:=by
 intro args s bs l s' hg hb hfr
 unfold lcellsG at hg
 split at hg
 ·rename_i b hgl
  split at hg
  ·rename_i most o d hb0
   split at hg
   ·rename_i F_o cs e hb1
    split at hg
    ·rename_i  hb2
     cases hbc:nodupB [b,o,e] with
     | false=>rw [hbc] at hg; cases hg
     | true =>
       rw [hbc] at hg
       simp only [cond_true] at hg
       split at hg
       ·rename_i s1 hs1
        simp only [Option.some.injEq,Prod.mk.injEq] at hg
        obtain⟨rfl,rfl,rfl⟩:=hg
        simp only [allT_cons] at hb
        obtain⟨k1,k2,_⟩:=hb
        have e_o:=isF_eq k2
        subst e_o
        refine SFun.lay (bs:=[.cells [.int .i64 most,.slo 1 0 d 0] none,.obj lvF cs 2,.dead]) (args0:=[.ptr 0 0]) (bs':=[.cells [.int .i64 most,.slo 1 0 d 0] none,.obj lvF cs 4,.dead,.cells (lcC cs) (some 2),.dead]) (v0:=.slo 3 0 (lcN cs) 0) hfr hs1 (nodupB_nd hbc)
         ⟨⟨there hfr hb0,_,hb0,by first | exact lb_same rfl | exact lb_cells (lws_cons (lw_int) (lws_cons (lw_slo rfl) lws_nil)) (by simp),fun κ hκ=>lb_cells (lws_cons (lw_int) (lws_cons (lw_slo (hκ 1 o rfl)) lws_nil)) (by simp)⟩,⟨there hfr hb1,_,hb1,lb_obj rfl,fun κ hκ=>lb_obj (hκ 2 e rfl)⟩,⟨there hfr hb2,_,hb2,lb_dead,fun κ hκ=>lb_dead⟩,trivial⟩ (by(exact zTl)) ?_
         fun κ h1 h2=>⟨⟨lb_cells (lws_cons (lw_int) (lws_cons (lw_slo (h1 1 o rfl)) lws_nil)) (by simp),lb_obj (h2 1 (by simp)),lb_dead,lb_same (noids_c _),lb_dead,trivial⟩,lw_slo (h2 0 (by simp))⟩
        rw [hgl]; exact(lcells_c most d cs k1)
       ·cases hg
    ·cases hg
   ·cases hg
  ·cases hg
 ·cases hg
def lnewG:Gc:=fun args s=>match args,s.g with
 | [.int .i64 m],[]=>(match s.lay [] [] [.cells [.int .i64 (xmn (xmx m 0) 96),.slo (Nat.succ s.n) 0 1 0] none,.obj lvF newC (Nat.succ (Nat.succ s.n)),.dead] with
   | some s'=>some ([],.ptr s.n 0,s')
   | none=>none)
 | _,_=>none
theorem lnewG_ok:GOk prog 62 lnewG:=by
 intro args s bs l s' hg hb hfr
 unfold lnewG at hg
 split at hg
 ·rename_i m hgl
  split at hg
  ·rename_i s1 hs1
   simp only [Option.some.injEq,Prod.mk.injEq] at hg
   obtain⟨rfl,rfl,rfl⟩:=hg
   refine SFun.lay (bs:=[]) (args0:=[.int .i64 m]) (bs':=[.cells [.int .i64 (xmn (xmx m 0) 96),.slo 1 0 1 0] none,.obj lvF newC 2,.dead]) (v0:=.ptr 0 0) hfr hs1 (by simp)
    trivial (by(exact zTl)) ?_
    fun κ h1 h2=>⟨⟨lb_cells (lws_cons (lw_int) (lws_cons (lw_slo (h2 1 (by simp))) lws_nil)) (by simp),lb_obj (h2 2 (by simp)),lb_dead,trivial⟩,lw_ptr (h2 0 (by simp))⟩
   rw [hgl]; exact(lnew_ok m)
  ·cases hg
 ·cases hg
end
end Go.Lev
