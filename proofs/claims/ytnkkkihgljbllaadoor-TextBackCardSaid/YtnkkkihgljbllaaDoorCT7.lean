/- text: the chapter's runs as a contract -/
import Derived.Test.YtnkkkihgljbllaaDoorCT6
import Derived.Test.YtnkkkihgljbllaaDoorLc
import Derived.Test.YtnkkkihgljbllaaDoorChecked
import Derived.KernelRfl
import Derived.Test.YtnkkkihgljbllaaDoorCZ8
import Derived.Test.YtnkkkihgljbllaaDoorLc
namespace Go.Lev
set_option linter.unusedSimpArgs false
set_option linter.unusedVariables false
open Go.RowKit
open Go.Proofs.Tryd (prog)
set_option maxRecDepth 100000
noncomputable section
abbrev gt2:Glb:=[(0,formsL),(2,callsL)]
def eqG:Glb→Glb→Bool
 | [],[]=>true
 | (a,x)::r,(b,y)::t=>Nat.beq a b && eqbs x y && eqG r t
 | _,_=>false
theorem eqG_eq:∀ {a b:Glb},eqG a b=true→a=b
 | [],[],_=>rfl
 | (a,x)::r,(b,y)::t,h=>by
   simp only [eqG,Bool.and_eq_true] at h
   rw [Nat.eq_of_beq_eq_true h.1.1,eqbs_eq h.1.2,eqG_eq h.2]
 | [],_::_,h=>by simp [eqG] at h
 | _::_,[],h=>by simp [eqG] at h
abbrev retI:List LV:=[.int .i64 20,.int .i64 0,.int .i64 0,.int .i64 0,.int .u64 0]
abbrev retS:List UInt8:=[114,101,116,114,121,10]
def cxb:Cx:=cxl [(25,wrS 63 5),(28,stS 63 5)]
theorem cxb_ok:CtrOk prog (ctrOf cxb):=cxl_ok ⟨wrS_ok,stS_ok,trivial⟩
def runB (f nt k d:Nat) (tm:Tm) (s:St):Option (LX×Tm×St):=match lsp prog (ctrOf cxb) 20000 nt (seg (sp prog f) 0 k) tm s with
 | some (.normal,tm1,s1)=>(match allocB 63 5 nt d tm1 s1 with
   | some (tm2,s2)=>cond (Nat.ble 1 s1.n && Nat.ble 1 s2.n) (lsp prog (ctrOf cxb) 20000 nt ((sp prog f).drop (k+1)) tm2 s2) none
   | none=>none)
 | _=>none
def endP:Option (LX×Tm×St)→Bool
 | some (.ret,tm,s)=>eqG s.g gt2 && eqbs [tmGet tm 2] [.str retS] && Nat.ble 1 s.n && (match s.h.get 0 with
   | some (.cells cs none)=>eqbs cs retI
   | _=>false)
 | _=>false
theorem print_run:endP (runB 12 58 6 6 (tm0 [.agg [.sl 0 0 1 1]]) (mkS [.cells retI none] gt2))=true:=by kernel_rfl
theorem print_fun:SFun prog 12 [.agg [.sl 0 0 1 1]] (mkS [.cells retI none] gt2) fun l s'=>l=.str retS∧s'=mkS [.cells retI none] gt2:=by
 refine SFun.mono (SFun.pieces (Q:=fun l bs=>l=.str retS∧bs=[.cells retI none]) 58 1 [2] [2] (by kernel_rfl) rfl (by kernel_rfl) rfl ?_) fun l s' ⟨b0,⟨h1,h2⟩,h3⟩=>⟨h1,by rw [h3,h2]⟩
 have hrun:=print_run
 unfold runB at hrun
 cases h1:lsp prog (ctrOf cxb) 20000 58 (seg (sp prog 12) 0 6) (tm0 [.agg [.sl 0 0 1 1]]) (mkS [.cells retI none] gt2) with
 | none=>rw [h1] at hrun; cases hrun
 | some p =>
   obtain⟨x,tm1,s1⟩:=p
   rw [h1] at hrun
   cases x with
   | exit k=>cases hrun
   | ret=>cases hrun
   | normal =>
     simp only at hrun
     cases h2:allocB 63 5 58 6 tm1 s1 with
     | none=>rw [h2] at hrun; cases hrun
     | some q =>
       obtain⟨tm2,s2⟩:=q
       rw [h2] at hrun
       simp only at hrun
       cases hc:(Nat.ble 1 s1.n && Nat.ble 1 s2.n) with
       | false=>rw [hc] at hrun; cases hrun
       | true =>
       rw [hc] at hrun
       simp only [cond_true] at hrun
       simp only [Bool.and_eq_true] at hc
       have hc1:=Nat.le_of_ble_eq_true hc.1
       have hc2:=Nat.le_of_ble_eq_true hc.2
       cases h3:lsp prog (ctrOf cxb) 20000 58 ((sp prog 12).drop (6+1)) tm2 s2 with
       | none=>rw [h3] at hrun; cases hrun
       | some r =>
         obtain⟨y,tm3,s3⟩:=r
         rw [h3] at hrun
         cases y with
         | exit k=>cases hrun
         | normal=>cases hrun
         | ret =>
           simp only [endP,Bool.and_eq_true] at hrun
           obtain⟨⟨⟨e1,e2⟩,e4⟩,e3⟩:=hrun
           rw [drop_seg _ 0 6]
           have hn1:1≤(mkS [.cells retI none] gt2).n:=by rw [mkS_n]; exact Nat.le_refl _
           refine SSp.join (SSp.lrun cxb_ok hn1 h1 ?_)
           show SSp prog 58 ((sp prog 12).drop (0+6)) 1 tm1 s1 _
           rw [drop_nth _ _ (by decide +kernel)]
           refine alloc_step (T:=63) (e:=5) (d:=6) (by kernel_rfl) bl_zero hc1 h2 ?_
           refine SSp.lrun cxb_ok hc2 h3 ⟨trivial,eqG_eq e1,.str retS,[.cells retI none],[.id 0],⟨rfl,rfl⟩,?_⟩
           refine⟨rfl,⟨?_,trivial⟩,⟨?_,trivial⟩⟩
           ·show LVW _ (.str retS) (tmGet tm3 2)
            have:=eqbs_eq e2
            simp only [List.cons.injEq,and_true] at this
            rw [this]; simp only [LVW]
           ·show LBW _ (.id 0) (.cells retI none) (blkAt (blksOf s3) 0)
            split at e3
            ·rename_i cs hcs
             have hcs':=eqbs_eq e3
             subst hcs'
             have hlt:0 < s3.n:=Nat.le_of_ble_eq_true e4
             have:blkAt (blksOf s3) 0=some (.cells retI none):=by
              unfold blkAt blksOf
              rw [blksFrom_get,if_pos hlt]
              simpa using hcs
             rw [this]
             exact lb_same rfl
            ·cases e3
def printG:Gc:=fun args s=>match args with
 | [.agg [.sl b 0 1 1]]=>(match s.h.get b with
   | some (.cells cs none)=>cond (eqbs cs retI && eqG s.g gt2) (some ([],.str retS,s)) none
   | _=>none)
 | _=>none
theorem printG_ok:GOk prog 12 printG:=by
 intro args s bs l s' hg hb hfr
 unfold printG at hg
 split at hg
 ·rename_i b
  split at hg
  ·rename_i cs hb1
   cases hc:(eqbs cs retI && eqG s.g gt2) with
   | false=>rw [hc] at hg; cases hg
   | true =>
     rw [hc] at hg
     simp only [cond_true,Option.some.injEq,Prod.mk.injEq] at hg
     obtain⟨rfl,rfl,rfl⟩:=hg
     simp only [Bool.and_eq_true] at hc
     have e1:=eqbs_eq hc.1
     have e2:=eqG_eq hc.2
     subst e1
     have hlt:=there hfr hb1
     refine SFun.lift (ρ:=[b]) (bs:=[.cells retI none]) (bs':=[.cells retI none]) (args0:=[.agg [.sl 0 0 1 1]]) (v0:=.str retS) hfr (by simp) ⟨⟨hlt,_,hb1,lb_same rfl,fun κ hκ=>lb_same rfl⟩,trivial⟩ ?_ (by rw [e2]; exact print_fun) (by simp) ⟨?_,rfl,fun c hc hcb=>rfl,hfr,?_,?_⟩ ?_
     ·simp [LVWs,LVW,lsrc]
     ·simp
     ·intro i c L' hi hL
      match i,hi with
      | 0,hi =>
        simp at hi; subst hi
        rw [hb1] at hL; cases hL
        exact lb_same rfl
      | i+1,hi=>simp at hi
     ·intro j L' hj hL
      simp at hj
     ·simp only [LVW]
  ·cases hg
 ·cases hg
def cx16:Cx:=cxl [(12,printG)]
theorem cx16_ok:CtrOk prog (ctrOf cx16):=cxl_ok ⟨printG_ok,trivial⟩
theorem runs2:SFun prog 8 [] (mkS [] gt2) fun l s'=>l=.bool true∧s'=mkS [] gt2 :=
 SFun.closedC cx16_ok (fuel:=20000) (fun b _=>by rw [mkS_get]; rfl) (by kernel_rfl)
theorem no0 (g:Glb) (b:Nat) (F:OP) (cs:List LV) (γ : Nat):(mkS [] g).h.get b≠some (.obj F cs γ):=fun h=>by
 rw [mkS_get] at h; cases h
theorem runs4:SFun prog 8 [] (mkS [] gt4) fun l s'=>l=.bool true∧s'=mkS [] gt4:=by
 intro W0 r w us hI hus
 have hI2:Inv W0 r (mkS [] gt2) w:=⟨hI.below,hI.dom,hI.own,hI.fresh,hI.inj,hI.cells,hI.iter,fun x hx=>hI.gl x (by
  rcases List.mem_cons.1 hx with h | h
  ·rw [h]; exact List.mem_cons_self
  ·rcases List.mem_cons.1 h with h | h
   ·rw [h]; exact List.mem_cons_of_mem _ List.mem_cons_self
   ·cases h),hI.ro,OInv.none (no0 _)⟩
 refine(runs2 W0 r w us hI2 hus).mono fun e w' ⟨l,s',v',r',hl,he,hvv,hIw,hE⟩=>?_
 obtain⟨rfl,rfl⟩:=hl
 exact⟨_,_,v',r',⟨rfl,rfl⟩,he,hvv,⟨hIw.below,hIw.dom,hIw.own,hIw.fresh,hIw.inj,hIw.cells,hIw.iter,hI.gl,hIw.ro,OInv.none (no0 _)⟩,⟨hE.le,hE.n,hE.size,hE.img,hE.keep⟩⟩
end
end Go.Lev
