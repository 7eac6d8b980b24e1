import Derived.Test.YtnkkkihgljbllaaDoorCQ9
import Derived.Test.YtnkkkihgljbllaaDoorLc
import Derived.Test.YtnkkkihgljbllaaDoorChecked
import Derived.KernelRfl
import Derived.Test.YtnkkkihgljbllaaDoorCZ8
/- text: printable -/
namespace Go.Lev
set_option linter.unusedSimpArgs false
set_option linter.unusedVariables false
open Go.RowKit
open Go.Proofs.Tryd (prog)
set_option maxRecDepth 100000
noncomputable section
end
end Go.Lev
/- text: Print of both: their trees -/
namespace Go.Lev
set_option linter.unusedSimpArgs false
set_option linter.unusedVariables false
open Go.RowKit
open Go.Proofs.Tryd (prog)
set_option maxRecDepth 100000
noncomputable section
instance:Inhabited OP:=⟨⟨0,fun _ _ _ _ _=>True,fun h=>absurd h (by decide),fun h=>absurd h (by decide)⟩⟩
end
end Go.Lev
/- text: what a program's text is; the piece around the new builder -/
namespace Go.Lev
set_option linter.unusedSimpArgs false
set_option linter.unusedVariables false
open Go.RowKit
open Go.Proofs.Tryd (prog)
set_option maxRecDepth 100000
noncomputable section
theorem f0g:a9g prog 63=some (.agg #[.pointer none,.slice none 0 0]):=by kernel_rfl
end
end Go.Lev
/- text: Print -/
namespace Go.Lev
set_option linter.unusedSimpArgs false
set_option linter.unusedVariables false
open Go.RowKit
open Go.Proofs.Tryd (prog)
set_option maxRecDepth 100000
noncomputable section
end
end Go.Lev
/- text: the reference's Print -/
namespace Go.Lev
set_option linter.unusedSimpArgs false
set_option linter.unusedVariables false
open Go.RowKit
open Go.Proofs.Tryd (prog)
set_option maxRecDepth 100000
noncomputable section
end
end Go.Lev
/- text: contracts of both Prints -/
namespace Go.Lev
set_option linter.unusedSimpArgs false
set_option linter.unusedVariables false
open Go.RowKit
open Go.Proofs.Tryd (prog)
set_option maxRecDepth 100000
noncomputable section
end
end Go.Lev
/- text: the chapter's runs as a contract -/
namespace Go.Lev
set_option linter.unusedSimpArgs false
set_option linter.unusedVariables false
open Go.RowKit
open Go.Proofs.Tryd (prog)
set_option maxRecDepth 100000
noncomputable section
abbrev gt2:Glb:=[(0,a2h),(2,a2n)]
def eqG:Glb→Glb→Bool
 | [],[]=>true
 | (a,x)::r,(b,y)::t=>Nat.beq a b && a2x x y && eqG r t
 | _,_=>false
theorem d2q:∀ {a b:Glb},eqG a b=true→a=b
 | [],[],_=>rfl
 | (a,x)::r,(b,y)::t,h=>by
   simp only [eqG,Bool.and_eq_true] at h
   rw [Nat.eq_of_beq_eq_true h.1.1,a1f h.1.2,d2q h.2]
 | [],_::_,h=>by simp [eqG] at h
 | _::_,[],h=>by simp [eqG] at h
abbrev c6c:List LV:=[.int .i64 20,.int .i64 0,.int .i64 0,.int .i64 0,.int .u64 0]
abbrev d8e:List UInt8:=[114,101,116,114,121,10]
def cxb:Cx:=cxl [(25,wrS 63 5),(28,stS 63 5)]
theorem d6x:a3w prog (a2z cxb):=a6i ⟨f1k,f1z,trivial⟩
def g2a (f nt k d:Nat) (tm:Tm) (s:St):Option (LX×Tm×St):=match lsp prog (a2z cxb) 20000 nt (seg (sp prog f) 0 k) tm s with
 | some (.normal,tm1,s1)=>(match c7j 63 5 nt d tm1 s1 with
   | some (tm2,s2)=>cond (Nat.ble 1 s1.n && Nat.ble 1 s2.n) (lsp prog (a2z cxb) 20000 nt ((sp prog f).drop (k+1)) tm2 s2) none
   | none=>none)
 | _=>none
def g2n:Option (LX×Tm×St)→Bool
 | some (.ret,tm,s)=>eqG s.g gt2 && a2x [a0q tm 2] [.str d8e] && Nat.ble 1 s.n && (match s.h.get 0 with
   | some (.cells cs none)=>a2x cs c6c
   | _=>false)
 | _=>false
theorem d0o:g2n (g2a 12 58 6 6 (tm0 [.agg [.sl 0 0 1 1]]) (mkS [.cells c6c none] gt2))=true:=by kernel_rfl
theorem d0p:a0k prog 12 [.agg [.sl 0 0 1 1]] (mkS [.cells c6c none] gt2) fun l s'=>l=.str d8e∧s'=mkS [.cells c6c none] gt2:=by
 refine a0k.mono (a0k.g9n (Q:=fun l bs=>l=.str d8e∧bs=[.cells c6c none]) 58 1 [2] [2] (by kernel_rfl) rfl (by kernel_rfl) rfl ?_) fun l s' ⟨b0,⟨h1,h2⟩,h3⟩=>⟨h1,by rw [h3,h2]⟩
 have hrun:=d0o
 unfold g2a at hrun
 cases h1:lsp prog (a2z cxb) 20000 58 (seg (sp prog 12) 0 6) (tm0 [.agg [.sl 0 0 1 1]]) (mkS [.cells c6c none] gt2) with
 | none=>rw [h1] at hrun; cases hrun
 | some p =>
   obtain⟨x,tm1,s1⟩:=p
   rw [h1] at hrun
   cases x with
   | exit k=>cases hrun
   | ret=>cases hrun
   | normal =>
     simp only at hrun
     cases h2:c7j 63 5 58 6 tm1 s1 with
     | none=>rw [h2] at hrun; cases hrun
     | some q =>
       obtain⟨tm2,s2⟩:=q
       rw [h2] at hrun
       simp only at hrun
       cases hc:(Nat.ble 1 s1.n && Nat.ble 1 s2.n) with
       | false=>rw [hc] at hrun; cases hrun
       | true =>
       rw [hc] at hrun
       simp only [cond_true] at hrun
       simp only [Bool.and_eq_true] at hc
       have hc1:=Nat.le_of_ble_eq_true hc.1
       have hc2:=Nat.le_of_ble_eq_true hc.2
       cases h3:lsp prog (a2z cxb) 20000 58 ((sp prog 12).drop (6+1)) tm2 s2 with
       | none=>rw [h3] at hrun; cases hrun
       | some r =>
         obtain⟨y,tm3,s3⟩:=r
         rw [h3] at hrun
         cases y with
         | exit k=>cases hrun
         | normal=>cases hrun
         | ret =>
           simp only [g2n,Bool.and_eq_true] at hrun
           obtain⟨⟨⟨e1,e2⟩,e4⟩,e3⟩:=hrun
           rw [b9m _ 0 6]
           have hn1:1≤(mkS [.cells c6c none] gt2).n:=by rw [a2p]; exact Nat.le_refl _
           refine SSp.join (SSp.lrun d6x hn1 h1 ?_)
           show SSp prog 58 ((sp prog 12).drop (0+6)) 1 tm1 s1 _
           rw [a6b _ _ (by decide +kernel)]
           refine c8q (T:=63) (e:=5) (d:=6) (by kernel_rfl) f0g hc1 h2 ?_
           refine SSp.lrun d6x hc2 h3 ⟨trivial,d2q e1,.str d8e,[.cells c6c none],[.id 0],⟨rfl,rfl⟩,?_⟩
           refine⟨rfl,⟨?_,trivial⟩,⟨?_,trivial⟩⟩
           ·show LVW _ (.str d8e) (a0q tm3 2)
            have:=a1f e2
            simp only [List.cons.injEq,and_true] at this
            rw [this]; simp only [LVW]
           ·show LBW _ (.id 0) (.cells c6c none) (c2v (a5g s3) 0)
            split at e3
            ·rename_i cs hcs
             have hcs':=a1f e3
             subst hcs'
             have hlt:0 < s3.n:=Nat.le_of_ble_eq_true e4
             have:c2v (a5g s3) 0=some (.cells c6c none):=by
              unfold c2v a5g
              rw [a7l,if_pos hlt]
              simpa using hcs
             rw [this]
             exact a0e rfl
            ·cases e3
def d0r:Gc:=fun args s=>match args with
 | [.agg [.sl b 0 1 1]]=>(match s.h.get b with
   | some (.cells cs none)=>cond (a2x cs c6c && eqG s.g gt2) (some ([],.str d8e,s)) none
   | _=>none)
 | _=>none
theorem d0q:GOk prog 12 d0r:=by
 intro args s bs l s' hg hb hfr
 unfold d0r at hg
 split at hg
 ·rename_i b
  split at hg
  ·rename_i cs hb1
   cases hc:(a2x cs c6c && eqG s.g gt2) with
   | false=>rw [hc] at hg; cases hg
   | true =>
     rw [hc] at hg
     simp only [cond_true,Option.some.injEq,Prod.mk.injEq] at hg
     obtain⟨rfl,rfl,rfl⟩:=hg
     simp only [Bool.and_eq_true] at hc
     have e1:=a1f hc.1
     have e2:=d2q hc.2
     subst e1
     have hlt:=a3j hfr hb1
     refine a0k.lift (ρ:=[b]) (bs:=[.cells c6c none]) (bs':=[.cells c6c none]) (args0:=[.agg [.sl 0 0 1 1]]) (v0:=.str d8e) hfr (by simp) ⟨⟨hlt,_,hb1,a0e rfl,fun κ hκ=>a0e rfl⟩,trivial⟩ ?_ (by rw [e2]; exact d0p) (by simp) ⟨?_,rfl,fun c hc hcb=>rfl,hfr,?_,?_⟩ ?_
     ·simp [a5i,LVW,b1j]
     ·simp
     ·intro i c L' hi hL
      match i,hi with
      | 0,hi =>
        simp at hi; subst hi
        rw [hb1] at hL; cases hL
        exact a0e rfl
      | i+1,hi=>simp at hi
     ·intro j L' hj hL
      simp at hj
     ·simp only [LVW]
  ·cases hg
 ·cases hg
def g8o:Cx:=cxl [(12,d0r)]
theorem d9u:a3w prog (a2z g8o):=a6i ⟨d0q,trivial⟩
theorem f7s:a0k prog 8 [] (mkS [] gt2) fun l s'=>l=.bool true∧s'=mkS [] gt2 :=
 a0k.g9p d9u (fuel:=20000) (fun b _=>by rw [a0s]; rfl) (by kernel_rfl)
theorem no0 (g:Glb) (b:Nat) (F:OP) (cs:List LV) (γ : Nat):(mkS [] g).h.get b≠some (.obj F cs γ):=fun h=>by
 rw [a0s] at h; cases h
theorem f7r:a0k prog 8 [] (mkS [] gt4) fun l s'=>l=.bool true∧s'=mkS [] gt4:=by
 intro W0 r w us hI hus
 have hI2:Inv W0 r (mkS [] gt2) w:=⟨hI.below,hI.dom,hI.own,hI.fresh,hI.inj,hI.cells,hI.iter,fun x hx=>hI.gl x (by
  rcases List.mem_cons.1 hx with h | h
  ·rw [h]; exact List.mem_cons_self
  ·rcases List.mem_cons.1 h with h | h
   ·rw [h]; exact List.mem_cons_of_mem _ List.mem_cons_self
   ·cases h),hI.ro,c0d.none (no0 _)⟩
 refine(f7s W0 r w us hI2 hus).mono fun e w' ⟨l,s',v',r',hl,he,hvv,hIw,hE⟩=>?_
 obtain⟨rfl,rfl⟩:=hl
 exact⟨_,_,v',r',⟨rfl,rfl⟩,he,hvv,⟨hIw.below,hIw.dom,hIw.own,hIw.fresh,hIw.inj,hIw.cells,hIw.iter,hI.gl,hIw.ro,c0d.none (no0 _)⟩,⟨hE.le,hE.n,hE.size,hE.img,hE.keep⟩⟩
end
end Go.Lev
