/- text: read as a contract; the tree of Parse -/
import Derived.Test.YtnkkkihgljbllaaDoorCPC
import Derived.Test.YtnkkkihgljbllaaDoorLc
import Derived.Test.YtnkkkihgljbllaaDoorChecked
import Derived.KernelRfl
import Derived.Test.YtnkkkihgljbllaaDoorLc
namespace Go.Lev
set_option linter.unusedSimpArgs false
set_option linter.unusedVariables false
open Go.RowKit
open Go.Proofs.Tryd (prog)
set_option maxRecDepth 100000
noncomputable section
def pZl (t:List UInt8):Int:=(rdZ t).1.1
def pZc (t:List UInt8):Int:=(rdZ t).1.2.1
def pZe (t:List UInt8):Int:=(rdZ t).1.2.2
def rdNi (t:List UInt8):Nat:=(rdZ t).2.1.length
def rdNl (t:List UInt8):Nat:=(rdZ t).2.2.1.length
def rdNj (t:List UInt8):Nat:=(rdZ t).2.2.2.1.length
def rdLn (t:List UInt8):Int:=(rdZ t).2.2.2.2
def rdAx (t:List UInt8):List LV:=encL inC (rdZ t).2.1
def rdBx (t:List UInt8):List LV:=encL mkC (rdZ t).2.2.1
def rdCx (t:List UInt8):List LV:=encL mkC (rdZ t).2.2.2.1
theorem rd_c (t:List UInt8) (rest:Glb) (k1:okT t=true):SFun prog 31 [.ptr 0 0,.str t] (mkS [.cells [.nils,.nils,.nils,.int .i64 0] none] (tab2 rest)) fun l st=>l=.agg [.int .i64 (pZl t),.int .i64 (pZc t),.int .i64 (pZe t)]∧st=mkS (psH (rdNi t) (rdNl t) (rdNj t) (rdLn t) (rdAx t) (rdBx t) (rdCx t)) (tab2 rest):=rd_ok t rest k1
def rdG:Gc:=fun args s=>match args,s.g with
 | [.ptr p 0,.str t],(g0,F0)::(g1,F1)::rest=>cond (Nat.beq g0 0 && eqbs F0 formsL && (Nat.beq g1 2 && eqbs F1 callsL)) (match s.h.get p with
   | some (.cells [.nils,.nils,.nils,.int .i64 0] none)=>(match s.lay [p] [.cells [.slo s.n 0 (rdNi t) 0,.slo (Nat.succ s.n) 0 (rdNl t) 0,.slo (Nat.succ (Nat.succ s.n)) 0 (rdNj t) 0,.int .i64 (rdLn t)] none] [.cells (rdAx t) (some 5),.cells (rdBx t) (some 4),.cells (rdCx t) (some 4)] with
     | some s'=>some ([okT t],.agg [.int .i64 (pZl t),.int .i64 (pZc t),.int .i64 (pZe t)],s')
     | none=>none)
   | _=>none) none
 | _,_=>none
theorem rdG_ok:GOk prog 31 rdG:=by
 intro args s bs l s' hg hb hfr
 unfold rdG at hg
 split at hg
 ·rename_i p t g0 F0 g1 F1 rest hgl
  cases hc:(Nat.beq g0 0 && eqbs F0 formsL && (Nat.beq g1 2 && eqbs F1 callsL)) with
  | false=>rw [hc] at hg; cases hg
  | true =>
    rw [hc] at hg
    simp only [cond_true] at hg
    rw [Bool.and_eq_true] at hc
    replace hgl:s.g=tab2 rest:=by(have c1:=Bool.and_eq_true_iff.1 hc.1; have c2:=Bool.and_eq_true_iff.1 hc.2; rw [hgl,Nat.eq_of_beq_eq_true c1.1,eqbs_eq c1.2,Nat.eq_of_beq_eq_true c2.1,eqbs_eq c2.2] <;> rfl)
    split at hg
    ·rename_i  hb0
     split at hg
     ·rename_i s1 hs1
      simp only [Option.some.injEq,Prod.mk.injEq] at hg
      obtain⟨rfl,rfl,rfl⟩:=hg
      simp only [allT_cons] at hb
      obtain⟨k1,_⟩:=hb
      have n1:noIds (rdAx t)=true:=noids_in _; have n2:noIds (rdBx t)=true:=noids_mk _; have n3:noIds (rdCx t)=true:=noids_mk _
      refine SFun.lay (bs:=[.cells [.nils,.nils,.nils,.int .i64 0] none]) (args0:=[.ptr 0 0,.str t]) (bs':=[.cells [.slo 1 0 (rdNi t) 0,.slo 2 0 (rdNl t) 0,.slo 3 0 (rdNj t) 0,.int .i64 (rdLn t)] none,.cells (rdAx t) (some 5),.cells (rdBx t) (some 4),.cells (rdCx t) (some 4)]) (v0:=.agg [.int .i64 (pZl t),.int .i64 (pZc t),.int .i64 (pZe t)]) hfr hs1 (by simp)
       ⟨⟨there hfr hb0,_,hb0,by first | exact lb_same rfl | exact lb_cells (lws_cons (lw_noid rfl) (lws_cons (lw_noid rfl) (lws_cons (lw_noid rfl) (lws_cons (lw_int) lws_nil)))) (by simp),fun κ hκ=>lb_cells (lws_cons (lw_noid rfl) (lws_cons (lw_noid rfl) (lws_cons (lw_noid rfl) (lws_cons (lw_int) lws_nil)))) (by simp)⟩,trivial⟩ (by(exact zTl)) ?_
       fun κ h1 h2=>⟨⟨lb_cells (lws_cons (lw_slo (h2 0 (by simp))) (lws_cons (lw_slo (h2 1 (by simp))) (lws_cons (lw_slo (h2 2 (by simp))) (lws_cons (lw_int) lws_nil)))) (by simp),lb_same (by(exact zId)),lb_same (by(exact zId)),lb_same (by(exact zId)),trivial⟩,lw_noid rfl⟩
      rw [hgl]; exact(rd_c t rest k1)
     ·cases hg
    ·cases hg
 ·cases hg
def cxPa:Cx:=cxl [(31,rdG)]
abbrev paL2:List Nat:=[2,3,4,5]
theorem cxPa_ok:CtrOk prog (ctrOf cxPa):=cxl_ok ⟨rdG_ok,trivial⟩
theorem pz_x (t:List UInt8) (rest:Glb) (K:Pk):(xsp prog cxPa 40 32 ((sp prog 14).drop 0) (tm0 [.str t]) (mkS [] (tab2 rest)) (vK paL2 K))=(
 bif xcm .gtr (↑(xsln t)) 4000 then(
 K .ret [.ptr 0 0,.int .i64 1,.int .i64 1,.int .i64 4] [sN [.nils]] (tab2 rest))
 else(
 ck (okT t) <|
 bif xcm .neq (pZe t) 0 then(
 ck (xcm .eql (pZl t) (pZl t)) <|
 ck (xcm .eql (pZl t) (pZl t)) <|
 ck (xcm .eql (pZc t) (pZc t)) <|
 ck (xcm .eql (pZc t) (pZc t)) <|
 ck (xcm .eql (pZe t) (pZe t)) <|
 ck (xcm .eql (pZe t) (pZe t)) <|
 K .ret [.ptr 0 0,.int .i64 (pZl t),.int .i64 (pZc t),.int .i64 (pZe t)] [sN [.nils],sN [.slo 2 0 (rdNi t) 0,.slo 3 0 (rdNl t) 0,.slo 4 0 (rdNj t) 0,.int .i64 (rdLn t)],sC (rdAx t) 5,sC (rdBx t) 4,sC (rdCx t) 4,sN [.int .i64 (pZl t),.int .i64 (pZc t),.int .i64 (pZe t)]] (tab2 rest))
 else(
 K .ret [.ptr 0 0,.int .i64 0,.int .i64 0,.int .i64 0] [sN [.slo 2 0 (rdNi t) 0],sN [.slo 2 0 (rdNi t) 0,.slo 3 0 (rdNl t) 0,.slo 4 0 (rdNj t) 0,.int .i64 (rdLn t)],sC (rdAx t) 5,sC (rdBx t) 4,sC (rdCx t) 4,sN [.int .i64 (pZl t),.int .i64 (pZc t),.int .i64 (pZe t)]] (tab2 rest)))):=by kernel_rfl
def pzG (t:List UInt8):Bool:=decide ((rdZ t).1.2.2=0)
theorem pz_good (t:List UInt8) (rest:Glb) (k1:okT t=true) (k2:pzG t=true):SFun prog 14 [.str t] (mkS [] (tab2 rest)) fun l st=>l=.tup [.agg [.slo 0 0 (rdNi t) 0],.int .i64 0,.int .i64 0,.int .i64 0]∧st=mkS [.cells (rdAx t) (some 5)] (tab2 rest):=by
 refine SFun.mono (SFun.piecesR (Q:=fun l b=>l=.tup [.agg [.slo 0 0 (rdNi t) 0],.int .i64 0,.int .i64 0,.int .i64 0]∧b=[.cells (rdAx t) (some 5)]) 32 0 [.cell 2 33,.tmp 3,.tmp 4,.tmp 5] paL2 (by kernel_rfl) rfl rfl (by kernel_rfl) ?_) fun l s' ⟨b0,⟨h1,h2⟩,h3⟩=>⟨h1,by rw [h3,h2]⟩
 refine SSp.vc cxPa_ok (n:=40) (Nat.zero_le _) ?_
 rw [pz_x]
 obtain⟨t1,t2⟩:=okT_iff.1 k1
 have ne:pZe t=0:=by simpa [pzG,pZe] using k2
 have n1:noIds (rdAx t)=true:=noids_in _
 simp only [show xcm .gtr ((xsln t:Nat):Int) 4000=false from f_gtr (show((t.length:Nat):Int)≤4000 by omega),k1,show xcm .neq (pZe t) 0=false from f_neq ne,cond_true,cond_false]
 exact⟨trivial,rfl,[.agg [.slo 2 0 (rdNi t) 0],.int .i64 0,.int .i64 0,.int .i64 0],.tup [.agg [.slo 0 0 (rdNi t) 0],.int .i64 0,.int .i64 0,.int .i64 0],[.cells (rdAx t) (some 5)],[.id 2],by kernel_rfl,⟨rfl,rfl⟩,by(exact zC)⟩
def pgG:Gc:=fun args s=>match args,s.g with
 | [.str t],(g0,F0)::(g1,F1)::rest=>cond (Nat.beq g0 0 && eqbs F0 formsL && (Nat.beq g1 2 && eqbs F1 callsL)) (match s.lay [] [] [.cells (rdAx t) (some 5)] with
   | some s'=>some ([okT t,pzG t],.tup [.agg [.slo s.n 0 (rdNi t) 0],.int .i64 0,.int .i64 0,.int .i64 0],s')
   | none=>none) none
 | _,_=>none
theorem pgG_ok:GOk prog 14 pgG:=by
 intro args s bs l s' hg hb hfr
 unfold pgG at hg
 split at hg
 ·rename_i t g0 F0 g1 F1 rest hgl
  cases hc:(Nat.beq g0 0 && eqbs F0 formsL && (Nat.beq g1 2 && eqbs F1 callsL)) with
  | false=>rw [hc] at hg; cases hg
  | true =>
    rw [hc] at hg
    simp only [cond_true] at hg
    rw [Bool.and_eq_true] at hc
    replace hgl:s.g=tab2 rest:=by(have c1:=Bool.and_eq_true_iff.1 hc.1; have c2:=Bool.and_eq_true_iff.1 hc.2; rw [hgl,Nat.eq_of_beq_eq_true c1.1,eqbs_eq c1.2,Nat.eq_of_beq_eq_true c2.1,eqbs_eq c2.2] <;> rfl)
    split at hg
    ·rename_i s1 hs1
     simp only [Option.some.injEq,Prod.mk.injEq] at hg
     obtain⟨rfl,rfl,rfl⟩:=hg
     simp only [allT_cons] at hb
     obtain⟨k1,k2,_⟩:=hb
     have n1:noIds (rdAx t)=true:=noids_in _
     refine SFun.lay (bs:=[]) (args0:=[.str t]) (bs':=[.cells (rdAx t) (some 5)]) (v0:=.tup [.agg [.slo 0 0 (rdNi t) 0],.int .i64 0,.int .i64 0,.int .i64 0]) hfr hs1 (by simp)
      trivial (by(exact zTl)) ?_
      fun κ h1 h2=>⟨⟨lb_same (by(exact zId)),trivial⟩,(lw_tup (lws_cons ((lw_agg (lws_cons (lw_slo (h2 0 (by simp))) lws_nil))) (lws_cons (lw_int) (lws_cons (lw_int) (lws_cons (lw_int) lws_nil)))))⟩
     rw [hgl]; exact(pz_good t rest k1 k2)
    ·cases hg
 ·cases hg
end
end Go.Lev
