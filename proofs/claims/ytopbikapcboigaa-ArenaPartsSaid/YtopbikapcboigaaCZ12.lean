/- chapter 11: Whole of both and Apply over a row of one's own -/
import Derived.Test.YtopbikapcboigaaCZ11
import Derived.Test.YtopbikapcboigaaLc
import Derived.Test.YtopbikapcboigaaChecked
import Derived.KernelRfl
namespace Go.Lev
set_option linter.unusedSimpArgs false
set_option linter.unusedVariables false
open Go.RowKit
open Go.Proofs.Try (prog)
set_option maxRecDepth 100000
noncomputable section
theorem vwh_c (n:Nat) (ws:List LV) (most:Int) (k1:okIu64 ws n=true) (k2:xle n 1000000=true):SFun prog 10 [.slo 0 0 n 0,.int .i64 most] (mkS [.cells ws (some 1)]) fun l t=>l=.ptr 1 0∧t=mkS (wgH ws (szQ n) (vhN n) (vhC ws n) (spW (szQ n) (vhC ws n)) (xmn (xmx most 0) 96) newC):=by
 obtain⟨us,rfl,rfl,h⟩:=okIu64_iff.1 k1
 rw [wd_le,decide_eq_true_eq] at k2
 simp only [szQ,vhN,vhC,spW_enc,decIu64_enc]
 exact wg_ok us k2 most
theorem vxh_c (n:Nat) (ws:List LV) (most:Int) (k1:okIu64 ws n=true) (k2:xle n 1000000=true):SFun prog 20 [.slo 0 0 n 0,.int .i64 most] (mkS [.cells ws (some 1)]) fun l t=>l=.ptr 1 0∧t=mkS (xgH ws (szQ n) (vhN n) (vhC ws n) (xmn (xmx most 0) 96) newC):=by
 obtain⟨us,rfl,rfl,h⟩:=okIu64_iff.1 k1
 rw [wd_le,decide_eq_true_eq] at k2
 simp only [szQ,vhN,vhC,decIu64_enc]
 exact xg_ok us k2 most
theorem Iu_noids {ws:List LV} {n:Nat} (h:okIu64 ws n=true):noIds ws=true:=by obtain⟨_,e,_⟩:=okIu64_iff.1 h; rw [e]; exact noIds_Iu64 _
def whO:Gc:=fun args s=>match args,s.g with
 | [.slo r 0 n 0,.int .i64 most],[]=>(match s.h.get r with
   | some (.cells ws (some 1))=>(match s.lay [r] [.cells ws (some 1)] [.cells [.slo (Nat.succ s.n) 0 (vhN n) 0,.slo (Nat.succ (Nat.succ s.n)) 0 (szQ n) 0,.int .i64 0,.ptr (Nat.succ (Nat.succ (Nat.succ s.n))) 0] none,.cells (vhC ws n) (some 2),.cells (spW (szQ n) (vhC ws n)) (some 1),.cells [.int .i64 (xmn (xmx most 0) 96),.slo (Nat.succ (Nat.succ (Nat.succ (Nat.succ s.n)))) 0 1 0] none,.obj lvF newC (Nat.succ (Nat.succ (Nat.succ (Nat.succ (Nat.succ s.n))))),.dead] with
     | some s'=>some ([okIu64 ws n,xle n 1000000],.ptr s.n 0,s')
     | none=>none)
   | _=>none)
 | _,_=>none
theorem whO_ok:GOk prog 10 whO:=by
 intro args s bs l s' hg hb hfr
 unfold whO at hg
 split at hg
 ·rename_i r n most hgl
  split at hg
  ·rename_i ws hb0
   split at hg
   ·rename_i s1 hs1
    simp only [Option.some.injEq,Prod.mk.injEq] at hg
    obtain⟨rfl,rfl,rfl⟩:=hg
    simp only [allT_cons] at hb
    obtain⟨k1,k2,_⟩:=hb
    have no:noIds ws=true:=Iu_noids k1
    refine SFun.lay (bs:=[.cells ws (some 1)]) (args0:=[.slo 0 0 n 0,.int .i64 most]) (bs':=[.cells ws (some 1),.cells [.slo 2 0 (vhN n) 0,.slo 3 0 (szQ n) 0,.int .i64 0,.ptr 4 0] none,.cells (vhC ws n) (some 2),.cells (spW (szQ n) (vhC ws n)) (some 1),.cells [.int .i64 (xmn (xmx most 0) 96),.slo 5 0 1 0] none,.obj lvF newC 6,.dead]) (v0:=.ptr 1 0) hfr hs1 (by simp)
     ⟨⟨there hfr hb0,_,hb0,lb_same (by(exact zId)),fun κ hκ=>lb_same (by(exact zId))⟩,trivial⟩ (by(exact zTl)) ?_
     fun κ h1 h2=>⟨⟨lb_same (by(exact zId)),lb_cells (lws_cons (lw_slo (h2 1 (by simp))) (lws_cons (lw_slo (h2 2 (by simp))) (lws_cons (lw_int) (lws_cons (lw_ptr (h2 3 (by simp))) lws_nil)))) (by simp),lb_same (noids_c _),lb_same (spW_noids _ _),lb_cells (lws_cons (lw_int) (lws_cons (lw_slo (h2 4 (by simp))) lws_nil)) (by simp),lb_obj (h2 5 (by simp)),lb_dead,trivial⟩,lw_ptr (h2 0 (by simp))⟩
    rw [hgl]; exact(vwh_c n ws most k1 k2)
   ·cases hg
  ·cases hg
 ·cases hg
def xhO:Gc:=fun args s=>match args,s.g with
 | [.slo r 0 n 0,.int .i64 most],[]=>(match s.h.get r with
   | some (.cells ws (some 1))=>(match s.lay [r] [.cells ws (some 1)] [.cells [.int .i64 (.ofNat (szQ n)),.slo (Nat.succ s.n) 0 (vhN n) 0,.ptr (Nat.succ (Nat.succ s.n)) 0,.int .i64 0] none,.cells (vhC ws n) (some 2),.cells [.int .i64 (xmn (xmx most 0) 96),.slo (Nat.succ (Nat.succ (Nat.succ s.n))) 0 1 0] none,.obj orF newC (Nat.succ (Nat.succ (Nat.succ (Nat.succ s.n)))),.dead] with
     | some s'=>some ([okIu64 ws n,xle n 1000000],.ptr s.n 0,s')
     | none=>none)
   | _=>none)
 | _,_=>none
theorem xhO_ok:GOk prog 20 xhO:=by
 intro args s bs l s' hg hb hfr
 unfold xhO at hg
 split at hg
 ·rename_i r n most hgl
  split at hg
  ·rename_i ws hb0
   split at hg
   ·rename_i s1 hs1
    simp only [Option.some.injEq,Prod.mk.injEq] at hg
    obtain⟨rfl,rfl,rfl⟩:=hg
    simp only [allT_cons] at hb
    obtain⟨k1,k2,_⟩:=hb
    have no:noIds ws=true:=Iu_noids k1
    refine SFun.lay (bs:=[.cells ws (some 1)]) (args0:=[.slo 0 0 n 0,.int .i64 most]) (bs':=[.cells ws (some 1),.cells [.int .i64 (.ofNat (szQ n)),.slo 2 0 (vhN n) 0,.ptr 3 0,.int .i64 0] none,.cells (vhC ws n) (some 2),.cells [.int .i64 (xmn (xmx most 0) 96),.slo 4 0 1 0] none,.obj orF newC 5,.dead]) (v0:=.ptr 1 0) hfr hs1 (by simp)
     ⟨⟨there hfr hb0,_,hb0,lb_same (by(exact zId)),fun κ hκ=>lb_same (by(exact zId))⟩,trivial⟩ (by(exact zTl)) ?_
     fun κ h1 h2=>⟨⟨lb_same (by(exact zId)),lb_cells (lws_cons (lw_int) (lws_cons (lw_slo (h2 1 (by simp))) (lws_cons (lw_ptr (h2 2 (by simp))) (lws_cons (lw_int) lws_nil)))) (by simp),lb_same (noids_c _),lb_cells (lws_cons (lw_int) (lws_cons (lw_slo (h2 3 (by simp))) lws_nil)) (by simp),lb_obj (h2 4 (by simp)),lb_dead,trivial⟩,lw_ptr (h2 0 (by simp))⟩
    rw [hgl]; exact(vxh_c n ws most k1 k2)
   ·cases hg
  ·cases hg
 ·cases hg
